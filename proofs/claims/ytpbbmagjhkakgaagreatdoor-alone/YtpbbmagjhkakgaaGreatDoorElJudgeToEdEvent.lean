import Derived.Test.YtpbbmagjhkakgaaGreatDoorEvWorkToEvTake3
import Derived.Test.YtpbbmagjhkakgaaGreatDoorLfSendsToPureLoose
import Derived.Test.YtpbbmagjhkakgaaGreatDoorEvStateToEaMany
import Derived.Test.YtpbbmagjhkakgaaGreatDoorEvAddToEvAdd2
import Derived.Test.YtpbbmagjhkakgaaGreatDoorEaSortToEdTake3
namespace Go.Proofs.YtpbbmagjhkakgaaGreatDoor
namespace Ev
open Go.RowKit Go.Deep
def pe0:Pe:=⟨0,0,[],[]⟩
def gS (K:List Key) (E:List Pe):Nat->List Pe
 | 0=>[]
 | j+1=>gS K E j++[b9 (gS K E j).reverse K (E.getD j pe0).bare]
theorem vd (K:List Key) (E:List Pe):∀ j,(gS K E j).length=j
 | 0=>rfl
 | j+1=>by simp [gS,vd K E j]
theorem judL_row (K:List Key) (E:List Pe):∀ j,∀ e∈gS K E j,e.so.length=K.length+1
 | 0,e,h=>by simp [gS] at h
 | j+1,e,h=>by
  rcases List.mem_append.1 h with h | h
  ·exact judL_row K E j e h
  ·simp only [List.mem_singleton] at h
   subst h
   rw [(eZ _ K _).2.2.2.1]
   simp [Pe.bare]
   omega
theorem flatE_setAt:∀ (C:List bx) (j:Nat) (c:bx) (sb sl sc:Nat),C[j]? = some c->(dk C).set (j*4+3) (.slice (some ⟨sb,0,none⟩) sl sc)=dk (C.set j (c.cC sb sl sc))
 | [],j,c,sb,sl,sc,h=>by simp at h
 | d::C,0,c,sb,sl,sc,h=>by
  simp at h
  subst h
  rfl
 | d::C,j+1,c,sb,sl,sc,h=>by
  have ih:=flatE_setAt C j c sb sl sc (by simpa using h)
  have e1:dk (d::C)=bf d++dk C:=rfl
  have e2:(d::C).set (j+1) (c.cC sb sl sc)=d::C.set j (c.cC sb sl sc):=rfl
  have e3:dk (d::C.set j (c.cC sb sl sc))=bf d++dk (C.set j (c.cC sb sl sc)):=rfl
  have h4:(bf d).length=4:=rfl
  rw [e1,e2,e3,<- ih,List.set_append]
  rw [if_neg (by rw [h4];omega),h4]
  congr 2
  omega
structure JInv (aj:Nat) (rt rm pv:Value) (no:Option Addr) (aI:Nat) (K:List Key) (g cap:Nat) (C:List bx) (E:List Pe) (w:World) (j:Nat) (Cs:List bx) (wr:World):Prop where
 hw:wr.heap[aj]? = some (.cells #[rt,rm,.slice no K.length aI,.slice (some ⟨g,0,none⟩) C.length cap,pv] 153 (0,0))
 uC:bY wr (.slice (some ⟨g,0,none⟩) C.length cap) Cs
 len:Cs.length=C.length
 same:∀ (i:Nat) c c0,Cs[i]? = some c->C[i]? = some c0->c.number=c0.number/\c.time=c0.time/\c.ao=c0.ao/\c.al=c0.al/\c.ac=c0.ac
 done:∀ (i:Nat) c e,i<j->Cs[i]? = some c->(gS K E j)[i]? = some e->cZ wr c e
 typed:∀ c∈Cs,EvT wr c
 later:∀ i,j<=i->Cs[i]? = C[i]?
 sp:aY (fun b=>b=aj\/b=g) w wr
theorem cZ.pre {w:World} {c:bx} {e:Pe} (h:cZ w c e):qh w c e:=⟨h.number,h.time,h.low,h.al,h.alen,h.atoms⟩
set_option maxRecDepth 100000 in
set_option maxHeartbeats 8000000 in
theorem judge_any (aj:Nat) (rt rm nv pv:Value) (no:Option Addr) (aI:Nat) (K:List Key) (g cap:Nat) (C:List bx) (E:List Pe) (w:World)
  (hw:w.heap[aj]? = some (.cells #[rt,rm,nv,.slice (some ⟨g,0,none⟩) C.length cap,pv] 153 (0,0))) (hE:bY w (.slice (some ⟨g,0,none⟩) C.length cap) C) (hlen:C.length=E.length) (hIn:∀ (i:Nat) c e,C[i]? = some c->E[i]? = some e->cZ w c e) (hT:∀ c∈C,EvT w c) (hn:C.length<=1000)
  (hK:K.length<=1000) (hnc:K.length<=aI) (hN:eB w no K) (hNt:∀ a,no=some a->∃ cs m,w.heap[a.block]? = some (.cells cs 226 m)) (aN:∀ k∈K,ib k.op) (hAh:qg K) :
  Calls Tryz.prog 142 #[.pointer (some ⟨aj,0,none⟩),.slice no K.length aI] w fun e w'=>e=.returned (.tuple #[])/\∃ Cs,JInv aj rt rm pv no aI K g cap C E w C.length Cs w':=by
 have hwl:=aw hw
 have hgl:g<w.heap.size:=(hE.lt g rfl).2
 obtain ⟨cg0,hg0⟩:=dG hE (g:=g) rfl
 have hgw:g≠aj:=by
  rintro rfl
  rw [hw] at hg0
  cases hg0
 have cW:C.length<=cap:=by
  rcases hE.cases with ⟨h1,_⟩ | ⟨g',cp,js,h1,_,_⟩
  ·cases h1
  ·cases js;exact h1
 have hng:∀ a,no=some a->a.block≠g/\a.block≠aj/\a.block<w.heap.size:=fun a ha=>by
  obtain ⟨cs,m,h1⟩:=hNt a ha
  refine ⟨?_,?_,aw h1⟩
  ·intro e;rw [e,hg0] at h1;cases h1
  ·intro e;rw [e,hw] at h1;cases h1
 have hf0:w.frozen? ⟨aj,2,none⟩=false:=Lib.frozen_of_heap hw 2
 have c2:=ae (i:=2) hw rfl
 have c3:=ae (i:=3) hw rfl
 have hstart:JInv aj rt rm pv no aI K g cap C E w 0 C (w.setCell ⟨aj,2,none⟩ (.slice no K.length aI)):=by
  have ho:Only aj w (w.setCell ⟨aj,2,none⟩ (.slice no K.length aI)):=(Only.refl aj w).setCell (p:=⟨aj,2,none⟩) (.inl rfl) _
  have hs:aY (fun b=>b=aj\/b=g) w (w.setCell ⟨aj,2,none⟩ (.slice no K.length aI)):=aY.kg ho (fun x hx=>.inl hx)
  refine ⟨b7 (i:=2) hw,dw hE fun b hb=>ho.block b (hE.lt b hb).2 (by cases hb;exact hgw),rfl,fun i c c0 h1 h2=>by rw [h1] at h2;cases h2;exact ⟨rfl,rfl,rfl,rfl,rfl⟩,fun i c e h=>by omega,fun c hc=>?_,fun i _=>rfl,hs⟩
  refine (hT c hc).spare hs (fun a ha=>?_) (fun a ha=>?_)
  ·obtain ⟨cs,m,h1⟩:=(hT c hc).so a ha
   rintro (e | e)
   ·rw [e,hw] at h1;cases h1
   ·rw [e,hg0] at h1;cases h1
  ·obtain ⟨cs,m,h1⟩:=(hT c hc).ao a ha
   rintro (e | e)
   ·rw [e,hw] at h1;cases h1
   ·rw [e,hg0] at h1;cases h1
 have kU:∀ (j:Nat) (Cs:List bx) (wr:World),j<C.length->JInv aj rt rm pv no aI K g cap C E w j Cs wr->Calls Tryz.prog 132 #[.slice no K.length aI,.slice (some ⟨g,0,none⟩) (j+1) cap] wr fun e W'=>(∃ v,e=.returned v)/\∃ Cs',JInv aj rt rm pv no aI K g cap C E w (j+1) Cs' W':=by
  intro j Cs wr hj hI
  have hjs:j<Cs.length:=by rw [hI.len];exact hj
  have hjE:j<E.length:=by omega
  have evs':wr.ownsRow 0 159 4 (.slice (some ⟨g,0,none⟩) Cs.length cap) Cs.length (dk Cs):=by have:=hI.uC;rw [<- hI.len] at this;exact this
  obtain ⟨cg,hcg,hcell,hcp,sa,hcsz,hctk⟩:=row_array evs' rfl
  have hcj:Cs[j]? = C[j]?:=hI.later j (Nat.le_refl _)
  obtain ⟨c,hc⟩:∃ c,Cs[j]? = some c:=⟨Cs[j],List.getElem?_eq_getElem hjs⟩
  have lj:C[j]? = some c:=hcj▸hc
  have tP:=hIn j c E[j] lj (List.getElem?_eq_getElem hjE)
  have hTc:=hT c (List.mem_of_getElem? lj)
  have hgd:∀ i,Cs.getD i c=(Cs[i]?).getD c:=fun i=>by rw [List.getD_eq_getElem?_getD]
  have hcd:Cs.getD j c=c:=by rw [hgd,hc];rfl
  have hjl:=vd K E j
  have hEf:∀ i,i<j->(gS K E j++[E[j]]).getD i pe0=(gS K E j).getD i pe0:=fun i hi=>by
   rw [List.getD_eq_getElem?_getD,List.getD_eq_getElem?_getD,List.getElem?_append_left (by omega)]
  have hEj:(gS K E j++[E[j]]).getD j pe0=E[j]:=by
   rw [List.getD_eq_getElem?_getD,List.getElem?_append_right (by omega),hjl];simp
  have hmemT:∀ i,i<Cs.length->EvT wr (Cs.getD i c):=fun i hi=>hI.typed _ (by rw [hgd,List.getElem?_eq_getElem hi];exact List.getElem_mem hi)
  have hnotc:∀ a cs t m,w.heap[a]? = some (.cells cs t m)->t≠153->t≠159->¬ (a=aj\/a=g):=fun a cs t m h1 h2 h3 h4=>by
   rcases h4 with e | e
   ·rw [e,hw] at h1;injection h1 with h1;injection h1 with _ h1 _;exact h2 h1.symm
   ·rw [e,hg0] at h1;injection h1 with h1;injection h1 with _ h1 _;exact h3 h1.symm
  have hpre:qh wr c E[j]:=by
   have h1:=tP.pre
   refine ⟨h1.number,h1.time,h1.low,h1.al,h1.alen,fun hne=>?_⟩
   obtain ⟨b,off,a1,a2,a3⟩:=h1.atoms hne
   obtain ⟨cs,m,k1⟩:=hTc.ao _ a1
   have hb:wr.heap[b]? = w.heap[b]?:=hI.sp.block b a2 (hnotc b cs 9 m k1 (by decide) (by decide))
   exact ⟨b,off,a1,Nat.lt_of_lt_of_le a2 hI.sp.size,fun q hq=>by rw [World.cell?_of_block hb];exact a3 q hq⟩
  have hNr:eB wr no K:=hN.spare hI.sp (fun a ha=>by obtain ⟨h1,h2,_⟩:=hng a ha;exact fun h=>h.elim h2 h1)
  have hwo:=workOut_any no aI K g cap j cg (fun i=>Cs.getD i c) (fun i=>(gS K E j++[E[j]]).getD i pe0) wr (by omega) (by omega) hK hnc hcg
   (fun i k v hi hv=>by
    have qo:i<Cs.length:=by omega
    have:(Cs.getD i c)=Cs[i]:=by rw [hgd,List.getElem?_eq_getElem qo];rfl
    rw [this] at hv
    exact hcell _ _ (kn bf 4 (fun _=>rfl) Cs i k Cs[i] v (List.getElem?_eq_getElem qo) hv))
   hNr (fun a ha=>(hng a ha).1) aN hAh
   (fun i hi=>by
    have qo:i<Cs.length:=by omega
    rw [hEf i hi]
    have e1:(gS K E j)[i]? = some ((gS K E j).getD i pe0):=by rw [List.getD_eq_getElem?_getD,List.getElem?_eq_getElem (by omega)];rfl
    refine hI.done i _ _ hi ?_ e1
    rw [hgd,List.getElem?_eq_getElem qo];rfl)
   (fun i hi=>by
    rw [hEf i hi]
    refine judL_row K E j _ ?_
    rw [List.getD_eq_getElem?_getD,List.getElem?_eq_getElem (by omega)]
    exact List.getElem_mem _)
   (fun i hi=>(hmemT i (by omega)).off hcg)
   (by show qh wr (Cs.getD j c) ((gS K E j++[E[j]]).getD j pe0);rw [hcd,hEj];exact hpre)
   (fun a ha=>by
    have:=(hmemT j hjs).off hcg
    exact this.ao a ha)
  refine hwo.mono ?_
  rintro e W' ⟨sb,sc,cur,rfl,s1,s2,s3,s4,s5⟩
  refine ⟨⟨_,rfl⟩,Cs.set j (c.cC sb (K.length+1) sc),?_⟩
  have hbk:cv (fun i=>(gS K E j++[E[j]]).getD i pe0) j=(gS K E j).reverse:=by
   rw [qO hEf]
   have:=backL_list (gS K E j) pe0
   rw [hjl] at this
   exact this
  have hEd:E.getD j pe0=E[j]:=by rw [List.getD_eq_getElem?_getD,List.getElem?_eq_getElem hjE];rfl
  have s5':cZ W' (c.cC sb (K.length+1) sc) (b9 (gS K E j).reverse K (E.getD j pe0).bare):=by
   have:=s5
   simp only [hbk,hEj,hcd] at this
   rw [hEd]
   exact this
  have hsp2:aY (fun b=>b=aj\/b=g) wr W':=aY.kg s2 (fun x hx=>.inr hx)
  have hwW:W'.heap[aj]? = wr.heap[aj]?:=s2.block aj (aw hI.hw) (fun e=>hgw e.symm)
  refine ⟨hwW.trans hI.hw,?_,by rw [List.length_set,hI.len],?_,?_,?_,?_,hI.sp.trans hsp2⟩
  ·show W'.ownsRow 0 159 4 _ _ _
   rw [List.length_set,<- flatE_setAt Cs j c sb (K.length+1) sc hc]
   refine ⟨by rw [List.length_set];exact evs'.1,.inr ⟨g,cap,_,by rw [hI.len],Nat.zero_le _,s3,hcp,sa,by simp [hcsz],?_⟩⟩
   rw [Array.toList_setIfInBounds,List.take_set,hctk]
  ·intro i d d0 h1 h2
   by_cases hij:i=j
   ·subst hij
    rw [List.getElem?_set_self hjs] at h1
    cases h1
    rw [lj] at h2
    cases h2
    exact ⟨rfl,rfl,rfl,rfl,rfl⟩
   ·rw [List.getElem?_set_ne (fun e=>hij e.symm)] at h1
    exact hI.same i d d0 h1 h2
  ·intro i d e hi h1 h2
   by_cases hij:i=j
   ·subst hij
    rw [List.getElem?_set_self hjs] at h1
    cases h1
    rw [gS,List.getElem?_append_right (by omega),hjl] at h2
    simp at h2
    subst h2
    exact s5'
   ·rw [List.getElem?_set_ne (fun e=>hij e.symm)] at h1
    rw [gS,List.getElem?_append_left (by omega)] at h2
    exact (hI.done i d e (by omega) h1 h2).only ((hI.typed d (List.mem_of_getElem? h1)).off hcg) s2
  ·intro d hd
   rcases List.mem_or_eq_of_mem_set hd with hd | rfl
   ·have hdT:=hI.typed d hd
    have hof:=hdT.off hcg
    exact hdT.spare (aY.kg s2 (P:=fun b=>b=g) (fun x hx=>hx)) hof.so hof.ao
   ·have hcT:=hI.typed c (List.mem_of_getElem? hc)
    have hof:=hcT.off hcg
    refine ⟨fun a ha=>?_,fun a ha=>?_⟩
    ·have:some (⟨sb,0,none⟩:Addr)=some a:=ha
     cases this
     exact ⟨cur,(0,0),s4⟩
    ·obtain ⟨cs,m,k1⟩:=hcT.ao a ha
     exact ⟨cs,m,(s2.block _ (aw k1) (hof.ao a ha)).trans k1⟩
  ·intro i hi
   rw [List.getElem?_set_ne (by omega)]
   exact hI.later i (by omega)
 have HS:Hid _:=kU
 have HI0:Hid _:=hstart
 have Hc3:Hid (∀ j Cs wr,JInv aj rt rm pv no aI K g cap C E w j Cs wr->wr.cell? ⟨aj,3,none⟩=some (.slice (some ⟨g,0,none⟩) C.length cap)):=fun j Cs wr h=>ae h.hw rfl
 have hci:=Hc3.out 0 C _ hstart
 clear kU hstart hE hIn hT hN hNt aN hAh hng hg0 hlen
 generalize hJ:JInv aj rt rm pv no aI K g cap C E w=J at *
 clear hJ
 generalize C.length=n at *
 go_enter Tryz.func142,Tryz.ntmps142
 go_wp2_with fail
 go_loopw [14] (fun jv wr=>∃ (j:Nat) (Cs:List bx),jv=.int .i64 j/\j<=n/\J j Cs wr) (fun jv _=>n-(intOf jv).toNat)
 case atStart=>exact ⟨0,C,rfl,Nat.zero_le _,HI0.out⟩
 case round =>
  obtain ⟨j,Cs,rfl,hjn,hI⟩:=hrel
  by_cases hj:j<n
  ·have k3:=Hc3.out j Cs wr hI
   have hcall:=HS.out j Cs wr hj hI
   go_wp2_with fail
   refine hcall.mono ?_
   rintro e w1 ⟨⟨v,rfl⟩,Cs',hI'⟩
   go_wp2_with fail
   go_roundw
   case rel=>exact ⟨j+1,Cs',by go_num,by omega,hI'⟩
   case measure=>simp only [intOf];omega
  ·obtain rfl:j=n:=by omega
   go_wp2_with fail
   exact bodyPost_end (results_none rfl _ _ _) rfl ⟨rfl,Cs,hI⟩
def rN:BT aO->List (List UInt8)
 | .nil=>[]
 | .node b o a l r=>rN l++rN r++[aS (.node b o a l r)]
theorem o8:∀ (x:BT aO) (L:List (List UInt8)) (t:List UInt8),t∈fI L x↔t∈L\/t∈rN x
 | .nil,L,t=>by simp [fI,rN]
 | .node b o a l r,L,t=>by
  have h1:=o8 r (fI L l) t
  have h2:=o8 l L t
  have h3:∀ s,s∈fI (fI L l) r↔(s∈L\/s∈rN l)\/s∈rN r:=fun s=>by rw [o8 r,o8 l]
  unfold fI rN
  simp only [List.mem_append,List.mem_singleton]
  split
  ·rename_i tP
   rw [h3]
   constructor
   ·rintro ((h | h) | h)
    ·exact .inl h
    ·exact .inr (.inl (.inl h))
    ·exact .inr (.inl (.inr h))
   ·rintro (h | (h | h) | h)
    ·exact .inl (.inl h)
    ·exact .inl (.inr h)
    ·exact .inr h
    ·subst h;exact (h3 _).1 tP
  ·rw [List.mem_append,List.mem_singleton,h3]
   constructor
   ·rintro (((h | h) | h) | h)
    ·exact .inl h
    ·exact .inr (.inl (.inl h))
    ·exact .inr (.inl (.inr h))
    ·exact .inr (.inr h)
   ·rintro (h | (h | h) | h)
    ·exact .inl (.inl (.inl h))
    ·exact .inl (.inl (.inr h))
    ·exact .inl (.inr h)
    ·exact .inr h
theorem rR:∀ (x:BT aO) (L:List (List UInt8)),L.Nodup->(fI L x).Nodup
 | .nil,L,h=>h
 | .node b o a l r,L,h=>by
  have h1:=rR r _ (rR l L h)
  unfold fI
  split
  ·exact h1
  ·rename_i hn
   exact List.nodup_append.2 ⟨h1,by simp,fun a ha b hb=>by simp at hb;subst hb;rintro rfl;exact hn ha⟩
def textsB (X:Nat->BT aO):Nat->List (List UInt8)
 | 0=>[]
 | n+1=>fI (textsB X n) (ak (X n))
theorem twin_KAt (X:Nat->BT aO):∀ n,(∀ j,j<n->dx (X j))->Twin (dN X n) (textsB X n)
 | 0,_=>Twin.nil
 | n+1,h=>count_eq (twin_KAt X n fun j hj=>h j (by omega)) (h n (by omega))
theorem ua (X:Nat->BT aO) (t:List UInt8):∀ n,t∈textsB X n↔∃ j,j<n/\t∈rN (ak (X j))
 | 0=>by simp [textsB]
 | n+1=>by
  rw [textsB,o8,ua X t n]
  constructor
  ·rintro (⟨j,h1,h2⟩ | h)
   ·exact ⟨j,by omega,h2⟩
   ·exact ⟨n,by omega,h⟩
  ·rintro ⟨j,h1,h2⟩
   by_cases hj:j<n
   ·exact .inl ⟨j,hj,h2⟩
   ·obtain rfl:j=n:=by omega
    exact .inr h2
theorem vQ (X:Nat->BT aO):∀ n,(textsB X n).Nodup
 | 0=>List.nodup_nil
 | n+1=>rR _ _ (vQ X n)
theorem nodup_le {α:Type} [DecidableEq α]:∀ (l m:List α),l.Nodup->(∀ t∈l,t∈m)->l.length<=m.length
 | [],_,_,_=>Nat.zero_le _
 | a::l,m,h,hs=>by
  have ha:=hs a (by simp)
  have hn:=(List.nodup_cons.1 h)
  have ih:=nodup_le l (m.erase a) hn.2 (fun t ht=>(List.mem_erase_of_ne (by rintro rfl;exact hn.1 ht)).2 (hs t (by simp [ht])))
  have hl:=List.length_erase_of_mem ha
  have hp:0<m.length:=List.length_pos_of_mem ha
  simp only [List.length_cons]
  omega
theorem KAt_sub (X Y:Nat->BT aO) (n m:Nat) (hX:∀ j,j<n->dx (X j)) (hY:∀ j,j<m->dx (Y j)) (h:∀ j,j<n->∃ i,i<m/\X j=Y i):(dN X n).length<=(dN Y m).length:=by
 rw [(twin_KAt X n hX).len,(twin_KAt Y m hY).len]
 refine nodup_le _ _ (vQ X n) fun t ht=>?_
 obtain ⟨j,hj,h1⟩:=(ua X t n).1 ht
 obtain ⟨i,hi,e⟩:=h j hj
 exact (ua Y t m).2 ⟨i,hi,by rw [<- e];exact h1⟩
def fu (reach:Int):List bx->List bx
 | []=>[]
 | c::C=>if c.number=1 then c::C else (c::C).filter fun d=>decide (d.time-reach>=c.time)
theorem evOnes (C:List bx):∀ u∈dk C,u.oneCell'=true:=by
 intro u hu
 obtain ⟨c,_,hc⟩:=List.mem_flatMap.1 hu
 simp [bf] at hc
 rcases hc with rfl | rfl | rfl | rfl<;>rfl
theorem flatE_length (C:List bx):(dk C).length=C.length*4:=ft bf 4 (fun _=>rfl) C
set_option maxRecDepth 100000 in
set_option maxHeartbeats 4000000 in
theorem known_any (aj:Nat) (rt rm nv pv:Value) (ea:Option Addr) (cap:Nat) (C:List bx) (reach:Int) (w:World) (hw:w.heap[aj]? = some (.cells #[rt,rm,nv,.slice ea C.length cap,pv] 153 (0,0))) (hE:bY w (.slice ea C.length cap) C) (hn:C.length<=1000) (hr:0<=reach/\reach<=1000000000) (hT:∀ c∈C,0<=c.time/\c.time<=1000000000000) :
  Calls Tryz.prog 138 #[.pointer (some ⟨aj,0,none⟩),.int .i64 reach] w fun e w'=>∃ v',e=.returned v'/\w'.ownsRow w.heap.size 159 4 v' (fu reach C).length (dk (fu reach C))/\Below w.heap.size w w':=by
 have cz:=aw hw
 have c3:w.cell? ⟨aj,3,none⟩=some (.slice ea C.length cap):=ae hw rfl
 obtain ⟨ea',mq,hfm,cW,sa,hea⟩:=hE.form
 cases hfm
 have hclone:Calls Tryz.prog 175 #[.slice ea C.length cap] w fun e w'=>∃ v',e=.returned v'/\w'.ownsRow w.heap.size 159 4 v' C.length (dk C)/\Below w.heap.size w w':=by
  cases ea with
  | none =>
   refine (cloneEv_nil _ _ w).mono ?_
   rintro e w' ⟨rfl,rfl⟩
   have:C=[]:=by
    cases C with
    | nil=>rfl
    | cons c C=>obtain ⟨g,h,_⟩:=hea (by simp);cases h
   subst this
   exact ⟨_,rfl,World.ownsRow_nil _ _ _ _,Below.refl _ _⟩
  | some a =>
   have hE':w.ownsRow 0 159 4 (.slice (some a) C.length cap) C.length (dk C):=hE
   obtain ⟨_,⟨h,_⟩ | ⟨g,cp,cur,h,_⟩⟩:=hE'
   ·cases h
   ·cases h
    refine cloneEv_some g 0 C.length cap (dk C) w (flatE_length C) (by omega) (fun j u hj=>?_) (evOnes C)
    rw [Nat.zero_add]
    exact gH hE rfl hj
 cases C with
 | nil =>
  go_enter Tryz.func138,Tryz.ntmps138
  go_wp2_with fail
  refine hclone.mono ?_
  rintro e w1 ⟨v,rfl,h1,h2⟩
  go_wp2_with fail
  go_ret
  exact ⟨v,rfl,h1,h2⟩
 | cons c C =>
  obtain ⟨g,rfl,hg⟩:=hea (by simp)
  have p0:w.cell? ⟨g,0,none⟩=some (.int .i64 c.number):=hE.cell (i:=0) (k:=0) rfl rfl
  have p1:w.cell? ⟨g,1,none⟩=some (.int .i64 c.time):=hE.cell (i:=0) (k:=1) rfl rfl
  have Hlen:Hid ((c::C).length=C.length+1):=rfl
  have HE:Hid _:=hE
  have Hcl:Hid _:=hclone
  have HT:Hid _:=hT
  have hTc:=hT c (by simp)
  have hl1:1<=(c::C).length:=by simp
  generalize hn0:(c::C).length=n at *
  clear hE hclone hT hw sa hea
  by_cases h1:c.number=1
  ·have hk:fu reach (c::C)=c::C:=by simp [fu,h1]
   rw [hk]
   clear hk
   go_enter Tryz.func138,Tryz.ntmps138
   go_wp2_with fail
   refine Calls.mono Hcl.out ?_
   rintro e w1 ⟨v,rfl,q1,q2⟩
   rw [<- hn0] at q1
   have Hq:Hid _:=q1
   clear q1
   go_wp2_with fail
   go_ret
   exact ⟨v,rfl,Hq.out,q2⟩
  ·have hk:fu reach (c::C)=(c::C).filter fun d=>decide (d.time-reach>=c.time):=by simp [fu,h1]
   rw [hk]
   clear hk
   obtain ⟨i0,hi,lr,iU,lu⟩:=info_parts oM
   generalize hD:(c::C)=D at *
   have HD:Hid (c::C=D):=hD
   clear hD
   generalize c.time=ct at *
   generalize hF:(fun j=>(D.take j).filter fun d=>decide (d.time-reach>=ct))=F
   have F0:Hid (F 0=[]):=by subst hF;rfl
   have FN:Hid (F n=D.filter fun d=>decide (d.time-reach>=ct)):=by subst hF;show List.filter _ _=_;rw [List.take_of_length_le (by omega)]
   have FS:Hid (∀ j d,D[j]? = some d->F (j+1)=if d.time-reach>=ct then F j++[d] else F j):=by
    intro j d hd
    subst hF
    show List.filter _ _=_
    rw [List.take_add_one,hd,List.filter_append]
    by_cases hx:d.time-reach>=ct
    ·simp [hx]
    ·simp [hx]
   have FL:Hid (∀ j,(F j).length<=j):=fun j=>by subst hF;exact Nat.le_trans (List.length_filter_le _ _) (by rw [List.length_take];omega)
   rw [<- FN.out]
   clear hF
   go_enter Tryz.func138,Tryz.ntmps138
   go_wp2_with fail
   ·exfalso
    rcases ‹((n:Int)==0)=true\/(c.number==1)=true› with hq | hq
    ·have:=eq_of_beq hq;omega
    ·exact h1 (eq_of_beq hq)
   go_loopw [34,5] (fun iv v wr=>∃ i:Nat,iv=.int .i64 i/\i<=n/\wr.ownsRow w.heap.size 159 4 v (F i).length (dk (F i))/\Below w.heap.size w wr) (fun iv _ _=>n-(intOf iv).toNat)
   case atStart=>exact ⟨0,rfl,Nat.zero_le _,by rw [F0.out];exact World.ownsRow_nil _ _ _ _,Below.refl _ _⟩
   case round =>
    obtain ⟨i,rfl,tP,cE,h_⟩:=hrel
    have hd3:wr.cell? ⟨aj,3,none⟩=some (.slice (some ⟨g,0,none⟩) n cap):=by rw [h_.cell (p:=⟨aj,3,none⟩) cz];exact c3
    by_cases qo:i<n
    ·have hie:i<D.length:=by omega
     have fD:D[i]? = some D[i]:=List.getElem?_eq_getElem hie
     have hTx:=HT.out D[i] (List.getElem_mem hie)
     have HFS:Hid _:=FS.out i _ fD
     have hE':bY w (.slice (some ⟨g,0,none⟩) D.length cap) D:=by show w.ownsRow 0 159 4 _ _ _;rw [hn0];exact HE.out
     generalize D[i]=x at *
     have q0:wr.cell? ⟨g,i*4,none⟩=some (.int .i64 x.number):=by rw [h_.cell (p:=⟨g,i*4,none⟩) hg];exact hE'.cell (k:=0) fD rfl
     have q1:wr.cell? ⟨g,i*4+1,none⟩=some (.int .i64 x.time):=by rw [h_.cell (p:=⟨g,i*4+1,none⟩) hg];exact hE'.cell (k:=1) fD rfl
     have q2:wr.cell? ⟨g,i*4+2,none⟩=some (.slice x.ao x.al x.ac):=by rw [h_.cell (p:=⟨g,i*4+2,none⟩) hg];exact hE'.cell (k:=2) fD rfl
     have q3:wr.cell? ⟨g,i*4+3,none⟩=some (.slice x.so x.sl x.sc):=by rw [h_.cell (p:=⟨g,i*4+3,none⟩) hg];exact hE'.cell (k:=3) fD rfl
     clear hE' fD
     go_wp2_with fail
     have cB:Below w.heap.size w (wr.alloc (.cells #[.int .i64 x.number,.int .i64 x.time,.slice x.ao x.al x.ac,.slice x.so x.sl x.sc] 159)):=h_.al _
     have gi:=cE.alloc (.cells #[.int .i64 x.number,.int .i64 x.time,.slice x.ao x.al x.ac,.slice x.so x.sl x.sc] 159)
     have z3:(wr.alloc (.cells #[.int .i64 x.number,.int .i64 x.time,.slice x.ao x.al x.ac,.slice x.so x.sl x.sc] 159)).cell? ⟨aj,3,none⟩=some (.slice (some ⟨g,0,none⟩) n cap):=by rw [cB.cell (p:=⟨aj,3,none⟩) cz];exact c3
     have z4:(wr.alloc (.cells #[.int .i64 x.number,.int .i64 x.time,.slice x.ao x.al x.ac,.slice x.so x.sl x.sc] 159)).cell? ⟨g,1,none⟩=some (.int .i64 ct):=by rw [cB.cell (p:=⟨g,1,none⟩) hg];exact p1
     have y0:(wr.alloc (.cells #[.int .i64 x.number,.int .i64 x.time,.slice x.ao x.al x.ac,.slice x.so x.sl x.sc] 159)).cell? ⟨wr.heap.size,0,none⟩=some (.int .i64 x.number):=ae (aB _ _ _ rfl) rfl
     have y1:(wr.alloc (.cells #[.int .i64 x.number,.int .i64 x.time,.slice x.ao x.al x.ac,.slice x.so x.sl x.sc] 159)).cell? ⟨wr.heap.size,1,none⟩=some (.int .i64 x.time):=ae (aB _ _ _ rfl) rfl
     have y2:(wr.alloc (.cells #[.int .i64 x.number,.int .i64 x.time,.slice x.ao x.al x.ac,.slice x.so x.sl x.sc] 159)).cell? ⟨wr.heap.size,2,none⟩=some (.slice x.ao x.al x.ac):=ae (aB _ _ _ rfl) rfl
     have y3:(wr.alloc (.cells #[.int .i64 x.number,.int .i64 x.time,.slice x.ao x.al x.ac,.slice x.so x.sl x.sc] 159)).cell? ⟨wr.heap.size,3,none⟩=some (.slice x.so x.sl x.sc):=ae (aB _ _ _ rfl) rfl
     generalize (wr.alloc (.cells #[.int .i64 x.number,.int .i64 x.time,.slice x.ao x.al x.ac,.slice x.so x.sl x.sc] 159))=w2 at cB gi z3 z4 y0 y1 y2 y3 ⊢
     go_region
     by_cases hx:x.time-reach>=ct
     ·go_wp2_with (at_builtin;refine wpList_append_own _ rfl _ _ 146 rfl w.heap.size 159 i0 (.agg #[.int .i64 0,.int .i64 0,.slice none 0 0,.slice none 0 0]) 4 64 Tryz.underlying146 hi lr iU lu rfl (by decide) _ _ _ rfl (gi.alloc _) ⟨w2.heap.size,0,none⟩ 1 1 (bf x) rfl rfl ?c1 ?c2 ?c3 ?c4 ?c5 ?_)
      case c1 =>
       exact fun j u hj=>ei w2 x 159 j u hj
      case c2=>exact fun u hu=>evOnes [x] u (by simpa [dk] using hu)
      case c3=>have:=FL.out i;unfold maxLen;omega
      case c4=>have:=FL.out i;omega
      case c5=>have:=cB.size;simp;omega
      intro v' w3 dm bz _
      have pU:Below w.heap.size w w3:=((cB.al _).drew).grown bz (Nat.le_trans cB.size (by simp)) (fun k e=>(gi.lt k e).1)
      go_wp2_with fail
      go_roundw
      case rel=>exact ⟨i+1,by go_num,by omega,by rw [HFS.out,if_pos hx,mL,List.length_append];exact dm,pU⟩
      case measure=>simp only [intOf];omega
     ·go_wp2_with fail
      go_roundw
      case rel=>exact ⟨i+1,by go_num,by omega,by rw [HFS.out,if_neg hx];first | exact gi | exact dw gi (fun _ _=>rfl),by first | exact cB | exact cB.drew⟩
      case measure=>simp only [intOf];omega
    ·obtain rfl:i=n:=by omega
     go_wp2_with fail
     go_ret
     exact ⟨_,rfl,cE,h_⟩
end Ev
namespace Ev
open Go.RowKit Go.Deep Lf Go.Conc
theorem take_all (aj:Nat) (ai:Int) (rm:Value) (no:Option Addr) (aI:Nat) (K:List Key) (ea:Option Addr) (az:Nat) (pv:Value) (C:List bx) (E:List Pe) (time:Int) (ao:Option Addr) (A:List ByteArray) (cap:Nat) (w:World)
  (hw:w.heap[aj]? = some (.cells #[.int .i64 ai,rm,.slice no K.length aI,.slice ea C.length az,pv] 153 (0,0))) (hE:bY w (.slice ea C.length az) C) (hlen:C.length=E.length) (hIn:∀ (i:Nat) c e,C[i]? = some c->E[i]? = some e->cZ w c e) (hT:∀ c∈C,EvT w c) (hn:C.length<=1000) (ht:0<=time/\time<=1000000000000) (hr:0<=ai/\ai<=1000000000) (k:Nat) (hold:nj (time-ai) C=k)
  (lq:∀ c,C.getLast? = some c->0<=c.number/\c.number<=1000000000000) (h:eI w ao A) (hA:A.length<=1000) (cW:A.length<=cap) (hs:∀ j,j<A.length->(A.getD j ByteArray.empty).size<=1000)
  (hK:K.length<=1000) (hnc:K.length<=aI) (hN:eB w no K) (hNt:∀ a,no=some a->∃ cs m,w.heap[a.block]? = some (.cells cs 226 m)) (aN:∀ k∈K,ib k.op) (hAh:qg K) (bT:∀ e∈E,e.so.length=K.length+1) :
  Calls Tryz.prog 87 #[.pointer (some ⟨aj,0,none⟩),.int .i64 time,.slice ao A.length cap] w (TakeD aj ai rm no aI K ea az pv C (C.drop k) (E.drop k) time A w):=by
 by_cases hk:k=0
 ·subst hk
  exact ky aj ai rm no aI K ea az pv C E time ao A cap w hw hE hlen hIn hT hn ht hr hold lq h hA cW hs hK hnc hN hNt aN hAh bT
 ·exact take_drop aj ai rm no aI K ea az pv C E time ao A cap w hw hE hlen hIn hT hn ht hr k hold (by omega) (by rw [<- hold];exact oldF_le _ _) lq h hA cW hs hK hnc hN hNt aN hAh bT
def EvDoneD (w:World) (aj:Nat) (ai room:Int) (no:Option Addr) (aI:Nat) (K:List Key) (ea:Option Addr) (C D:List bx) (F:List Pe) (pa:Option Addr) (aM:Nat) (ps:List bC) (ss:List bt) (time:Int) (A:List ByteArray) (W':World):Prop :=
 ∃ (c:bx) (ea':Option Addr) (ecap':Nat) (ss':List bt),bj W' aj ai room no aI K ea' ecap' (D++[c]) (F++[b9 F.reverse K (⟨eQ C,time,A,[]⟩:Pe).bare]) pa aM ps ss'/\c.time=time/\c.number=eQ C/\au (Own46 aj ea ss) w W'/\(∀ a,ea'=some a->(∃ a0,ea=some a0/\a0.block=a.block)\/w.heap.size<=a.block)/\
  (∀ (i:Nat) (s:bt) (p:bC),ss[i]? = some s->ps[i]? = some p->∃ t,ss'[i]? = some t/\t.cj=s.cj/\t.n=s.n+1/\t.xs=s.xs++bO (eQ C) time p.cu ((b9 F.reverse K (⟨eQ C,time,A,[]⟩:Pe).bare).at (p.node:Int))/\(t.sv.ownBlock=s.sv.ownBlock\/∃ g,t.sv.ownBlock=some g/\w.heap.size<=g))
def qI (aj:Nat) (ai room:Int) (no:Option Addr) (aI:Nat) (K:List Key) (ea:Option Addr) (az:Nat) (C D:List bx) (F:List Pe) (pa:Option Addr) (aM:Nat) (ps:List bC) (time:Int) (A:List ByteArray) (w1:World) (c:bx) (nU:Nat) (w2:World):Prop :=
 ∃ (nT:Value) (sb:Nat) (cur:Array Value),c.so=some ⟨sb,0,none⟩/\w1.heap.size<=sb/\w2.heap[sb]? = some (.cells cur 4 (0,0))/\w2.heap[aj]? = some (.cells #[.int .i64 ai,.int .i64 room,.slice no K.length aI,nT,.slice pa ps.length aM] 153 (0,0))/\bY w2 nT (D++[c])/\
  cZ w2 c (b9 F.reverse K (⟨eQ C,time,A,[]⟩:Pe).bare)/\EvT w2 c/\au (fun b=>b=aj\/(Value.slice ea C.length az).ownBlock=some b) w1 w2/\(∀ b,nT.ownBlock=some b->(Value.slice ea C.length az).ownBlock=some b\/w1.heap.size<=b)/\w2.heap[nU]? = some (.cells #[.int .i64 c.number,.int .i64 c.time,c.av,c.sv] 159 (0,0))
theorem qI.aU {aj:Nat} {ai room:Int} {no:Option Addr} {aI:Nat} {K:List Key} {ea:Option Addr} {az:Nat} {C D:List bx} {F:List Pe} {pa:Option Addr} {aM:Nat} {ps:List bC} {time:Int} {A:List ByteArray} {w1:World} {c:bx} {nU:Nat} {w2:World} (h:qI aj ai room no aI K ea az C D F pa aM ps time A w1 c nU w2) (τ:Tape) (d:Nat):qI aj ai room no aI K ea az C D F pa aM ps time A w1 c nU (re w2 τ d):=by
 obtain ⟨nT,sb,cur,t1,t2,t3,t4,t5,t6,t7,t8,t9,t10⟩:=h
 exact ⟨nT,sb,cur,t1,t2,t3,t4,t5,t6.aU τ d,⟨t7.so,t7.ao⟩,t8.aU τ d,t9,t10⟩
set_option maxRecDepth 100000 in
set_option maxHeartbeats 4000000 in
theorem event_drop {w:World} {aj:Nat} {ai room:Int} {no:Option Addr} {aI:Nat} {K:List Key} {ea:Option Addr} {az:Nat} {C:List bx} {E:List Pe} {pa:Option Addr} {aM:Nat} {ps:List bC} {ss:List bt} (h:bj w aj ai room no aI K ea az C E pa aM ps ss) (time:Int) (ao:Option Addr) (A:List ByteArray) (cap:Nat)
  (ht:0<=time/\time<=1000000000000) (hl:∀ e,C.getLast? = some e->e.time<time) (k:Nat) (hold:nj (time-ai) C=k) (oI:(C.length:Int)-(k:Int)+1<=room) (hA:eI w ao A) (hA10:A.length<=10) (cW:A.length<=cap) (hN:∀ j,j<A.length->eR (A.getD j ByteArray.empty)) (hD:∀ j,j<A.length->Lib.containsS (A.take j) (A.getD j ByteArray.empty)=false)
  (hfew:C.length+1<=1000) (nh:0<=eQ C/\eQ C<=1000000000) (hfull:∀ s∈ss,s.n<30) :
  bZ Tryz.prog 46 #[.pointer (some ⟨aj,0,none⟩),.int .i64 time,.slice ao A.length cap] w fun e W'=>e=.returned .nilIface/\EvDoneD w aj ai room no aI K ea C (C.drop k) (E.drop k) pa aM ps ss time A W':=by
 have hP:=bk
 obtain ⟨D,hDe⟩:∃ D,D=C.drop k:=⟨_,rfl⟩
 obtain ⟨F,hFe⟩:∃ F,F=E.drop k:=⟨_,rfl⟩
 have hDF:D.length=F.length:=by rw [hDe,hFe,List.length_drop,List.length_drop,h.len]
 have hfewD:D.length+1<=1000:=by rw [hDe,List.length_drop];omega
 have hrowF:∀ e∈F,e.so.length=K.length+1:=fun e he=>h.rows e (by rw [hFe] at he;exact List.mem_of_mem_drop he)
 rw [<- hDe,<- hFe]
 replace hDe:Hid _:=hDe
 replace hFe:Hid _:=hFe
 have ix:∀ it∈([]:List Item),aR it:=by simp
 have dY:∀ (c:Code),∀ it∈[Item.code c],aR it:=fun c=>aJ trivial (by simp)
 have rC:∀ (c d:Code),∀ it∈[Item.code c,Item.code d],aR it:=fun c d=>aJ trivial (aJ trivial (by simp))
 have hroomy:Roomy w ps:=fun i p hp=>by
  have hi:i<ss.length:=by rw [h.vz];exact (List.getElem?_eq_some_iff.1 hp).1
  have hsm:ss[i]∈ss:=List.getElem_mem hi
  have jh:=h.sok _ hsm
  obtain ⟨o,n,cp,hsv,hn⟩:∃ o n cp,ss[i].sv=.slice o n cp/\n<30:=by
   have hf:=hfull _ hsm
   rcases jh.2.2 with ⟨e,e2⟩ | ⟨g,cp,cur,e,_⟩
   ·exact ⟨_,_,_,e,by omega⟩
   ·exact ⟨_,_,_,e,hf⟩
  exact ⟨ss[i].cj,o,n,cp,h.pstr i _ p (List.getElem?_eq_getElem hi) hp,by rw [<- hsv];exact jh.1,hn⟩
 have hsz8:∀ j,j<A.length->(A.getD j ByteArray.empty).size<=1000:=fun j hj=>by have:=(hN j hj).high;omega
 have hCk:Hid (∀ τ d,Calls Tryz.prog 86 #[.pointer (some ⟨aj,0,none⟩),.int .i64 time,.slice ao A.length cap] (re w τ d) fun e w'=>e=.returned .nilIface/\Below (re w τ d).heap.size (re w τ d) w'):=fun τ d=>by
  have hh:=h.aU τ d
  have hlo:=h.few
  have hp:=h.tW
  exact checkEvent_ok aj ai room _ _ pa aM ps C time ao A cap (re w τ d) hh.cell hh.uC (by omega) ht hh.ret hl (by rw [hold];exact oI) hA hA10 cW hN hD hh.oX (by omega) hh.pcp hroomy
 refine bZ.nJ Tryz.func46 rfl (fun cs bn=>?_)
 simp only [Tryz.ntmps46,List.size_toArray,List.length_cons,List.length_nil,Nat.reduceAdd,Nat.reduceSub,Array.replicate_succ,Array.replicate_zero,List.push_toArray,List.append_toArray,List.nil_append,List.cons_append]
 refine af.seq hP ix bn ?_
 refine af.piece hP (fun a' w'=>a'=⟨#[.pointer (some ⟨aj,0,none⟩),.int .i64 time,.slice ao A.length cap,undef,undef,undef,.nilIface,undef,undef,undef,undef,undef,undef,undef,undef,undef,undef,undef,undef,undef,undef,undef,undef,undef,undef,undef,undef,undef,undef,undef,undef,undef,undef,undef,undef,undef,undef,undef,undef,undef,undef],[]⟩/\∃ τ d,w'=re w τ d) (fun a w τ d x=>⟨x.1,by obtain ⟨_,vX,d',rfl⟩:=x;exact ⟨τ,d,rfl⟩⟩) (dY _) bn (fun τ d=>?_) ?_
 ·go_wp2_with fail
  exact ⟨τ,d,rfl⟩
 rintro a' w' ⟨rfl,τ,d,rfl⟩
 refine af.other ?_ τ d
 dsimp only
 refine af.seq hP ix bn ?_
 refine af.piece hP (fun a' w'=>a'=⟨#[.pointer (some ⟨aj,0,none⟩),.int .i64 time,.slice ao A.length cap,undef,undef,undef,.nilIface,.nilIface,undef,undef,.pointer (some ⟨aj,0,none⟩),.int .i64 time,.slice ao A.length cap,.nilIface,.nilIface,.bool false,undef,undef,undef,undef,undef,undef,undef,undef,undef,undef,undef,undef,undef,undef,undef,undef,undef,undef,undef,undef,undef,undef,undef,undef,undef],[]⟩/\au (fun _=>False) w w') (fun a w τ d x=>⟨x.1,x.2.aU τ d⟩) (dY _) bn (fun τ d=>?_) ?_
 ·have hc:=hCk.out τ d
  clear hCk
  go_wp2_with fail
  refine hc.mono ?_
  rintro e w1 ⟨rfl,a_⟩
  go_wp2_with fail
  exact (au.aL a_).tape0
 rintro a' w1 ⟨rfl,kS⟩
 dsimp only
 have h1w:=h.move kS (dn.none _ _)
 have hA1:=hA.move kS
 have hTk:Hid (∀ τ d,Calls Tryz.prog 87 #[.pointer (some ⟨aj,0,none⟩),.int .i64 time,.slice ao A.length cap] (re w1 τ d) (TakeD aj ai (.int .i64 room) no aI K ea az (.slice pa ps.length aM) C D F time A (re w1 τ d))):=fun τ d=>by
  have hh:=h1w.aU τ d
  rw [hDe.out,hFe.out]
  exact take_all aj ai (.int .i64 room) no aI K ea az _ C E time ao A cap (re w1 τ d) hh.cell hh.uC hh.len hh.ins hh.typed hh.few ht hh.ret k hold (fun c hc=>by have:=hh.nums c hc;omega) hA1 (by omega) cW hsz8 hh.nfew hh.ncp hh.nodes hh.oc hh.core hh.ahead hh.rows
 refine af.seq hP ix bn ?_
 refine af.piece hP (fun a' w2=>∃ c nU,a'=⟨#[.pointer (some ⟨aj,0,none⟩),.int .i64 time,.slice ao A.length cap,undef,undef,undef,.nilIface,.nilIface,.pointer (some ⟨nU,0,none⟩),undef,.pointer (some ⟨aj,0,none⟩),.int .i64 time,.slice ao A.length cap,.nilIface,.nilIface,.bool false,undef,undef,undef,undef,undef,.pointer (some ⟨aj,0,none⟩),.pointer (some ⟨aj,0,none⟩),.pointer (some ⟨aj,0,none⟩),.int .i64 time,.slice ao A.length cap,gv c,undef,undef,undef,undef,undef,undef,undef,undef,undef,undef,undef,undef,undef,undef],[]⟩/\qI aj ai room no aI K ea az C D F pa aM ps time A w1 c nU w2) (fun a w τ d x=>by obtain ⟨c,nU,x1,x2⟩:=x;exact ⟨c,nU,x1,x2.aU τ d⟩) (dY _) bn (fun τ d=>?_) ?_
 ·have hc:=hTk.out τ d
  clear hCk hTk
  go_wp2_with fail
  refine hc.mono ?_
  rintro e w2 ⟨c,nT,sb,cur,rfl,t1,t2,t3,t4,t5,t6,t7,t8,t9⟩
  have hmid:qI aj ai room no aI K ea az C D F pa aM ps time A w1 c w2.heap.size (w2.alloc (.cells #[.int .i64 c.number,.int .i64 c.time,.slice c.ao c.al c.ac,.slice c.so c.sl c.sc] 159)):=by
   have kT:au (fun _=>False) w2 (w2.alloc (.cells #[.int .i64 c.number,.int .i64 c.time,.slice c.ao c.al c.ac,.slice c.so c.sl c.sc] 159)):=au.aL ((Below.refl _ _).al _)
   exact ⟨nT,sb,cur,t1,t2,kT.get t3 (fun x=>x),kT.get t4 (fun x=>x),t5.move kT (dn.none _ _),t6.move t7 kT (dn.none _ _),t7.move kT (dn.none _ _),(au.rL t8).tape0.trans (kT.mono fun _ _ x=>x.elim),t9,aB _ _ _ rfl⟩
  clear t1 t2 t3 t4 t5 t6 t7 t8 t9
  simp only [gv]
  go_wp2_with fail
  refine ⟨c,w2.heap.size,?_,hmid⟩
  simp [gv]
 rintro a' w2 ⟨c,nU,rfl,nT,sb,cur,t1,t2,t3,t4,t5,t6,t7,t8,t9,t10⟩
 clear hCk hTk
 dsimp only
 refine af.seq hP ix bn ?_
 obtain ⟨q1,q2,q3,q4,_⟩:=eZ F.reverse K (⟨eQ C,time,A,[]⟩:Pe).bare
 generalize hpe:b9 F.reverse K (⟨eQ C,time,A,[]⟩:Pe).bare=pe at *
 have lq:c.number=eQ C:=t6.number.trans q1
 have htime:c.time=time:=t6.time.trans q2
 have hpl:pe.so.length=K.length+1:=by rw [q4];simp [Pe.bare];omega
 have hkt:dn w1 (fun b=>b=aj\/(Value.slice ea C.length az).ownBlock=some b) [4,9,226,183,177,59]:=fun b cs t m hb ht hp=>by
  rcases hp with rfl | hp
  ·rw [h1w.cell] at hb;injection hb with hb;injection hb with _ hb _;subst hb;simp at ht
  ·obtain ⟨cur',hc⟩:=dG h1w.uC hp
   rw [hc] at hb;injection hb with hb;injection hb with _ hb _;subst hb;simp at ht
 have hok2:∀ s∈ss,eG w2 s:=fun s hs=>eG.move (h1w.sok s hs) t8 (hkt.less (by simp))
 have hpo2:=fg.move h1w.oX t8 (hkt.less (by simp))
 have hso2:SoIn w2 c.sv (ps.map fun p=>{ p with v:=pe.at (p.node:Int) }):=by
  obtain ⟨sb',s1,s2,s3⟩:=t6.so
  have hse:sb'=sb:=by rw [t1] at s1;simp at s1;exact s1.symm
  subst hse
  refine ⟨sb',0,c.sl,c.sc,cur,(0,0),by simp [bx.sv,t1],t3,fun p hp=>?_⟩
  simp at hp
  obtain ⟨q,hq,rfl⟩:=hp
  have hqn:=h.pnode q hq
  have hql:q.node<pe.so.length:=by omega
  have hbit:=cZ.bit s3 hql
  refine ⟨?_,by rw [t6.sl];exact hql⟩
  simp only [Nat.zero_add]
  simpa [World.cell?,t3] using hbit
 refine af.mono (rest_any (w:=w2) aj nU pa aM c.number c.time c.av c.sv ss (ps.map fun p=>{ p with v:=pe.at (p.node:Int) }) (polsIn_says _ hpo2) hso2 (fun s hs=>by have:=hfull s hs;omega) (by have:=h.tW;simp;omega) (by simp [h.vz]) (fun i s p h1 h2=>by simp at h2;obtain ⟨q,hq,rfl⟩:=h2;exact h.pstr i s q h1 hq) hok2 h.apart _ _ _ _ _ _ _ _ _ _ _ _ _ _ _ _ _ _ _ _ _ _ _ _ _ _ _ _ _ _ cs bn _ _ _ _ _ _ _ _ _ _ _ _ _ (by rw [List.length_map];exact t4) t10) ?_
 rintro g' W' ⟨e,fr,r1,r2,⟨rfl,p1,p2,p3,p4,S,now,p5,p6⟩,r4,r5⟩
 refine ⟨_,fr,r1,r2,⟨rfl,?_⟩,r4,r5⟩
 subst hpe
 have hsp3:au (Ms ss) w2 W':=⟨p1,p2,p3,p4⟩
 have hkm:dn w2 (Ms ss) [4,9,226,183,159,153]:=fun b cs t m hb ht=>by
  refine Ms.not hok2 hb ?_ ?_<;>(rintro rfl;simp at ht)
 obtain ⟨ea',ecap',rfl,f1,f2,f3⟩:=t5.form
 have hin2:∀ (i:Nat) c' e,D[i]? = some c'->F[i]? = some e->cZ w2 c' e:=fun i c' e h1 h2=>(h1w.ins (k+i) c' e (by rw [<- List.getElem?_drop,<- hDe.out];exact h1) (by rw [<- List.getElem?_drop,<- hFe.out];exact h2)).move (h1w.typed c' (List.mem_of_mem_drop (hDe.out▸List.mem_of_getElem? h1))) t8 (hkt.less (by simp))
 have hty2:∀ c'∈D,EvT w2 c':=fun c' uY=>(h1w.typed c' (List.mem_of_mem_drop (hDe.out▸uY))).move t8 (hkt.less (by simp))
 have jD:=h.vz
 refine ⟨c,ea',ecap',now,?_,htime,lq,?_,?_,?_⟩
 ·refine ⟨hsp3.get t4 (hkm _ _ _ _ t4 (by simp)),t5.move hsp3 (hkm.less (by simp)),by simp [hDF],fun i c' e h1 h2=>?_,fun c' uY=>?_,by simpa using hfewD,h.ret,fun c' uY=>?_,h.nfew,h.ncp,?_,?_,h.core,h.ahead,fun e he=>?_,fg.move hpo2 hsp3 (hkm.less (by simp)),h.tW,h.pcp,by rw [p6.len];exact h.vz,fun i s p h1 h2=>?_,p6.ok,p6.apart,h.pnode⟩
  ·rcases Nat.lt_or_ge i D.length with hi | hi
   ·rw [List.getElem?_append_left hi] at h1
    rw [List.getElem?_append_left (by rw [<- hDF];exact hi)] at h2
    exact (hin2 i c' e h1 h2).move (hty2 c' (List.mem_of_getElem? h1)) hsp3 (hkm.less (by simp))
   ·have hi':i=D.length:=by have:=(List.getElem?_eq_some_iff.1 h1).1;simp at this;omega
    subst hi'
    rw [hDF] at h2
    simp at h1 h2
    subst h1;subst h2
    exact t6.move t7 hsp3 (hkm.less (by simp))
  ·rcases List.mem_append.1 uY with uY | uY
   ·exact (hty2 c' uY).move hsp3 (hkm.less (by simp))
   ·simp at uY;subst uY;exact t7.move hsp3 (hkm.less (by simp))
  ·simp at uY;subst uY;rw [lq];exact nh
  ·exact (h1w.nodes.move h1w.oc t8 (hkt.less (by simp))).move (typed.move h1w.oc t8 (hkt.less (by simp))) hsp3 (hkm.less (by simp))
  ·exact typed.move (typed.move h1w.oc t8 (hkt.less (by simp))) hsp3 (hkm.less (by simp))
  ·rcases List.mem_append.1 he with he | he
   ·exact hrowF e he
   ·simp at he;subst he;exact hpl
  ·have hi:i<ss.length:=by rw [<- p6.len];exact (List.getElem?_eq_some_iff.1 h1).1
   obtain ⟨t,k1,k2,_⟩:=p6.done i ss[i] _ (by simp;rw [<- h.vz];exact hi) (List.getElem?_eq_getElem hi) (by rw [List.getElem?_map,h2];rfl)
   rw [h1] at k1;cases k1
   rw [k2]
   exact h.pstr i ss[i] p (List.getElem?_eq_getElem hi) h2
 ·have s1:au (Own46 aj ea ss) w w1:=kS.mono fun _ _ x=>x.elim
  have s2:au (Own46 aj ea ss) w1 w2:=t8.mono fun b _ hb=>by
   rcases hb with hb | hb
   ·exact .inl hb
   ·cases ea with
    | none=>cases hb
    | some a=>exact .inr (.inl ⟨a,rfl,by cases hb;rfl⟩)
  exact (s1.trans s2).trans (hsp3.mono fun _ _ x=>.inr (.inr x))
 ·intro a ha
  subst ha
  rcases t9 a.block rfl with hb | hb
  ·cases ea with
   | none=>cases hb
   | some a0=>exact .inl ⟨a0,rfl,by simpa [Value.ownBlock] using hb⟩
  ·exact .inr (by have:=kS.size;omega)
 ·intro i s p h1 h2
  obtain ⟨t,k1,k2,k3,k4,k5⟩:=p6.done i s { p with v:=(b9 F.reverse K (⟨eQ C,time,A,[]⟩:Pe).bare).at (p.node:Int) } (by simp;exact (List.getElem?_eq_some_iff.1 h2).1) h1 (by rw [List.getElem?_map,h2];rfl)
  refine ⟨t,k1,k2,k3,?_,k5.imp id fun ⟨g,g1,g2⟩=>⟨g,g1,by have:=p5 g g2;have:=t8.size;have:=kS.size;omega⟩⟩
  rw [k4,lq,htime]
end Ev
end Go.Proofs.YtpbbmagjhkakgaaGreatDoor
