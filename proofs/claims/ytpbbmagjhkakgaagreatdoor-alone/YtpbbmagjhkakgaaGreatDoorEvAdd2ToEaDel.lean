import Derived.Test.YtpbbmagjhkakgaaGreatDoorEvJudge0ToEvAdd
import Derived.Test.YtpbbmagjhkakgaaGreatDoorEvTake2ToLfTape
import Derived.Test.YtpbbmagjhkakgaaGreatDoorLfRestAnyToWindow
import Derived.Test.YtpbbmagjhkakgaaGreatDoorEvWorkToEvTake
import Derived.Laws.CopyRow
import Derived.Deep.RegionLaw
namespace Go.Proofs.YtpbbmagjhkakgaaGreatDoor
namespace Ev
open Go.RowKit Go.Deep Go.Maps Lf
theorem cored_ops:∀ (x:BT aO) (K:List Key),mi x->(Good x\/x=.nil)->(∀ k∈K,ib k.op)->∀ k∈(aX K x).2,ib k.op
 | .nil,_,_,_,hK=>hK
 | .node b o a l r,K,hc,hg,hK=>by
  have hg:Good (.node b o a l r):=by
   rcases hg with hg | hg
   ·exact hg
   ·cases hg
  have aN:ib a.op/\(Good l\/l=.nil)/\(Good r\/r=.nil):=by
   obtain ⟨c1,c2,_,_⟩:=hc
   rcases hg with ⟨h1,_,_,_,h5,h6⟩ | ⟨h1,_,_,_,h5,h6⟩ | ⟨h1,_,_,_,gl,gr⟩ | ⟨h1,_,_,_,gl,gr⟩
   ·exact ⟨.inl h1,.inr h5,.inr h6⟩
   ·exact ⟨.inr (.inl h1),.inr h5,.inr h6⟩
   ·refine ⟨?_,.inl gl,.inl gr⟩
    unfold ib
    omega
   ·refine ⟨?_,.inl gl,.inr gr⟩
    unfold ib
    omega
  have h1:=cored_ops l K hc.2.2.1 aN.2.1 hK
  have h2:=cored_ops r (aX K l).2 hc.2.2.2 aN.2.2 h1
  intro k hk
  simp only [aX,mo] at hk
  split at hk
  ·exact h2 k hk
  ·rcases List.mem_append.1 hk with h | h
   ·exact h2 k h
   ·simp at h;subst h;exact aN.1
theorem nodes_of_row {w:World} {B:Nat} {nn:Value} {K:List Key} (h:w.ownsRow B 226 6 nn K.length (gh K)):∃ no aI,nn=.slice no K.length aI/\K.length<=aI/\eB w no K/\∀ a,no=some a->B<=a.block/\∃ cs m,w.heap[a.block]? = some (.cells cs 226 m):=by
 have h0:=h
 have hl:=h.lt
 obtain ⟨h1,⟨rfl,h2⟩ | ⟨g,cap,cur,rfl,h3,h4,h5,h6,h7,h8⟩⟩:=h
 ·exact ⟨none,0,by rw [h2],by omega,fun hne=>absurd (List.length_eq_zero_iff.1 h2) hne,fun a ha=>by cases ha⟩
 ·refine ⟨some ⟨g,0,none⟩,cap,rfl,h5,fun _=>⟨g,rfl,(hl g rfl).2,fun i k hk=>?_⟩,fun a ha=>by cases ha;exact ⟨h3,cur,_,h4⟩⟩
  have hc:∀ q u,(eP k)[q]? = some u->w.cell? ⟨g,i*6+q,none⟩=some u:=fun q u hu=>gH h0 rfl (kn eP 6 (fun _=>rfl) K i q k u hk hu)
  exact ⟨hc 0 _ rfl,hc 1 _ rfl,hc 2 _ rfl,hc 3 _ rfl,hc 4 _ rfl,hc 5 _ rfl⟩
end Ev
namespace Ev
open Go.RowKit Go.Deep
def pe0:Pe:=⟨0,0,[],[]⟩
def gS (K:List Key) (E:List Pe):Nat->List Pe
 | 0=>[]
 | j+1=>gS K E j++[b9 (gS K E j).reverse K (E.getD j pe0).bare]
theorem vd (K:List Key) (E:List Pe):∀ j,(gS K E j).length=j
 | 0=>rfl
 | j+1=>by simp [gS,vd K E j]
theorem judL_row (K:List Key) (E:List Pe):∀ j,∀ e∈gS K E j,e.so.length=K.length+1
 | 0,e,h=>by simp [gS] at h
 | j+1,e,h=>by
  rcases List.mem_append.1 h with h | h
  ·exact judL_row K E j e h
  ·simp only [List.mem_singleton] at h
   subst h
   rw [(eZ _ K _).2.2.2.1]
   simp [Pe.bare]
   omega
theorem flatE_setAt:∀ (C:List bx) (j:Nat) (c:bx) (sb sl sc:Nat),C[j]? = some c->(dk C).set (j*4+3) (.slice (some ⟨sb,0,none⟩) sl sc)=dk (C.set j (c.cC sb sl sc))
 | [],j,c,sb,sl,sc,h=>by simp at h
 | d::C,0,c,sb,sl,sc,h=>by
  simp at h
  subst h
  rfl
 | d::C,j+1,c,sb,sl,sc,h=>by
  have ih:=flatE_setAt C j c sb sl sc (by simpa using h)
  have e1:dk (d::C)=bf d++dk C:=rfl
  have e2:(d::C).set (j+1) (c.cC sb sl sc)=d::C.set j (c.cC sb sl sc):=rfl
  have e3:dk (d::C.set j (c.cC sb sl sc))=bf d++dk (C.set j (c.cC sb sl sc)):=rfl
  have h4:(bf d).length=4:=rfl
  rw [e1,e2,e3,<- ih,List.set_append]
  rw [if_neg (by rw [h4];omega),h4]
  congr 2
  omega
structure JInv (aj:Nat) (rt rm pv:Value) (no:Option Addr) (aI:Nat) (K:List Key) (g cap:Nat) (C:List bx) (E:List Pe) (w:World) (j:Nat) (Cs:List bx) (wr:World):Prop where
 hw:wr.heap[aj]? = some (.cells #[rt,rm,.slice no K.length aI,.slice (some ⟨g,0,none⟩) C.length cap,pv] 153 (0,0))
 uC:bY wr (.slice (some ⟨g,0,none⟩) C.length cap) Cs
 len:Cs.length=C.length
 same:∀ (i:Nat) c c0,Cs[i]? = some c->C[i]? = some c0->c.number=c0.number/\c.time=c0.time/\c.ao=c0.ao/\c.al=c0.al/\c.ac=c0.ac
 done:∀ (i:Nat) c e,i<j->Cs[i]? = some c->(gS K E j)[i]? = some e->cZ wr c e
 typed:∀ c∈Cs,EvT wr c
 later:∀ i,j<=i->Cs[i]? = C[i]?
 sp:aY (fun b=>b=aj\/b=g) w wr
theorem cZ.pre {w:World} {c:bx} {e:Pe} (h:cZ w c e):qh w c e:=⟨h.number,h.time,h.low,h.al,h.alen,h.atoms⟩
set_option maxRecDepth 100000 in
set_option maxHeartbeats 8000000 in
theorem judge_any (aj:Nat) (rt rm nv pv:Value) (no:Option Addr) (aI:Nat) (K:List Key) (g cap:Nat) (C:List bx) (E:List Pe) (w:World)
  (hw:w.heap[aj]? = some (.cells #[rt,rm,nv,.slice (some ⟨g,0,none⟩) C.length cap,pv] 153 (0,0))) (hE:bY w (.slice (some ⟨g,0,none⟩) C.length cap) C) (hlen:C.length=E.length) (hIn:∀ (i:Nat) c e,C[i]? = some c->E[i]? = some e->cZ w c e) (hT:∀ c∈C,EvT w c) (hn:C.length<=1000)
  (hK:K.length<=1000) (hnc:K.length<=aI) (hN:eB w no K) (hNt:∀ a,no=some a->∃ cs m,w.heap[a.block]? = some (.cells cs 226 m)) (aN:∀ k∈K,ib k.op) (hAh:qg K) :
  Calls Tryz.prog 142 #[.pointer (some ⟨aj,0,none⟩),.slice no K.length aI] w fun e w'=>e=.returned (.tuple #[])/\∃ Cs,JInv aj rt rm pv no aI K g cap C E w C.length Cs w':=by
 have hwl:=aw hw
 have hgl:g<w.heap.size:=(hE.lt g rfl).2
 obtain ⟨cg0,hg0⟩:=dG hE (g:=g) rfl
 have hgw:g≠aj:=by
  rintro rfl
  rw [hw] at hg0
  cases hg0
 have cW:C.length<=cap:=by
  rcases hE.cases with ⟨h1,_⟩ | ⟨g',cp,js,h1,_,_⟩
  ·cases h1
  ·cases js;exact h1
 have hng:∀ a,no=some a->a.block≠g/\a.block≠aj/\a.block<w.heap.size:=fun a ha=>by
  obtain ⟨cs,m,h1⟩:=hNt a ha
  refine ⟨?_,?_,aw h1⟩
  ·intro e;rw [e,hg0] at h1;cases h1
  ·intro e;rw [e,hw] at h1;cases h1
 have hf0:w.frozen? ⟨aj,2,none⟩=false:=Lib.frozen_of_heap hw 2
 have c2:=ae (i:=2) hw rfl
 have c3:=ae (i:=3) hw rfl
 have hstart:JInv aj rt rm pv no aI K g cap C E w 0 C (w.setCell ⟨aj,2,none⟩ (.slice no K.length aI)):=by
  have ho:Only aj w (w.setCell ⟨aj,2,none⟩ (.slice no K.length aI)):=(Only.refl aj w).setCell (p:=⟨aj,2,none⟩) (.inl rfl) _
  have hs:aY (fun b=>b=aj\/b=g) w (w.setCell ⟨aj,2,none⟩ (.slice no K.length aI)):=aY.kg ho (fun x hx=>.inl hx)
  refine ⟨b7 (i:=2) hw,dw hE fun b hb=>ho.block b (hE.lt b hb).2 (by cases hb;exact hgw),rfl,fun i c c0 h1 h2=>by rw [h1] at h2;cases h2;exact ⟨rfl,rfl,rfl,rfl,rfl⟩,fun i c e h=>by omega,fun c hc=>?_,fun i _=>rfl,hs⟩
  refine (hT c hc).spare hs (fun a ha=>?_) (fun a ha=>?_)
  ·obtain ⟨cs,m,h1⟩:=(hT c hc).so a ha
   rintro (e | e)
   ·rw [e,hw] at h1;cases h1
   ·rw [e,hg0] at h1;cases h1
  ·obtain ⟨cs,m,h1⟩:=(hT c hc).ao a ha
   rintro (e | e)
   ·rw [e,hw] at h1;cases h1
   ·rw [e,hg0] at h1;cases h1
 have kU:∀ (j:Nat) (Cs:List bx) (wr:World),j<C.length->JInv aj rt rm pv no aI K g cap C E w j Cs wr->Calls Tryz.prog 132 #[.slice no K.length aI,.slice (some ⟨g,0,none⟩) (j+1) cap] wr fun e W'=>(∃ v,e=.returned v)/\∃ Cs',JInv aj rt rm pv no aI K g cap C E w (j+1) Cs' W':=by
  intro j Cs wr hj hI
  have hjs:j<Cs.length:=by rw [hI.len];exact hj
  have hjE:j<E.length:=by omega
  have evs':wr.ownsRow 0 159 4 (.slice (some ⟨g,0,none⟩) Cs.length cap) Cs.length (dk Cs):=by have:=hI.uC;rw [<- hI.len] at this;exact this
  obtain ⟨cg,hcg,hcell,hcp,sa,hcsz,hctk⟩:=row_array evs' rfl
  have hcj:Cs[j]? = C[j]?:=hI.later j (Nat.le_refl _)
  obtain ⟨c,hc⟩:∃ c,Cs[j]? = some c:=⟨Cs[j],List.getElem?_eq_getElem hjs⟩
  have lj:C[j]? = some c:=hcj▸hc
  have tP:=hIn j c E[j] lj (List.getElem?_eq_getElem hjE)
  have hTc:=hT c (List.mem_of_getElem? lj)
  have hgd:∀ i,Cs.getD i c=(Cs[i]?).getD c:=fun i=>by rw [List.getD_eq_getElem?_getD]
  have hcd:Cs.getD j c=c:=by rw [hgd,hc];rfl
  have hjl:=vd K E j
  have hEf:∀ i,i<j->(gS K E j++[E[j]]).getD i pe0=(gS K E j).getD i pe0:=fun i hi=>by
   rw [List.getD_eq_getElem?_getD,List.getD_eq_getElem?_getD,List.getElem?_append_left (by omega)]
  have hEj:(gS K E j++[E[j]]).getD j pe0=E[j]:=by
   rw [List.getD_eq_getElem?_getD,List.getElem?_append_right (by omega),hjl];simp
  have hmemT:∀ i,i<Cs.length->EvT wr (Cs.getD i c):=fun i hi=>hI.typed _ (by rw [hgd,List.getElem?_eq_getElem hi];exact List.getElem_mem hi)
  have hnotc:∀ a cs t m,w.heap[a]? = some (.cells cs t m)->t≠153->t≠159->¬ (a=aj\/a=g):=fun a cs t m h1 h2 h3 h4=>by
   rcases h4 with e | e
   ·rw [e,hw] at h1;injection h1 with h1;injection h1 with _ h1 _;exact h2 h1.symm
   ·rw [e,hg0] at h1;injection h1 with h1;injection h1 with _ h1 _;exact h3 h1.symm
  have hpre:qh wr c E[j]:=by
   have h1:=tP.pre
   refine ⟨h1.number,h1.time,h1.low,h1.al,h1.alen,fun hne=>?_⟩
   obtain ⟨b,off,a1,a2,a3⟩:=h1.atoms hne
   obtain ⟨cs,m,k1⟩:=hTc.ao _ a1
   have hb:wr.heap[b]? = w.heap[b]?:=hI.sp.block b a2 (hnotc b cs 9 m k1 (by decide) (by decide))
   exact ⟨b,off,a1,Nat.lt_of_lt_of_le a2 hI.sp.size,fun q hq=>by rw [World.cell?_of_block hb];exact a3 q hq⟩
  have hNr:eB wr no K:=hN.spare hI.sp (fun a ha=>by obtain ⟨h1,h2,_⟩:=hng a ha;exact fun h=>h.elim h2 h1)
  have hwo:=workOut_any no aI K g cap j cg (fun i=>Cs.getD i c) (fun i=>(gS K E j++[E[j]]).getD i pe0) wr (by omega) (by omega) hK hnc hcg
   (fun i k v hi hv=>by
    have qo:i<Cs.length:=by omega
    have:(Cs.getD i c)=Cs[i]:=by rw [hgd,List.getElem?_eq_getElem qo];rfl
    rw [this] at hv
    exact hcell _ _ (kn bf 4 (fun _=>rfl) Cs i k Cs[i] v (List.getElem?_eq_getElem qo) hv))
   hNr (fun a ha=>(hng a ha).1) aN hAh
   (fun i hi=>by
    have qo:i<Cs.length:=by omega
    rw [hEf i hi]
    have e1:(gS K E j)[i]? = some ((gS K E j).getD i pe0):=by rw [List.getD_eq_getElem?_getD,List.getElem?_eq_getElem (by omega)];rfl
    refine hI.done i _ _ hi ?_ e1
    rw [hgd,List.getElem?_eq_getElem qo];rfl)
   (fun i hi=>by
    rw [hEf i hi]
    refine judL_row K E j _ ?_
    rw [List.getD_eq_getElem?_getD,List.getElem?_eq_getElem (by omega)]
    exact List.getElem_mem _)
   (fun i hi=>(hmemT i (by omega)).off hcg)
   (by show qh wr (Cs.getD j c) ((gS K E j++[E[j]]).getD j pe0);rw [hcd,hEj];exact hpre)
   (fun a ha=>by
    have:=(hmemT j hjs).off hcg
    exact this.ao a ha)
  refine hwo.mono ?_
  rintro e W' ⟨sb,sc,cur,rfl,s1,s2,s3,s4,s5⟩
  refine ⟨⟨_,rfl⟩,Cs.set j (c.cC sb (K.length+1) sc),?_⟩
  have hbk:cv (fun i=>(gS K E j++[E[j]]).getD i pe0) j=(gS K E j).reverse:=by
   rw [qO hEf]
   have:=backL_list (gS K E j) pe0
   rw [hjl] at this
   exact this
  have hEd:E.getD j pe0=E[j]:=by rw [List.getD_eq_getElem?_getD,List.getElem?_eq_getElem hjE];rfl
  have s5':cZ W' (c.cC sb (K.length+1) sc) (b9 (gS K E j).reverse K (E.getD j pe0).bare):=by
   have:=s5
   simp only [hbk,hEj,hcd] at this
   rw [hEd]
   exact this
  have hsp2:aY (fun b=>b=aj\/b=g) wr W':=aY.kg s2 (fun x hx=>.inr hx)
  have hwW:W'.heap[aj]? = wr.heap[aj]?:=s2.block aj (aw hI.hw) (fun e=>hgw e.symm)
  refine ⟨hwW.trans hI.hw,?_,by rw [List.length_set,hI.len],?_,?_,?_,?_,hI.sp.trans hsp2⟩
  ·show W'.ownsRow 0 159 4 _ _ _
   rw [List.length_set,<- flatE_setAt Cs j c sb (K.length+1) sc hc]
   refine ⟨by rw [List.length_set];exact evs'.1,.inr ⟨g,cap,_,by rw [hI.len],Nat.zero_le _,s3,hcp,sa,by simp [hcsz],?_⟩⟩
   rw [Array.toList_setIfInBounds,List.take_set,hctk]
  ·intro i d d0 h1 h2
   by_cases hij:i=j
   ·subst hij
    rw [List.getElem?_set_self hjs] at h1
    cases h1
    rw [lj] at h2
    cases h2
    exact ⟨rfl,rfl,rfl,rfl,rfl⟩
   ·rw [List.getElem?_set_ne (fun e=>hij e.symm)] at h1
    exact hI.same i d d0 h1 h2
  ·intro i d e hi h1 h2
   by_cases hij:i=j
   ·subst hij
    rw [List.getElem?_set_self hjs] at h1
    cases h1
    rw [gS,List.getElem?_append_right (by omega),hjl] at h2
    simp at h2
    subst h2
    exact s5'
   ·rw [List.getElem?_set_ne (fun e=>hij e.symm)] at h1
    rw [gS,List.getElem?_append_left (by omega)] at h2
    exact (hI.done i d e (by omega) h1 h2).only ((hI.typed d (List.mem_of_getElem? h1)).off hcg) s2
  ·intro d hd
   rcases List.mem_or_eq_of_mem_set hd with hd | rfl
   ·have hdT:=hI.typed d hd
    have hof:=hdT.off hcg
    exact hdT.spare (aY.kg s2 (P:=fun b=>b=g) (fun x hx=>hx)) hof.so hof.ao
   ·have hcT:=hI.typed c (List.mem_of_getElem? hc)
    have hof:=hcT.off hcg
    refine ⟨fun a ha=>?_,fun a ha=>?_⟩
    ·have:some (⟨sb,0,none⟩:Addr)=some a:=ha
     cases this
     exact ⟨cur,(0,0),s4⟩
    ·obtain ⟨cs,m,k1⟩:=hcT.ao a ha
     exact ⟨cs,m,(s2.block _ (aw k1) (hof.ao a ha)).trans k1⟩
  ·intro i hi
   rw [List.getElem?_set_ne (by omega)]
   exact hI.later i (by omega)
 have HS:Hid _:=kU
 have HI0:Hid _:=hstart
 have Hc3:Hid (∀ j Cs wr,JInv aj rt rm pv no aI K g cap C E w j Cs wr->wr.cell? ⟨aj,3,none⟩=some (.slice (some ⟨g,0,none⟩) C.length cap)):=fun j Cs wr h=>ae h.hw rfl
 have hci:=Hc3.out 0 C _ hstart
 clear kU hstart hE hIn hT hN hNt aN hAh hng hg0 hlen
 generalize hJ:JInv aj rt rm pv no aI K g cap C E w=J at *
 clear hJ
 generalize C.length=n at *
 go_enter Tryz.func142,Tryz.ntmps142
 go_wp2_with fail
 go_loopw [14] (fun jv wr=>∃ (j:Nat) (Cs:List bx),jv=.int .i64 j/\j<=n/\J j Cs wr) (fun jv _=>n-(intOf jv).toNat)
 case atStart=>exact ⟨0,C,rfl,Nat.zero_le _,HI0.out⟩
 case round =>
  obtain ⟨j,Cs,rfl,hjn,hI⟩:=hrel
  by_cases hj:j<n
  ·have k3:=Hc3.out j Cs wr hI
   have hcall:=HS.out j Cs wr hj hI
   go_wp2_with fail
   refine hcall.mono ?_
   rintro e w1 ⟨⟨v,rfl⟩,Cs',hI'⟩
   go_wp2_with fail
   go_roundw
   case rel=>exact ⟨j+1,Cs',by go_num,by omega,hI'⟩
   case measure=>simp only [intOf];omega
  ·obtain rfl:j=n:=by omega
   go_wp2_with fail
   exact bodyPost_end (results_none rfl _ _ _) rfl ⟨rfl,Cs,hI⟩
end Ev
namespace Ev
open Go.RowKit Go.Deep Go.Maps Lf
def JudgedAt (aj:Nat) (ai room:Int) (ea:Option Addr) (az:Nat) (C:List bx) (E:List Pe) (K:List Key) (V:World) (nn:Value) (w':World):Prop :=
 ∃ (no:Option Addr) (aI:Nat) (pv:Value) (Cs:List bx),nn=.slice no K.length aI/\K.length<=aI/\eB w' no K/\(∀ a,no=some a->∃ cs m,w'.heap[a.block]? = some (.cells cs 226 m))/\(∃ nv,V.heap[aj]? = some (.cells #[.int .i64 ai,.int .i64 room,nv,.slice ea C.length az,pv] 153 (0,0)))/\
  w'.heap[aj]? = some (.cells #[.int .i64 ai,.int .i64 room,nn,.slice ea C.length az,pv] 153 (0,0))/\bY w' (.slice ea C.length az) Cs/\Cs.length=C.length/\(∀ (i:Nat) c c0,Cs[i]? = some c->C[i]? = some c0->c.number=c0.number/\c.time=c0.time)/\
  (∀ (i:Nat) c e,Cs[i]? = some c->(gS K E C.length)[i]? = some e->cZ w' c e)/\(∀ c∈Cs,EvT w' c)/\aY (fun b=>b=aj\/∃ a,ea=some a/\a.block=b) V w'
end Ev
namespace Ev
open Go.RowKit Go.Deep
theorem qu {P:Program} {ops:Array Oper} {o:Oper} {a:Act} {w:World} {K:Act->World->Prop} {Q:Exit->Act->World->Prop} {E:Prop}
  (hgd:o.guard=none) (s x:Operand) (t:TypeId) (aN:o.op=Op.call { callee:=Callee.builtin Builtin.append,args:=#[s,x],argTypes:=#[t,t] })
  (e:TypeId) (i:TypeInfo) (h1:P.underlying t=some (.slice e)) (h2:P.info? e=some i) (g n cap:Nat) (cur:Array Value) (hg:w.heap[g]? = some (.cells cur e (0,0))) (hs:a.eval s=.slice (some ⟨g,0,none⟩) n cap)
  (ad:Addr) (m c:Nat) (news:List Value) (hx:a.eval x=.slice (some ad) m c) (hn:news.length=m*i.size) (hc:∀ j u,news[j]? = some u->w.cell? (ad.add j)=some u) (h1c:∀ u∈news,u.oneCell'=true)
  (oI:n+m<=cap) (hfit:n*i.size+news.length<=cur.size)
  (hK:K (a.put o.dst (.slice (some ⟨g,0,none⟩) (n+m) cap)) (w.setRow g (cur.toList.take (n*i.size)++news++cur.toList.drop (n*i.size+news.length)).toArray)) :
  if Region.wanted o (yielded ops a.tmps)=true then Oper.wp P o a w K Q else E:=by
 have hw:Region.wanted o (yielded ops a.tmps)=true:=by simp [Region.wanted,hgd]
 rw [if_pos hw]
 have dQ:=run_append_room (P:=P) w t o.type e i h1 h2 g n cap cur hg ad m c news hn hc h1c oI hfit
 unfold Oper.wp
 simp [execOp,aN,resolve,invoke,builtin,hs,hx,dQ,Result.andThen]
 rw [List.append_assoc] at hK
 exact hK
def rU (k:Nat):List Value:=(Builtin.zeroCells #[.int .i64 0,.int .i64 0,.slice none 0 0,.slice none 0 0] k).toList
theorem uh (k:Nat):(rU k).length=k*4:=by simp [rU,Builtin.zeroCells]
theorem zerosE_one (k:Nat):∀ u∈rU k,u.oneCell'=true:=by
 intro u hu
 simp only [rU,Builtin.zeroCells,Array.toList_map,List.mem_map,Array.mem_toList_iff,Array.mem_range] at hu
 obtain ⟨i,_,rfl⟩:=hu
 have h4:i % 4=0\/i % 4=1\/i % 4=2\/i % 4=3:=by omega
 have e:(#[Value.int .i64 0,.int .i64 0,.slice none 0 0,.slice none 0 0]:Array Value).size=4:=rfl
 rw [e]
 rcases h4 with h | h | h | h<;>rw [h]<;>rfl
theorem clear_events (W:World) (ty:TypeId) (g o k c:Nat) (hk:k≠0) (cur:Array Value) (hg:W.heap[g]? = some (.cells cur 159 (0,0))) (hfit:o+k*4<=cur.size) :
  (Builtin.clear_ #[146] ty #[.slice (some ⟨g,o,none⟩) k c]).run Tryz.prog W=.ok (.tuple #[]) (W.setRow g (cur.toList.take o++rU k++cur.toList.drop (o+k*4)).toArray):=by
 have h1:=run_storeCells_at (P:=Tryz.prog) g o 159 (rU k) 0 cur W hg (by rw [uh];omega) (zerosE_one k)
 rw [uh,Nat.add_zero] at h1
 obtain ⟨k,rfl⟩:∃ m,k=m+1:=⟨k-1,by omega⟩
 have h2:(Value.agg #[.int .i64 0,.int .i64 0,.slice none 0 0,.slice none 0 0]).cells=#[.int .i64 0,.int .i64 0,.slice none 0 0,.slice none 0 0]:=rfl
 have hu:∀ w:World,(underlying 146).run Tryz.prog w=.ok (.slice 159) w:=fun w=>by
  have:=Tryz.underlying146
  simp [underlying,this]
 unfold rU at h1
 simp [Builtin.clear_,hu,h2,h1]
 rfl
theorem flatE_len (C:List bx):(dk C).length=C.length*4:=by
 induction C with
 | nil=>rfl
 | cons c C ih =>
  have:dk (c::C)=bf c++dk C:=rfl
  rw [this,List.length_append,ih]
  show 4+C.length*4=(C.length+1)*4
  omega
theorem flatE_drop (C:List bx):∀ k,dk (C.drop k)=(dk C).drop (k*4):=by
 induction C with
 | nil=>intro k;simp [dk]
 | cons c C ih =>
  intro k
  cases k with
  | zero=>simp
  | succ k =>
   have e:dk (c::C)=bf c++dk C:=rfl
   rw [List.drop_succ_cons,ih k,e,List.drop_append]
   have h1:(bf c).length=4:=rfl
   rw [h1]
   have h2:(k+1)*4-4=k*4:=by omega
   rw [h2,List.drop_of_length_le (l:=bf c) (by rw [h1];omega),List.nil_append]
set_option maxRecDepth 100000 in
set_option maxHeartbeats 8000000 in
theorem tC (g cap k:Nat) (C:List bx) (w:World) (hE:bY w (.slice (some ⟨g,0,none⟩) C.length cap) C) (hk0:0<k) (hkn:k<=C.length) (hn:C.length<=1000) :
  Calls Tryz.prog 130 #[.slice (some ⟨g,0,none⟩) C.length cap,.int .i64 0,.int .i64 (k:Int)] w fun e w'=>e=.returned (.slice (some ⟨g,0,none⟩) (C.length-k) cap)/\bY w' (.slice (some ⟨g,0,none⟩) (C.length-k) cap) (C.drop k)/\Only g w w':=by
 obtain ⟨h0,⟨h1,_⟩ | ⟨g',mq,cur,e1,_,hg,hnc,sa,ng,rE⟩⟩:=hE
 ·cases h1
 cases e1
 obtain ⟨i0,hi,lr,iU,lu⟩:=info_parts oM
 obtain ⟨news,rD⟩:∃ news,news=dk (C.drop k):=⟨_,rfl⟩
 have hlen:news.length=(C.length-k)*4:=by rw [rD,flatE_len,List.length_drop]
 have hcmx:cap<=9223372036854775807:=Nat.le_trans sa (by decide)
 have fD:∀ t u,news[t]? = some u->w.cell? ⟨g,k*4+t,none⟩=some u:=by
  intro t u hu
  have ht:t<(C.length-k)*4:=by have:=(List.getElem?_eq_some_iff.1 hu).1;rwa [hlen] at this
  refine ae hg ?_
  rw [rD,flatE_drop,List.getElem?_drop,<- rE,List.getElem?_take] at hu
  rw [if_pos (by omega)] at hu
  simpa using hu
 obtain ⟨A,hA,hsrc⟩:∃ A:Addr,(if cap=k then some (⟨g,0,none⟩:Addr) else some ⟨g,k*4,none⟩)=some A/\Hid (∀ t u,news[t]? = some u->w.drew.cell? (A.add t)=some u):=by
  by_cases h:cap=k
  ·refine ⟨⟨g,0,none⟩,by simp [h],fun t u hu=>?_⟩
   have h0:news.length=0:=by rw [hlen];omega
   rw [List.length_eq_zero_iff.1 h0] at hu
   simp at hu
  ·refine ⟨⟨g,k*4,none⟩,by simp [h],fun t u hu=>?_⟩
   rw [Addr.add_lit]
   exact fD t u hu
 obtain ⟨W1,o_⟩:∃ W1,W1=w.drew.setRow g (cur.toList.take (0*i0.size)++news++cur.toList.drop (0*i0.size+news.length)).toArray:=⟨_,rfl⟩
 have hone:∀ u∈news,u.oneCell'=true:=by
  intro u hu
  rw [rD] at hu
  obtain ⟨c,hc,hu⟩:=List.mem_flatten.1 hu
  obtain ⟨e,_,rfl⟩:=List.mem_map.1 hc
  exact evOne e u hu
 have hg1:W1.heap[g]? = some (.cells (news++cur.toList.drop news.length).toArray 159 (0,0)):=by
  rw [o_,Nat.zero_mul,List.take_zero,List.nil_append,Nat.zero_add]
  exact setRow_heap w.drew g cur _ _ (0,0) hg
 have hsz1:(news++cur.toList.drop news.length).toArray.size=cap*4:=by
  simp only [List.size_toArray,List.length_append,List.length_drop,Array.length_toList,hlen,ng]
  omega
 have om:=fun ty=>clear_events W1 ty g ((C.length-k)*4) k (cap-(C.length-k)) (by omega) _ hg1 (by rw [hsz1];omega)
 have bH:∀ w2,w2=W1.setRow g ((news++cur.toList.drop news.length).toArray.toList.take ((C.length-k)*4)++rU k++(news++cur.toList.drop news.length).toArray.toList.drop ((C.length-k)*4+k*4)).toArray->bY w2 (.slice (some ⟨g,0,none⟩) (C.length-k) cap) (C.drop k)/\Only g w w2:=by
  rintro w2 rfl
  refine ⟨⟨?_,.inr ⟨g,cap,_,?_,Nat.zero_le _,setRow_heap _ g _ _ _ _ hg1,?_,sa,?_,?_⟩⟩,?_⟩
  ·rw [flatE_len]
  ·rw [List.length_drop]
  ·rw [List.length_drop];omega
  ·simp only [List.size_toArray,List.length_append,List.length_take,List.length_drop,uh,Array.length_toList,hlen,ng]
   omega
  ·rw [<- rD,List.length_drop,<- hlen]
   simp
  ·refine ⟨by rw [o_];rfl,by rw [o_];rfl,by rw [o_];rfl,by rw [o_];simp,fun b hb hne=>?_⟩
   rw [setRow_other _ _ _ _ hne,o_,setRow_other _ _ _ _ hne]
   rfl
 have s1:news.length=(C.length-k)*i0.size:=by rw [iU];exact hlen
 have s2:0*i0.size+news.length<=cur.size:=by rw [ng];omega
 have hW:Hid (W1=w.drew.setRow g (cur.toList.take (0*i0.size)++news++cur.toList.drop (0*i0.size+news.length)).toArray):=o_
 replace bH:Hid _:=bH
 replace s1:Hid _:=s1
 replace s2:Hid _:=s2
 replace hone:Hid _:=hone
 have oq:Hid (w.drew.heap[g]? = some (.cells cur 159 (0,0))):=hg
 have hkc:k<=cap:=by omega
 clear fD rD hlen hg1 hsz1 h0 rE hg o_ ng sa
 generalize C.length=n at *
 go_enter Tryz.func130,Tryz.ntmps130
 go_wp2_with fail
 go_region_law (refine qu rfl (.tmp 22) (.tmp 25) 146 rfl 159 i0 Tryz.underlying146 hi g 0 cap cur oq.out (by simp [Act.eval,Act.put]) A (n-k) (cap-k) news (by simp [Act.eval,Act.put]) s1.out hsrc.out hone.out (by omega) s2.out ?_;rw [<- hW.out])
 have hnk:n-(n-k)=k:=by omega
 go_wp2
 go_ret
 exact ⟨rfl,bH.out _ (by rw [List.append_assoc])⟩
def rV (k:Nat):List Value:=(Builtin.zeroCells #[.string ⟨#[]⟩,.pointer none,.int .i64 0,.int .i64 0,.pointer none] k).toList
theorem ui (k:Nat):(rV k).length=k*5:=by simp [rV,Builtin.zeroCells]
theorem zerosP_one (k:Nat):∀ u∈rV k,u.oneCell'=true:=by
 intro u hu
 simp only [rV,Builtin.zeroCells,Array.toList_map,List.mem_map,Array.mem_toList_iff,Array.mem_range] at hu
 obtain ⟨i,_,rfl⟩:=hu
 have h4:i % 5=0\/i % 5=1\/i % 5=2\/i % 5=3\/i % 5=4:=by omega
 have e:(#[Value.string ⟨#[]⟩,.pointer none,.int .i64 0,.int .i64 0,.pointer none]:Array Value).size=5:=rfl
 rw [e]
 rcases h4 with h | h | h | h | h<;>rw [h]<;>rfl
theorem clear_pols (W:World) (ty:TypeId) (g o k c:Nat) (hk:k≠0) (cur:Array Value) (hg:W.heap[g]? = some (.cells cur 183 (0,0))) (hfit:o+k*5<=cur.size) :
  (Builtin.clear_ #[151] ty #[.slice (some ⟨g,o,none⟩) k c]).run Tryz.prog W=.ok (.tuple #[]) (W.setRow g (cur.toList.take o++rV k++cur.toList.drop (o+k*5)).toArray):=by
 have h1:=run_storeCells_at (P:=Tryz.prog) g o 183 (rV k) 0 cur W hg (by rw [ui];omega) (zerosP_one k)
 rw [ui,Nat.add_zero] at h1
 obtain ⟨k,rfl⟩:∃ m,k=m+1:=⟨k-1,by omega⟩
 have h2:(Value.agg #[.string ⟨#[]⟩,.pointer none,.int .i64 0,.int .i64 0,.pointer none]).cells=#[.string ⟨#[]⟩,.pointer none,.int .i64 0,.int .i64 0,.pointer none]:=rfl
 have hu:∀ w:World,(underlying 151).run Tryz.prog w=.ok (.slice 183) w:=fun w=>by
  have:=Tryz.underlying151
  simp [underlying,this]
 unfold rV at h1
 simp [Builtin.clear_,hu,h2,h1]
 rfl
set_option maxRecDepth 100000 in
set_option maxHeartbeats 8000000 in
theorem deletePol_any (B g cap i n:Nat) (xs:List Value) (w:World) (hE:w.ownsRow B 183 5 (.slice (some ⟨g,0,none⟩) n cap) n xs) (qy:∀ u∈xs,u.oneCell'=true) (tP:i<n) (hn:n<=1000) :
  Calls Tryz.prog 99 #[.slice (some ⟨g,0,none⟩) n cap,.int .i64 (i:Int),.int .i64 ((i:Int)+1)] w fun e w'=>e=.returned (.slice (some ⟨g,0,none⟩) (n-1) cap)/\w'.ownsRow B 183 5 (.slice (some ⟨g,0,none⟩) (n-1) cap) (n-1) (xs.take (i*5)++xs.drop ((i+1)*5))/\Only g w w':=by
 obtain ⟨h0,⟨h1,_⟩ | ⟨g',mq,cur,e1,hBg,hg,hnc,sa,ng,rE⟩⟩:=hE
 ·cases h1
 cases e1
 obtain ⟨i0,hi,lr,iU,lu⟩:=info_parts iy
 obtain ⟨news,rD⟩:∃ news,news=xs.drop ((i+1)*5):=⟨_,rfl⟩
 have hlen:news.length=(n-(i+1))*5:=by rw [rD,List.length_drop,h0];omega
 have hcmx:cap<=9223372036854775807:=Nat.le_trans sa (by decide)
 have hcl':cur.toList.length=cap*5:=by rw [Array.length_toList];exact ng
 have fD:∀ t u,news[t]? = some u->w.cell? ⟨g,(i+1)*5+t,none⟩=some u:=by
  intro t u hu
  have ht:t<(n-(i+1))*5:=by have:=(List.getElem?_eq_some_iff.1 hu).1;rwa [hlen] at this
  refine ae hg ?_
  rw [rD,List.getElem?_drop,<- rE,List.getElem?_take] at hu
  rw [if_pos (by omega)] at hu
  simpa using hu
 obtain ⟨A,hA,hsrc⟩:∃ A:Addr,(if cap=i+1 then some (⟨g,0,none⟩:Addr) else some ⟨g,(i+1)*5,none⟩)=some A/\Hid (∀ t u,news[t]? = some u->w.drew.cell? (A.add t)=some u):=by
  by_cases h:cap=i+1
  ·refine ⟨⟨g,0,none⟩,by simp [h],fun t u hu=>?_⟩
   have h0:news.length=0:=by rw [hlen];omega
   rw [List.length_eq_zero_iff.1 h0] at hu
   simp at hu
  ·refine ⟨⟨g,(i+1)*5,none⟩,by simp [h],fun t u hu=>?_⟩
   rw [Addr.add_lit]
   exact fD t u hu
 obtain ⟨W1,o_⟩:∃ W1,W1=w.drew.setRow g (cur.toList.take (i*i0.size)++news++cur.toList.drop (i*i0.size+news.length)).toArray:=⟨_,rfl⟩
 have hone:∀ u∈news,u.oneCell'=true:=by
  intro u hu
  rw [rD] at hu
  exact qy u (List.mem_of_mem_drop hu)
 have hg1:W1.heap[g]? = some (.cells (cur.toList.take (i*5)++news++cur.toList.drop (i*5+news.length)).toArray 183 (0,0)):=by
  rw [o_,iU]
  exact setRow_heap w.drew g cur _ _ (0,0) hg
 have hsz1:(cur.toList.take (i*5)++news++cur.toList.drop (i*5+news.length)).toArray.size=cap*5:=by
  simp only [List.size_toArray,List.length_append,List.length_take,List.length_drop,hcl',hlen]
  omega
 have om:=fun ty=>clear_pols W1 ty g ((n-1)*5) 1 (cap-(n-1)) (by omega) _ hg1 (by rw [hsz1];omega)
 have bH:∀ w2,w2=W1.setRow g ((cur.toList.take (i*5)++news++cur.toList.drop (i*5+news.length)).toArray.toList.take ((n-1)*5)++rV 1++(cur.toList.take (i*5)++news++cur.toList.drop (i*5+news.length)).toArray.toList.drop ((n-1)*5+1*5)).toArray->w2.ownsRow B 183 5 (.slice (some ⟨g,0,none⟩) (n-1) cap) (n-1) (xs.take (i*5)++xs.drop ((i+1)*5))/\Only g w w2:=by
  rintro w2 rfl
  have hpre:(cur.toList.take (i*5)++news).length=(n-1)*5:=by
   simp only [List.length_append,List.length_take,hcl',hlen]
   omega
  refine ⟨⟨?_,.inr ⟨g,cap,_,rfl,hBg,setRow_heap _ g _ _ _ _ hg1,by omega,sa,?_,?_⟩⟩,?_⟩
  ·simp only [List.length_append,List.length_take,List.length_drop,h0];omega
  ·simp only [List.size_toArray,List.length_append,List.length_take,List.length_drop,ui,hcl',hlen]
   omega
  ·have e2:(cur.toList.take (i*5)++news++cur.toList.drop (i*5+news.length)).take ((n-1)*5)=cur.toList.take (i*5)++news:=by
    rw [List.take_append_of_le_length (by omega),List.take_of_length_le (by omega)]
   have e3:cur.toList.take (i*5)=xs.take (i*5):=by rw [<- rE,List.take_take];congr 1;omega
   simp only []
   rw [e2,List.append_assoc,List.take_append_of_le_length (by omega),List.take_of_length_le (by omega),e3,rD]
  ·refine ⟨by rw [o_];rfl,by rw [o_];rfl,by rw [o_];rfl,by rw [o_];simp,fun b hb hne=>?_⟩
   rw [setRow_other _ _ _ _ hne,o_,setRow_other _ _ _ _ hne]
   rfl
 have s1:news.length=(n-(i+1))*i0.size:=by rw [iU];exact hlen
 have s2:i*i0.size+news.length<=cur.size:=by rw [ng,iU];omega
 have hW:Hid (W1=w.drew.setRow g (cur.toList.take (i*i0.size)++news++cur.toList.drop (i*i0.size+news.length)).toArray):=o_
 replace bH:Hid _:=bH
 replace s1:Hid _:=s1
 replace s2:Hid _:=s2
 replace hone:Hid _:=hone
 have oq:Hid (w.drew.heap[g]? = some (.cells cur 183 (0,0))):=hg
 have hkc:i+1<=cap:=by omega
 have hic:i<=cap:=by omega
 have hkn:(i:Int)+1<=(n:Int):=by omega
 have htn:((i:Int)+1).toNat=i+1:=by omega
 have h0i:(0:Int)<=(i:Int)+1:=by omega
 clear fD rD hlen hg1 hsz1 h0 rE hg o_ ng sa hcl' qy
 go_enter Tryz.func99,Tryz.ntmps99
 go_wp2_with fail
 go_region_law (refine qu rfl (.tmp 22) (.tmp 25) 151 rfl 183 i0 Tryz.underlying151 hi g i cap cur oq.out (by simp [Act.eval,Act.put]) A (n-(i+1)) (cap-(i+1)) news (by simp [Act.eval,Act.put]) s1.out hsrc.out hone.out (by omega) s2.out ?_;rw [<- hW.out])
 have hnk:n-(n-1)=1:=by omega
 have hnk2:i+(n-(i+1))=n-1:=by omega
 rw [hnk2]
 go_wp2
 go_ret
 exact ⟨rfl,bH.out _ (by simp only [List.append_assoc,Nat.one_mul])⟩
end Ev
end Go.Proofs.YtpbbmagjhkakgaaGreatDoor
