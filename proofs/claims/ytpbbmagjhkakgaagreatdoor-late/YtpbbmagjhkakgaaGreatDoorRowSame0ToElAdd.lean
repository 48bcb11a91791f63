import Derived.Test.YtpbbmagjhkakgaaGreatDoorSmSentToSnOps
import Derived.Test.YtpbbmagjhkakgaaGreatDoorSnSeen0ToSmLoop
import Derived.Test.YtpbbmagjhkakgaaGreatDoorEdTake3ToEdWatch
import Derived.Test.YtpbbmagjhkakgaaGreatDoorSnSemToPureLoose
import Derived.Test.YtpbbmagjhkakgaaGreatDoorEvCopyToEvTake3
import Derived.Test.YtpbbmagjhkakgaaGreatDoorEvAdd2ToSnAtoms
namespace Go.Proofs.YtpbbmagjhkakgaaGreatDoor
open Go.ChangeShapes Go.WideShapes Go.ChangeAt Go.RowKit Go.Deep Go.Conc Go.Proofs.YtpbbmagjhkakgaaGreatDoor.Ev Go.Proofs.YtpbbmagjhkakgaaGreatDoor.Lf
theorem trodAll_more {H:Type} {enc:TypeId×Value->H} {P:Program} {w:World} {base:Nat} {spare:Nat->Bool} {held:Bool} {t:TypeId} {ts:List TypeId} {v:Value} {vs:List Value} {d:DataW H} {ds:List (DataW H)} {p p':List MemPlace}
  (h:DataW.Trod enc P w base spare held t v d p) (hs:DataW.TrodAll enc P w base spare held ts vs ds p'):DataW.TrodAll enc P w base spare held (t::ts) (v::vs) (d::ds) (p++p'):=⟨p,p',h,hs,rfl⟩
end Go.Proofs.YtpbbmagjhkakgaaGreatDoor
namespace Go.Proofs.YtpbbmagjhkakgaaGreatDoor.Ev
open Go.RowKit Go.Deep Go.Maps Go.Proofs.YtpbbmagjhkakgaaGreatDoor.Lf
theorem histZ_len (L:List (Int×Int)):∀ i,(histZ L i).length=i
 | 0=>rfl
 | i+1=>by simp [histZ,histZ_len L i]
theorem histZ_at (L:List (Int×Int)):∀ (i q:Nat) (h:Hap),(histZ L i)[q]? = some h->h.1=timeZ L (i-q)
 | 0,q,h,hq=>by simp [histZ] at hq
 | i+1,0,h,hq=>by simp [histZ] at hq;subst hq;rfl
 | i+1,q+1,h,hq=>by
  have:=histZ_at L i q h (by simpa [histZ] using hq)
  rw [this]
  congr 1
  omega
theorem Run.len {L:List (Int×Int)} {K:List Key} {i:Nat} {E:List Pe} {dr:List Hap} (h:Run L K i E dr):E.length<=i:=by
 have:=congrArg List.length h.hist
 simp [histZ_len] at this
 omega
theorem Run.time {L:List (Int×Int)} {K:List Key} {i:Nat} {E:List Pe} {dr:List Hap} (h:Run L K i E dr) (j:Nat) (e:Pe) (hj:E[j]? = some e):e.time=timeZ L (i+1+j-E.length):=by
 have hl:=h.len
 have hjl:=(List.getElem?_eq_some_iff.1 hj).1
 have h1:(histZ L i)[E.length-1-j]? = some e.hap:=by
  rw [<- h.hist,List.getElem?_append_left (by simp;omega),List.getElem?_map,List.getElem?_reverse (by omega)]
  have:E.length-1-(E.length-1-j)=j:=by omega
  rw [this,hj]
  rfl
 have h2:=histZ_at L i _ _ h1
 have h3:i-(E.length-1-j)=i+1+j-E.length:=by omega
 rw [h3] at h2
 exact h2
theorem oldF_ge (t:Int):∀ (C:List EvC) (c:EvC),C[oldF t C]? = some c->t<=c.time
 | [],c,h=>by simp at h
 | d::C,c,h=>by
  simp only [oldF] at h
  split at h
  ·rename_i hd;simp at h;subst h;omega
  ·exact oldF_ge t C c (by simpa using h)
theorem timeZ_le (L:List (Int×Int)) {a b:Nat} (h:a<=b):timeZ L a<=timeZ L b:=by
 have:=timeZ_mono L a (b-a)
 have e:a+(b-a)=b:=by omega
 rwa [e] at this
def IntsKept (w W':World):Prop:=∀ (b:Nat) (cs:Array Value) (m:Nat×Nat),w.heap[b]? = some (.cells cs 3 m)->W'.heap[b]? = some (.cells cs 3 m)
end Go.Proofs.YtpbbmagjhkakgaaGreatDoor.Ev
namespace Go.Proofs.YtpbbmagjhkakgaaGreatDoor.Ev
open Go.RowKit Go.Deep
def pe0:Pe:=⟨0,0,[],[]⟩
def judL (K:List Key) (E:List Pe):Nat->List Pe
 | 0=>[]
 | j+1=>judL K E j++[workF (judL K E j).reverse K (E.getD j pe0).bare]
theorem judL_len (K:List Key) (E:List Pe):∀ j,(judL K E j).length=j
 | 0=>rfl
 | j+1=>by simp [judL,judL_len K E j]
theorem judL_row (K:List Key) (E:List Pe):∀ j,∀ e∈judL K E j,e.so.length=K.length+1
 | 0,e,h=>by simp [judL] at h
 | j+1,e,h=>by
  rcases List.mem_append.1 h with h | h
  ·exact judL_row K E j e h
  ·simp only [List.mem_singleton] at h
   subst h
   rw [(workF_same _ K _).2.2.2.1]
   simp [Pe.bare]
   omega
theorem flatE_setAt:∀ (C:List EvC) (j:Nat) (c:EvC) (sb sl sc:Nat),C[j]? = some c->(flatE C).set (j*4+3) (.slice (some ⟨sb,0,none⟩) sl sc)=flatE (C.set j (c.withSo sb sl sc))
 | [],j,c,sb,sl,sc,h=>by simp at h
 | d::C,0,c,sb,sl,sc,h=>by
  simp at h
  subst h
  rfl
 | d::C,j+1,c,sb,sl,sc,h=>by
  have ih:=flatE_setAt C j c sb sl sc (by simpa using h)
  have e1:flatE (d::C)=evCells d++flatE C:=rfl
  have e2:(d::C).set (j+1) (c.withSo sb sl sc)=d::C.set j (c.withSo sb sl sc):=rfl
  have e3:flatE (d::C.set j (c.withSo sb sl sc))=evCells d++flatE (C.set j (c.withSo sb sl sc)):=rfl
  have h4:(evCells d).length=4:=rfl
  rw [e1,e2,e3,<- ih,List.set_append]
  rw [if_neg (by rw [h4];omega),h4]
  congr 2
  omega
structure JInv (wtb:Nat) (rt rm pv:Value) (no:Option Addr) (ncap:Nat) (K:List Key) (g cap:Nat) (C:List EvC) (E:List Pe) (w:World) (j:Nat) (Cs:List EvC) (wr:World):Prop where
 hw:wr.heap[wtb]? = some (.cells #[rt,rm,.slice no K.length ncap,.slice (some ⟨g,0,none⟩) C.length cap,pv] 153 (0,0))
 evs:EvsAt wr (.slice (some ⟨g,0,none⟩) C.length cap) Cs
 len:Cs.length=C.length
 same:∀ (i:Nat) c c0,Cs[i]? = some c->C[i]? = some c0->c.number=c0.number/\c.time=c0.time/\c.ao=c0.ao/\c.al=c0.al/\c.ac=c0.ac
 done:∀ (i:Nat) c e,i<j->Cs[i]? = some c->(judL K E j)[i]? = some e->EvIn wr c e
 typed:∀ c∈Cs,EvT wr c
 later:∀ i,j<=i->Cs[i]? = C[i]?
 sp:Spare (fun b=>b=wtb\/b=g) w wr
theorem EvIn.pre {w:World} {c:EvC} {e:Pe} (h:EvIn w c e):EvPre w c e:=⟨h.number,h.time,h.low,h.al,h.alen,h.atoms⟩
set_option maxRecDepth 100000 in
set_option maxHeartbeats 8000000 in
theorem judge_any (wtb:Nat) (rt rm nv pv:Value) (no:Option Addr) (ncap:Nat) (K:List Key) (g cap:Nat) (C:List EvC) (E:List Pe) (w:World)
  (hw:w.heap[wtb]? = some (.cells #[rt,rm,nv,.slice (some ⟨g,0,none⟩) C.length cap,pv] 153 (0,0))) (hE:EvsAt w (.slice (some ⟨g,0,none⟩) C.length cap) C) (hlen:C.length=E.length) (hIn:∀ (i:Nat) c e,C[i]? = some c->E[i]? = some e->EvIn w c e) (hT:∀ c∈C,EvT w c) (hn:C.length<=1000)
  (hK:K.length<=1000) (hnc:K.length<=ncap) (hN:NodesIn w no K) (hNt:∀ a,no=some a->∃ cs m,w.heap[a.block]? = some (.cells cs 226 m)) (hop:∀ k∈K,CoreOp k.op) (hAh:Ahead K) :
  Calls Tryz.prog 142 #[.pointer (some ⟨wtb,0,none⟩),.slice no K.length ncap] w fun e w'=>e=.returned (.tuple #[])/\∃ Cs,JInv wtb rt rm pv no ncap K g cap C E w C.length Cs w':=by
 have hwl:=heap_lt hw
 have hgl:g<w.heap.size:=(hE.lt g rfl).2
 obtain ⟨cg0,hg0⟩:=own_tag hE (g:=g) rfl
 have hgw:g≠wtb:=by
  rintro rfl
  rw [hw] at hg0
  cases hg0
 have hcap:C.length<=cap:=by
  rcases hE.cases with ⟨h1,_⟩ | ⟨g',cp,hev,h1,_,_⟩
  ·cases h1
  ·cases hev;exact h1
 have hng:∀ a,no=some a->a.block≠g/\a.block≠wtb/\a.block<w.heap.size:=fun a ha=>by
  obtain ⟨cs,m,h1⟩:=hNt a ha
  refine ⟨?_,?_,heap_lt h1⟩
  ·intro e;rw [e,hg0] at h1;cases h1
  ·intro e;rw [e,hw] at h1;cases h1
 have hf0:w.frozen? ⟨wtb,2,none⟩=false:=Lib.frozen_of_heap hw 2
 have c2:=cell_at (i:=2) hw rfl
 have c3:=cell_at (i:=3) hw rfl
 have hstart:JInv wtb rt rm pv no ncap K g cap C E w 0 C (w.setCell ⟨wtb,2,none⟩ (.slice no K.length ncap)):=by
  have ho:Only wtb w (w.setCell ⟨wtb,2,none⟩ (.slice no K.length ncap)):=(Only.refl wtb w).setCell (p:=⟨wtb,2,none⟩) (.inl rfl) _
  have hs:Spare (fun b=>b=wtb\/b=g) w (w.setCell ⟨wtb,2,none⟩ (.slice no K.length ncap)):=Spare.of_only ho (fun x hx=>.inl hx)
  refine ⟨set_heap (i:=2) hw,own_heap hE fun b hb=>ho.block b (hE.lt b hb).2 (by cases hb;exact hgw),rfl,fun i c c0 h1 h2=>by rw [h1] at h2;cases h2;exact ⟨rfl,rfl,rfl,rfl,rfl⟩,fun i c e h=>by omega,fun c hc=>?_,fun i _=>rfl,hs⟩
  refine (hT c hc).spare hs (fun a ha=>?_) (fun a ha=>?_)
  ·obtain ⟨cs,m,h1⟩:=(hT c hc).so a ha
   rintro (e | e)
   ·rw [e,hw] at h1;cases h1
   ·rw [e,hg0] at h1;cases h1
  ·obtain ⟨cs,m,h1⟩:=(hT c hc).ao a ha
   rintro (e | e)
   ·rw [e,hw] at h1;cases h1
   ·rw [e,hg0] at h1;cases h1
 have hstep:∀ (j:Nat) (Cs:List EvC) (wr:World),j<C.length->JInv wtb rt rm pv no ncap K g cap C E w j Cs wr->Calls Tryz.prog 132 #[.slice no K.length ncap,.slice (some ⟨g,0,none⟩) (j+1) cap] wr fun e W'=>(∃ v,e=.returned v)/\∃ Cs',JInv wtb rt rm pv no ncap K g cap C E w (j+1) Cs' W':=by
  intro j Cs wr hj hI
  have hjs:j<Cs.length:=by rw [hI.len];exact hj
  have hjE:j<E.length:=by omega
  have evs':wr.ownsRow 0 159 4 (.slice (some ⟨g,0,none⟩) Cs.length cap) Cs.length (flatE Cs):=by have:=hI.evs;rw [<- hI.len] at this;exact this
  obtain ⟨cg,hcg,hcell,hcp,hcm,hcsz,hctk⟩:=row_array evs' rfl
  have hcj:Cs[j]? = C[j]?:=hI.later j (Nat.le_refl _)
  obtain ⟨c,hc⟩:∃ c,Cs[j]? = some c:=⟨Cs[j],List.getElem?_eq_getElem hjs⟩
  have hc0:C[j]? = some c:=hcj▸hc
  have hin:=hIn j c E[j] hc0 (List.getElem?_eq_getElem hjE)
  have hTc:=hT c (List.mem_of_getElem? hc0)
  have hgd:∀ i,Cs.getD i c=(Cs[i]?).getD c:=fun i=>by rw [List.getD_eq_getElem?_getD]
  have hcd:Cs.getD j c=c:=by rw [hgd,hc];rfl
  have hjl:=judL_len K E j
  have hEf:∀ i,i<j->(judL K E j++[E[j]]).getD i pe0=(judL K E j).getD i pe0:=fun i hi=>by
   rw [List.getD_eq_getElem?_getD,List.getD_eq_getElem?_getD,List.getElem?_append_left (by omega)]
  have hEj:(judL K E j++[E[j]]).getD j pe0=E[j]:=by
   rw [List.getD_eq_getElem?_getD,List.getElem?_append_right (by omega),hjl];simp
  have hmemT:∀ i,i<Cs.length->EvT wr (Cs.getD i c):=fun i hi=>hI.typed _ (by rw [hgd,List.getElem?_eq_getElem hi];exact List.getElem_mem hi)
  have hnotc:∀ a cs t m,w.heap[a]? = some (.cells cs t m)->t≠153->t≠159->¬ (a=wtb\/a=g):=fun a cs t m h1 h2 h3 h4=>by
   rcases h4 with e | e
   ·rw [e,hw] at h1;injection h1 with h1;injection h1 with _ h1 _;exact h2 h1.symm
   ·rw [e,hg0] at h1;injection h1 with h1;injection h1 with _ h1 _;exact h3 h1.symm
  have hpre:EvPre wr c E[j]:=by
   have h1:=hin.pre
   refine ⟨h1.number,h1.time,h1.low,h1.al,h1.alen,fun hne=>?_⟩
   obtain ⟨b,off,a1,a2,a3⟩:=h1.atoms hne
   obtain ⟨cs,m,k1⟩:=hTc.ao _ a1
   have hb:wr.heap[b]? = w.heap[b]?:=hI.sp.block b a2 (hnotc b cs 9 m k1 (by decide) (by decide))
   exact ⟨b,off,a1,Nat.lt_of_lt_of_le a2 hI.sp.size,fun q hq=>by rw [World.cell?_of_block hb];exact a3 q hq⟩
  have hNr:NodesIn wr no K:=hN.spare hI.sp (fun a ha=>by obtain ⟨h1,h2,_⟩:=hng a ha;exact fun h=>h.elim h2 h1)
  have hwo:=workOut_any no ncap K g cap j cg (fun i=>Cs.getD i c) (fun i=>(judL K E j++[E[j]]).getD i pe0) wr (by omega) (by omega) hK hnc hcg
   (fun i k v hi hv=>by
    have hil:i<Cs.length:=by omega
    have:(Cs.getD i c)=Cs[i]:=by rw [hgd,List.getElem?_eq_getElem hil];rfl
    rw [this] at hv
    exact hcell _ _ (flat_get evCells 4 (fun _=>rfl) Cs i k Cs[i] v (List.getElem?_eq_getElem hil) hv))
   hNr (fun a ha=>(hng a ha).1) hop hAh
   (fun i hi=>by
    have hil:i<Cs.length:=by omega
    rw [hEf i hi]
    have e1:(judL K E j)[i]? = some ((judL K E j).getD i pe0):=by rw [List.getD_eq_getElem?_getD,List.getElem?_eq_getElem (by omega)];rfl
    refine hI.done i _ _ hi ?_ e1
    rw [hgd,List.getElem?_eq_getElem hil];rfl)
   (fun i hi=>by
    rw [hEf i hi]
    refine judL_row K E j _ ?_
    rw [List.getD_eq_getElem?_getD,List.getElem?_eq_getElem (by omega)]
    exact List.getElem_mem _)
   (fun i hi=>(hmemT i (by omega)).off hcg)
   (by show EvPre wr (Cs.getD j c) ((judL K E j++[E[j]]).getD j pe0);rw [hcd,hEj];exact hpre)
   (fun a ha=>by
    have:=(hmemT j hjs).off hcg
    exact this.ao a ha)
  refine hwo.mono ?_
  rintro e W' ⟨sb,sc,cur,rfl,s1,s2,s3,s4,s5⟩
  refine ⟨⟨_,rfl⟩,Cs.set j (c.withSo sb (K.length+1) sc),?_⟩
  have hbk:backL (fun i=>(judL K E j++[E[j]]).getD i pe0) j=(judL K E j).reverse:=by
   rw [backL_congr hEf]
   have:=backL_list (judL K E j) pe0
   rw [hjl] at this
   exact this
  have hEd:E.getD j pe0=E[j]:=by rw [List.getD_eq_getElem?_getD,List.getElem?_eq_getElem hjE];rfl
  have s5':EvIn W' (c.withSo sb (K.length+1) sc) (workF (judL K E j).reverse K (E.getD j pe0).bare):=by
   have:=s5
   simp only [hbk,hEj,hcd] at this
   rw [hEd]
   exact this
  have hsp2:Spare (fun b=>b=wtb\/b=g) wr W':=Spare.of_only s2 (fun x hx=>.inr hx)
  have hwW:W'.heap[wtb]? = wr.heap[wtb]?:=s2.block wtb (heap_lt hI.hw) (fun e=>hgw e.symm)
  refine ⟨hwW.trans hI.hw,?_,by rw [List.length_set,hI.len],?_,?_,?_,?_,hI.sp.trans hsp2⟩
  ·show W'.ownsRow 0 159 4 _ _ _
   rw [List.length_set,<- flatE_setAt Cs j c sb (K.length+1) sc hc]
   refine ⟨by rw [List.length_set];exact evs'.1,.inr ⟨g,cap,_,by rw [hI.len],Nat.zero_le _,s3,hcp,hcm,by simp [hcsz],?_⟩⟩
   rw [Array.toList_setIfInBounds,List.take_set,hctk]
  ·intro i d d0 h1 h2
   by_cases hij:i=j
   ·subst hij
    rw [List.getElem?_set_self hjs] at h1
    cases h1
    rw [hc0] at h2
    cases h2
    exact ⟨rfl,rfl,rfl,rfl,rfl⟩
   ·rw [List.getElem?_set_ne (fun e=>hij e.symm)] at h1
    exact hI.same i d d0 h1 h2
  ·intro i d e hi h1 h2
   by_cases hij:i=j
   ·subst hij
    rw [List.getElem?_set_self hjs] at h1
    cases h1
    rw [judL,List.getElem?_append_right (by omega),hjl] at h2
    simp at h2
    subst h2
    exact s5'
   ·rw [List.getElem?_set_ne (fun e=>hij e.symm)] at h1
    rw [judL,List.getElem?_append_left (by omega)] at h2
    exact (hI.done i d e (by omega) h1 h2).only ((hI.typed d (List.mem_of_getElem? h1)).off hcg) s2
  ·intro d hd
   rcases List.mem_or_eq_of_mem_set hd with hd | rfl
   ·have hdT:=hI.typed d hd
    have hof:=hdT.off hcg
    exact hdT.spare (Spare.of_only s2 (P:=fun b=>b=g) (fun x hx=>hx)) hof.so hof.ao
   ·have hcT:=hI.typed c (List.mem_of_getElem? hc)
    have hof:=hcT.off hcg
    refine ⟨fun a ha=>?_,fun a ha=>?_⟩
    ·have:some (⟨sb,0,none⟩:Addr)=some a:=ha
     cases this
     exact ⟨cur,(0,0),s4⟩
    ·obtain ⟨cs,m,k1⟩:=hcT.ao a ha
     exact ⟨cs,m,(s2.block _ (heap_lt k1) (hof.ao a ha)).trans k1⟩
  ·intro i hi
   rw [List.getElem?_set_ne (by omega)]
   exact hI.later i (by omega)
 have HS:Hid _:=hstep
 have HI0:Hid _:=hstart
 have Hc3:Hid (∀ j Cs wr,JInv wtb rt rm pv no ncap K g cap C E w j Cs wr->wr.cell? ⟨wtb,3,none⟩=some (.slice (some ⟨g,0,none⟩) C.length cap)):=fun j Cs wr h=>cell_at h.hw rfl
 have hci:=Hc3.out 0 C _ hstart
 clear hstep hstart hE hIn hT hN hNt hop hAh hng hg0 hlen
 generalize hJ:JInv wtb rt rm pv no ncap K g cap C E w=J at *
 clear hJ
 generalize C.length=n at *
 go_enter Tryz.func142,Tryz.ntmps142
 go_wp2_with fail
 go_loopw [14] (fun jv wr=>∃ (j:Nat) (Cs:List EvC),jv=.int .i64 j/\j<=n/\J j Cs wr) (fun jv _=>n-(intOf jv).toNat)
 case atStart=>exact ⟨0,C,rfl,Nat.zero_le _,HI0.out⟩
 case round =>
  obtain ⟨j,Cs,rfl,hjn,hI⟩:=hrel
  by_cases hj:j<n
  ·have k3:=Hc3.out j Cs wr hI
   have hcall:=HS.out j Cs wr hj hI
   go_wp2_with fail
   refine hcall.mono ?_
   rintro e w1 ⟨⟨v,rfl⟩,Cs',hI'⟩
   go_wp2_with fail
   go_roundw
   case rel=>exact ⟨j+1,Cs',by go_num,by omega,hI'⟩
   case measure=>simp only [intOf];omega
  ·obtain rfl:j=n:=by omega
   go_wp2_with fail
   exact bodyPost_end (results_none rfl _ _ _) rfl ⟨rfl,Cs,hI⟩
end Go.Proofs.YtpbbmagjhkakgaaGreatDoor.Ev
namespace Go.Proofs.YtpbbmagjhkakgaaGreatDoor.Ev
open Go.RowKit Go.Deep Go.Maps Go.Proofs.YtpbbmagjhkakgaaGreatDoor.Lf
def AddJ (wtb:Nat) (rt rm nv ev:Value) (name:ByteArray) (x:BT Pay) (J:World->Value->World->Prop) (w w':World):Prop :=
 ∃ (V:World) (nn:Value) (pb pcap stb:Nat) (sp:Option Addr) (arr:Array Value),V.heap[wtb]? = some (.cells #[rt,rm,nv,ev,.slice (some ⟨pb,0,none⟩) 1 pcap] 153 (0,0))/\1<=pcap/\w.heap.size<=pb/\V.heap[pb]? = some (.cells arr 183 (0,0))/\PolsAt arr 0 (polsN (fun _=>x) [⟨name,sp,some ⟨stb,0,none⟩,0,1,false⟩])/\
  V.ownsRow w.heap.size 226 6 nn (KAt (fun _=>x) 1).length (flatK (KAt (fun _=>x) 1))/\w.heap.size<=stb/\V.heap[stb]? = some (.cells #[.slice none 0 0] 177 (0,0))/\SentAt 143 0 V x (.pointer sp)/\Spare (fun b=>b=wtb) w V/\J V nn w'
set_option maxRecDepth 100000 in
set_option maxHeartbeats 4000000 in
theorem addE_ok (wtb:Nat) (retain:Int) (rm evv:Value) (no:Option Addr) (nl nc:Nat) (name s:ByteArray) (x:BT Pay) (w:World) (J:World->Value->World->Prop) (hw:w.heap[wtb]? = some (.cells #[.int .i64 retain,rm,.slice no nl nc,evv,.slice none 0 0] 153 (0,0))) (hN:NameOK name) (hNs:name.size<=1000) (hm:s.size<=maxLen) (hg:Glob w) (hw7:14<=w.heap.size) (hr:readF s=(some x,0)) (hR:reachT x<=retain) (hK:(KAt (fun _=>x) 1).length<=40) (hX:nodesT (coreT x)<=1000000)
  (hJ:∀ (V:World) (nn pv:Value),V.ownsRow w.heap.size 226 6 nn (KAt (fun _=>x) 1).length (flatK (KAt (fun _=>x) 1))->V.heap[wtb]? = some (.cells #[.int .i64 retain,rm,.slice no nl nc,evv,pv] 153 (0,0))->Spare (fun b=>b=wtb) w V->Calls Tryz.prog 142 #[.pointer (some ⟨wtb,0,none⟩),nn] V fun e w'=>e=.returned (.tuple #[])/\J V nn w') :
  Calls Tryz.prog 91 #[.pointer (some ⟨wtb,0,none⟩),.string name,.string s] w fun e w'=>e=.returned (.tuple #[.int .i64 0,.nilIface])/\AddJ wtb (.int .i64 retain) rm (.slice no nl nc) evv name x J w w':=by
 have hgx:Good x:=(readF_sound hr).1
 have hRd:=readPol_ok wtb retain rm (.slice no nl nc) evv (.slice none 0 0) name s x w hw hN hm hg hw7 hr hR
 have Hw:Hid (w.heap[wtb]? = some (.cells #[.int .i64 retain,rm,.slice no nl nc,evv,.slice none 0 0] 153 (0,0))):=hw
 have hwl:=heap_lt hw
 have HJ:Hid _:=hJ
 clear hw hg hm hr hR hJ
 go_enter Tryz.func91,Tryz.ntmps91
 go_wp2_with fail
 refine hRd.mono ?_
 rintro e w1 ⟨sp,rfl,hsx,hb1⟩
 clear hRd
 have hf0:=find0 wtb (.int .i64 retain) rm (.slice no nl nc) evv name w1 (hb1.heapOf Hw.out)
 go_wp2_with fail
 refine hf0.mono ?_
 rintro e w2 ⟨rfl,rfl⟩
 clear hf0
 have hw2:=hb1.heapOf Hw.out
 have c4:=cell_at (i:=4) hw2 rfl
 go_wp2_with fail
 refine (clone_any name _ (by omega)).mono ?_
 rintro e w3 ⟨rfl,hb3⟩
 have hb13:=hb1.tr hb3
 have hw3:=hb13.heapOf Hw.out
 have hsx3:SentAt 143 0 w3 x (.pointer sp):=SentAt.below hsx hb3
 clear hw2 c4 hsx
 go_wp2_with fail
 have hpv:((w3.alloc (.cells #[.slice none 0 0] 177)).alloc (.cells #[.string name,.pointer sp,.int .i64 0,.int .i64 1,.pointer (some ⟨w3.heap.size,0,none⟩)] 183)).heap[w3.heap.size+1]? = some (.cells #[.string name,.pointer sp,.int .i64 0,.int .i64 1,.pointer (some ⟨w3.heap.size,0,none⟩)] 183 (0,0)):=heap_new _ _ _ (by simp)
 have hbW:Below w.heap.size w ((w3.alloc (.cells #[.slice none 0 0] 177)).alloc (.cells #[.string name,.pointer sp,.int .i64 0,.int .i64 1,.pointer (some ⟨w3.heap.size,0,none⟩)] 183)):=(hb13.al _).al _
 have hst:((w3.alloc (.cells #[.slice none 0 0] 177)).alloc (.cells #[.string name,.pointer sp,.int .i64 0,.int .i64 1,.pointer (some ⟨w3.heap.size,0,none⟩)] 183)).heap[w3.heap.size]? = some (.cells #[.slice none 0 0] 177 (0,0)):=(Below.heap_alloc _ _ _ (by simp)).trans (heap_new _ _ _ rfl)
 have hsW:SentAt 143 0 ((w3.alloc (.cells #[.slice none 0 0] 177)).alloc (.cells #[.string name,.pointer sp,.int .i64 0,.int .i64 1,.pointer (some ⟨w3.heap.size,0,none⟩)] 183)) x (.pointer sp):=SentAt.below hsx3 (((Below.refl _ w3).al _).al _)
 have hwW:=hbW.heapOf Hw.out
 have hs3:=hb13.size
 clear hw3 hsx3
 generalize ((w3.alloc (.cells #[.slice none 0 0] 177)).alloc (.cells #[.string name,.pointer sp,.int .i64 0,.int .i64 1,.pointer (some ⟨w3.heap.size,0,none⟩)] 183))=W at *
 generalize hpb:w3.heap.size+1=pvb at *
 have Hpb:Hid (w3.heap.size+1=pvb):=hpb
 clear hpb
 generalize w3.heap.size=stb at *
 have hbV:Below W.heap.size W (W.drew.alloc (.cells #[.string name,.pointer sp,.int .i64 0,.int .i64 1,.pointer (some ⟨stb,0,none⟩)] 183)):=(Below.refl _ W).drew.al _
 have Hst:Hid (∀ w',Below W.heap.size W w'->(fun w'=>w'.cell? ⟨wtb,4,none⟩=some (.slice none 0 0)/\w'.cell? ⟨pvb,0,none⟩=some (.string name)/\w'.cell? ⟨pvb,1,none⟩=some (.pointer sp)/\w'.cell? ⟨pvb,2,none⟩=some (.int .i64 0)/\w'.cell? ⟨pvb,3,none⟩=some (.int .i64 1)/\w'.cell? ⟨pvb,4,none⟩=some (.pointer (some ⟨stb,0,none⟩))) w'):=fun w' hb=>⟨cell_at (hb.heapOf hwW) rfl,cell_at (hb.heapOf hpv) rfl,cell_at (hb.heapOf hpv) rfl,cell_at (hb.heapOf hpv) rfl,cell_at (hb.heapOf hpv) rfl,cell_at (hb.heapOf hpv) rfl⟩
 have hS0:(fun w'=>w'.cell? ⟨wtb,4,none⟩=some (.slice none 0 0)/\w'.cell? ⟨pvb,0,none⟩=some (.string name)/\w'.cell? ⟨pvb,1,none⟩=some (.pointer sp)/\w'.cell? ⟨pvb,2,none⟩=some (.int .i64 0)/\w'.cell? ⟨pvb,3,none⟩=some (.int .i64 1)/\w'.cell? ⟨pvb,4,none⟩=some (.pointer (some ⟨stb,0,none⟩))) W.drew:=Hst.out _ (Below.refl _ W).drew
 have sp2:∀ (V1 V2:World) (g:Nat),Below W.heap.size W V1->W.heap.size<=g->Spare (fun b=>b=wtb\/b=g) V1 V2->Spare (fun b=>b=wtb) w V2:=by
  intro V1 V2 g hb hg hsp3
  have hbs:=hbW.size
  have hbs1:=hb.size
  refine ⟨?_,?_,?_,?_,?_⟩
  ·exact (hsp3.os.trans hb.os).trans hbW.os
  ·exact (hsp3.tape.trans hb.tape).trans hbW.tape
  ·exact (hsp3.output.trans hb.output).trans hbW.output
  ·exact Nat.le_trans hbW.size (Nat.le_trans hb.size hsp3.size)
  ·intro b hb0 hne
   rw [hsp3.block b (by omega) (by rintro (e | e);exact hne e;omega),hb.block b (by omega),hbW.block b hb0]
 have fin:∀ (V1 V2 V3:World) (nn:Value) (g gc:Nat) (arr' cur:Array Value),Below W.heap.size W V1->V1.heap[g]? = some (.cells cur 183 (0,0))->W.heap.size<=g->1<=gc->V2.ownsRow V1.heap.size 226 6 nn (KAt (fun _=>x) 1).length (flatK (KAt (fun _=>x) 1))->V2.heap[g]? = some (.cells arr' 183 (0,0))->PolsAt arr' 0 (polsN (fun _=>x) [⟨name,sp,some ⟨stb,0,none⟩,0,1,false⟩])->Spare (fun b=>b=wtb\/b=g) V1 V2->V2.heap[wtb]? = some (.cells #[.int .i64 retain,rm,.slice no nl nc,evv,.slice (some ⟨g,0,none⟩) 1 gc] 153 (0,0))->J V2 nn V3->AddJ wtb (.int .i64 retain) rm (.slice no nl nc) evv name x J w V3:=by
  intro V1 V2 V3 nn g gc arr' cur hb hg1 hg hgc hrow hh hpa hsp hwt hJ
  have hbs:=hbW.size
  have hbs1:=hb.size
  have hsl:=heap_lt hst
  refine ⟨V2,nn,g,gc,stb,sp,arr',hwt,hgc,by omega,hh,hpa,row_mono hrow (by omega),by omega,?_,?_,sp2 V1 V2 g hb hg hsp,hJ⟩
  ·rw [hsp.block stb (by omega) (by rintro (e | e)<;>omega)];exact hb.heapOf hst
  ·refine sent_tagged (fun k cs hk=>?_) (SentAt.below hsW hb)
   rw [hsp.block k (heap_lt hk) ?_]
   ·exact hk
   ·rintro (e | e)
    ·subst e;rw [hb.heapOf hwW] at hk;cases hk
    ·subst e
     rw [hg1] at hk;cases hk
 refine AnyG.begin (S:=fun _=>True) (fin:=99) (by kernel_rfl) ?_
 simp only [List.size_toArray,List.length_cons,List.length_nil,Nat.reduceAdd,Nat.zero_add]
 refine AnyG.take 0 (v:=?vq0) rfl (by decide +kernel) (by decide +kernel) (by decide +kernel) (by decide +kernel) (fun c a w h=>h) (by rfl) (fun w' hS=>Go.Conc.run_eq_of ?rq0) trivial ?_
 case rq0 =>
  intro K' hK'
  clear hS
  go_simp
  exact hK'
 try walk_nrm
 refine AnyG.weaken (S:=(fun w'=>w'.cell? ⟨wtb,4,none⟩=some (.slice none 0 0)/\w'.cell? ⟨pvb,0,none⟩=some (.string name)/\w'.cell? ⟨pvb,1,none⟩=some (.pointer sp)/\w'.cell? ⟨pvb,2,none⟩=some (.int .i64 0)/\w'.cell? ⟨pvb,3,none⟩=some (.int .i64 1)/\w'.cell? ⟨pvb,4,none⟩=some (.pointer (some ⟨stb,0,none⟩)))) (fin:=11) _ _ _ _ ?_
 refine AnyG.take 1 (v:=?vq1) rfl (by decide +kernel) (by decide +kernel) (by decide +kernel) (by decide +kernel) (fun c a w h=>h) (by rfl) (fun w' hS=>Go.Conc.run_eq_of ?rq1) hS0 ?_
 case rq1 =>
  intro K' hK'
  clear hS
  go_simp
  exact hK'
 try walk_nrm
 refine AnyG.take 2 (v:=?vq2) rfl (by decide +kernel) (by decide +kernel) (by decide +kernel) (by decide +kernel) (fun c a w h=>h) (by rfl) (fun w' hS=>Go.Conc.run_eq_of ?rq2) hS0 ?_
 case rq2 =>
  intro K' hK'
  clear hS
  go_simp
  exact hK'
 try walk_nrm
 refine AnyG.take 3 (v:=?vq3) rfl (by decide +kernel) (by decide +kernel) (by decide +kernel) (by decide +kernel) (fun c a w h=>h) (by rfl) (fun w' hS=>Go.Conc.run_eq_of ?rq3) hS0 ?_
 case rq3 =>
  intro K' hK'
  clear hS
  go_simp
  exact hK'
 try walk_nrm
 refine AnyG.take 4 (v:=?vq4) rfl (by decide +kernel) (by decide +kernel) (by decide +kernel) (by decide +kernel) (fun c a w h=>h) (by rfl) (fun w' hS=>Go.Conc.run_eq_of ?rq4) hS0 ?_
 case rq4 =>
  intro K' hK'
  clear hS
  go_simp
  exact hK'
 try walk_nrm
 refine AnyG.take 5 (v:=?vq5) rfl (by decide +kernel) (by decide +kernel) (by decide +kernel) (by decide +kernel) (fun c a w h=>h) (by rfl) (fun w' hS=>Go.Conc.run_eq_of ?rq5) hS0 ?_
 case rq5 =>
  intro K' hK'
  obtain ⟨y1,y2,y3,y4,y5,y6⟩:=hS
  go_simp
  exact hK'
 try walk_nrm
 refine AnyG.take 7 (v:=?vq7) rfl (by decide +kernel) (by decide +kernel) (by decide +kernel) (by decide +kernel) (fun c a w h=>h) (by rfl) (fun w' hS=>Go.Conc.run_eq_of ?rq7) hS0 ?_
 case rq7 =>
  intro K' hK'
  clear hS
  go_simp
  exact hK'
 try walk_nrm
 refine AnyG.take 8 (v:=?vq8) rfl (by decide +kernel) (by decide +kernel) (by decide +kernel) (by decide +kernel) (fun c a w h=>h) (by rfl) (fun w' hS=>Go.Conc.run_eq_of ?rq8) hS0 ?_
 case rq8 =>
  intro K' hK'
  obtain ⟨y1,y2,y3,y4,y5,y6⟩:=hS
  go_simp
  exact hK'
 try walk_nrm
 refine AnyG.two (i:=6) (j:=9) (by decide +kernel) rfl (by rfl) rfl (by rfl) (fun K' hK'=>?_) (fun K' hK'=>?_)
 ·unfold Oper.wp
  rw [Go.Conc.run_call_body (f:=100) (args:=#[.tmp 49]) (ats:=#[151]) rfl Tryz.func100 (by decide) rfl]
  simp only [Oper.upon,List.map_toArray,List.map_cons,List.map_nil]
  change Calls Tryz.prog 100 #[.slice none 0 0] W.drew _
  refine (clonePol_nil 0 0 W.drew).mono ?_
  rintro e wd ⟨rfl,hwd⟩
  have hwd:=hwd.symm
  subst hwd
  refine hK' _ _ ⟨fun _=>Hst.out _ (Below.refl _ W).drew,?_⟩
  clear hK' K'
  try walk_nrm
  refine AnyG.op (i:=9) (by decide +kernel) rfl (by rfl) (fun K' hK'=>?_)
  unfold Oper.wp
  go_simp
  refine hK' _ _ ⟨fun _=>Hst.out _ hbV,?_⟩
  clear hK' K'
  try walk_nrm
  refine AnyG.one (i:=10) (by decide +kernel) rfl (by rfl) ?_
  unfold Oper.wp
  rw [Go.Conc.run_call_body (f:=137) (args:=#[.tmp 50,.tmp 51,.tmp 53]) (ats:=#[151,3,151]) rfl Tryz.func137 (by decide) rfl]
  simp only [Oper.upon,List.map_toArray,List.map_cons,List.map_nil]
  change Calls Tryz.prog 137 #[.slice none 0 0,.int .i64 0,.slice (some ⟨W.heap.size,0,none⟩) 1 1] (W.drew.alloc (.cells #[.string name,.pointer sp,.int .i64 0,.int .i64 1,.pointer (some ⟨stb,0,none⟩)] 183)) _
  refine (insert0 W.heap.size (polCells ⟨name,sp,some ⟨stb,0,none⟩,0,1,false⟩) _ rfl (cells_five_new W.drew ⟨name,sp,some ⟨stb,0,none⟩,0,1,false⟩ 183) (polOne _)).mono ?_
  rintro e V1 ⟨v',rfl,hrow,hbI⟩
  obtain ⟨g,gc,cur,rfl,hgl,hgh,hgc,hcur⟩:=row_one hrow
  have hbV1:Below W.heap.size W V1:=hbV.trans (hbI.mono hbV.size)
  refine ⟨fun _=>Hst.out _ hbV1,?_⟩
  try walk_nrm
  have hwV1:=hbV1.heapOf hwW
  refine AnyG.one (i:=11) (by decide +kernel) rfl (by rfl) ?_
  unfold Oper.wp
  rw [Go.Conc.run_call_body (f:=98) (args:=#[.tmp 45,.tmp 54]) (ats:=#[100,151]) rfl Tryz.func98 (by decide) rfl]
  simp only [Oper.upon,List.map_toArray,List.map_cons,List.map_nil]
  change Calls Tryz.prog 98 #[.pointer (some ⟨wtb,0,none⟩),.slice (some ⟨g,0,none⟩) 1 gc] V1 _
  refine (settle_ok wtb g gc (.int .i64 retain) rm (.slice no nl nc) evv none 0 0 cur [⟨name,sp,some ⟨stb,0,none⟩,0,1,false⟩] (fun _=>x) V1 J hwV1 hgh hcur (by simp) hgc ?hS hK ?hJ).mono ?_
  case hS =>
   intro j p hj
   rcases j with _ | j
   ·cases hj;exact ⟨SentAt.below hsW hbV1,hgx,hX⟩
   ·simp at hj
  case hJ =>
   intro V nn arr' j1 j2 j3 j4 j5
   exact HJ.out V nn _ (row_mono j1 (Nat.le_trans hbW.size hbV1.size)) j2 (sp2 V1 V g hbV1 (Nat.le_trans hbV.size hgl) j5)
  rintro e V3 ⟨rfl,V2,nn,arr',j1,j2,j3,j4,j5,j6⟩
  refine ⟨fun h=>absurd h (by decide),?_⟩
  try walk_nrm
  refine AnyG.op (i:=12) (by decide +kernel) rfl (by rfl) (fun K' hK'=>?_)
  unfold Oper.wp
  go_simp
  refine hK' _ _ ⟨fun h=>absurd h (by decide),?_⟩
  clear hK' K'
  try walk_nrm
  refine AnyG.op (i:=13) (by decide +kernel) rfl (by rfl) (fun K' hK'=>?_)
  unfold Oper.wp
  go_simp
  refine hK' _ _ ⟨fun h=>absurd h (by decide),?_⟩
  clear hK' K'
  refine AnyG.done (by decide +kernel) ?_ _
  try walk_nrm
  go_wp2_with fail
  go_ret2
  exact ⟨rfl,fin V1 V2 V3 nn g gc arr' cur hbV1 hgh (Nat.le_trans hbV.size hgl) hgc j1 j3 j4 j5 j2 j6⟩
 ·unfold Oper.wp
  go_simp
  refine hK' _ _ ⟨fun _=>Hst.out _ hbV,?_⟩
  clear hK' K'
  try walk_nrm
  refine AnyG.op (i:=6) (by decide +kernel) rfl (by rfl) (fun K' hK'=>?_)
  unfold Oper.wp
  rw [Go.Conc.run_call_body (f:=100) (args:=#[.tmp 49]) (ats:=#[151]) rfl Tryz.func100 (by decide) rfl]
  simp only [Oper.upon,List.map_toArray,List.map_cons,List.map_nil]
  change Calls Tryz.prog 100 #[.slice none 0 0] (W.drew.alloc (.cells #[.string name,.pointer sp,.int .i64 0,.int .i64 1,.pointer (some ⟨stb,0,none⟩)] 183)) _
  refine (clonePol_nil 0 0 (W.drew.alloc (.cells #[.string name,.pointer sp,.int .i64 0,.int .i64 1,.pointer (some ⟨stb,0,none⟩)] 183))).mono ?_
  rintro e wd ⟨rfl,hwd⟩
  have hwd:=hwd.symm
  subst hwd
  refine hK' _ _ ⟨fun _=>Hst.out _ hbV,?_⟩
  clear hK' K'
  try walk_nrm
  refine AnyG.one (i:=10) (by decide +kernel) rfl (by rfl) ?_
  unfold Oper.wp
  rw [Go.Conc.run_call_body (f:=137) (args:=#[.tmp 50,.tmp 51,.tmp 53]) (ats:=#[151,3,151]) rfl Tryz.func137 (by decide) rfl]
  simp only [Oper.upon,List.map_toArray,List.map_cons,List.map_nil]
  change Calls Tryz.prog 137 #[.slice none 0 0,.int .i64 0,.slice (some ⟨W.heap.size,0,none⟩) 1 1] (W.drew.alloc (.cells #[.string name,.pointer sp,.int .i64 0,.int .i64 1,.pointer (some ⟨stb,0,none⟩)] 183)) _
  refine (insert0 W.heap.size (polCells ⟨name,sp,some ⟨stb,0,none⟩,0,1,false⟩) _ rfl (cells_five_new W.drew ⟨name,sp,some ⟨stb,0,none⟩,0,1,false⟩ 183) (polOne _)).mono ?_
  rintro e V1 ⟨v',rfl,hrow,hbI⟩
  obtain ⟨g,gc,cur,rfl,hgl,hgh,hgc,hcur⟩:=row_one hrow
  have hbV1:Below W.heap.size W V1:=hbV.trans (hbI.mono hbV.size)
  refine ⟨fun _=>Hst.out _ hbV1,?_⟩
  try walk_nrm
  have hwV1:=hbV1.heapOf hwW
  refine AnyG.one (i:=11) (by decide +kernel) rfl (by rfl) ?_
  unfold Oper.wp
  rw [Go.Conc.run_call_body (f:=98) (args:=#[.tmp 45,.tmp 54]) (ats:=#[100,151]) rfl Tryz.func98 (by decide) rfl]
  simp only [Oper.upon,List.map_toArray,List.map_cons,List.map_nil]
  change Calls Tryz.prog 98 #[.pointer (some ⟨wtb,0,none⟩),.slice (some ⟨g,0,none⟩) 1 gc] V1 _
  refine (settle_ok wtb g gc (.int .i64 retain) rm (.slice no nl nc) evv none 0 0 cur [⟨name,sp,some ⟨stb,0,none⟩,0,1,false⟩] (fun _=>x) V1 J hwV1 hgh hcur (by simp) hgc ?hS hK ?hJ).mono ?_
  case hS =>
   intro j p hj
   rcases j with _ | j
   ·cases hj;exact ⟨SentAt.below hsW hbV1,hgx,hX⟩
   ·simp at hj
  case hJ =>
   intro V nn arr' j1 j2 j3 j4 j5
   exact HJ.out V nn _ (row_mono j1 (Nat.le_trans hbW.size hbV1.size)) j2 (sp2 V1 V g hbV1 (Nat.le_trans hbV.size hgl) j5)
  rintro e V3 ⟨rfl,V2,nn,arr',j1,j2,j3,j4,j5,j6⟩
  refine ⟨fun h=>absurd h (by decide),?_⟩
  try walk_nrm
  refine AnyG.op (i:=12) (by decide +kernel) rfl (by rfl) (fun K' hK'=>?_)
  unfold Oper.wp
  go_simp
  refine hK' _ _ ⟨fun h=>absurd h (by decide),?_⟩
  clear hK' K'
  try walk_nrm
  refine AnyG.op (i:=13) (by decide +kernel) rfl (by rfl) (fun K' hK'=>?_)
  unfold Oper.wp
  go_simp
  refine hK' _ _ ⟨fun h=>absurd h (by decide),?_⟩
  clear hK' K'
  refine AnyG.done (by decide +kernel) ?_ _
  try walk_nrm
  go_wp2_with fail
  go_ret2
  exact ⟨rfl,fin V1 V2 V3 nn g gc arr' cur hbV1 hgh (Nat.le_trans hbV.size hgl) hgc j1 j3 j4 j5 j2 j6⟩
end Go.Proofs.YtpbbmagjhkakgaaGreatDoor.Ev
