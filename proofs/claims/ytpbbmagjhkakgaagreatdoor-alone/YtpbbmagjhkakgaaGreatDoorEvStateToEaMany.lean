import Derived.Test.YtpbbmagjhkakgaaGreatDoorEvWorkToEvTake3
import Derived.Test.YtpbbmagjhkakgaaGreatDoorLfSendsToPureLoose
import Derived.Test.YtpbbmagjhkakgaaGreatDoorPureEndsToFace2
import Derived.Test.YtpbbmagjhkakgaaGreatDoorPureToLfTape
import Derived.Laws.CopyRow
import Derived.Deep.RegionLaw
namespace Go.Proofs.YtpbbmagjhkakgaaGreatDoor
namespace Ev
open Go.RowKit Go.Deep Lf
structure au (P:Nat->Prop) (w w':World):Prop where
 os:w'.os=w.os
 output:w'.output=w.output
 size:w.heap.size<=w'.heap.size
 block:∀ b,b<w.heap.size->¬ P b->w'.heap[b]? = w.heap[b]?
theorem au.refl (P:Nat->Prop) (w:World):au P w w:=⟨rfl,rfl,Nat.le_refl _,fun _ _ _=>rfl⟩
theorem au.trans {P:Nat->Prop} {a b c:World} (h:au P a b) (k:au P b c):au P a c:=⟨k.os.trans h.os,k.output.trans h.output,Nat.le_trans h.size k.size,fun x hx hp=>(k.block x (Nat.lt_of_lt_of_le hx h.size) hp).trans (h.block x hx hp)⟩
theorem au.aL {P:Nat->Prop} {a b:World} (h:Below a.heap.size a b):au P a b:=⟨h.os,h.output,h.size,fun x hx _=>h.block x hx⟩
theorem au.rL {P:Nat->Prop} {a b:World} (h:aY P a b):au P a b:=⟨h.os,h.output,h.size,h.block⟩
theorem au.mono {P Q:Nat->Prop} {a b:World} (h:au P a b) (hP:∀ x,x<a.heap.size->P x->Q x):au Q a b:=⟨h.os,h.output,h.size,fun x hx hq=>h.block x hx fun e=>hq (hP x hx e)⟩
theorem au.aU {P:Nat->Prop} {a b:World} (h:au P a b) (τ:Tape) (d:Nat):au P a (re b τ d):=⟨h.os,h.output,h.size,h.block⟩
theorem au.tape0 {P:Nat->Prop} {a b:World} {τ:Tape} {d:Nat} (h:au P (re a τ d) b):au P a b:=⟨h.os,h.output,h.size,h.block⟩
structure bj (w:World) (aj:Nat) (ai room:Int) (no:Option Addr) (aI:Nat) (K:List Key) (ea:Option Addr) (az:Nat) (C:List bx) (E:List Pe) (pa:Option Addr) (aM:Nat) (ps:List bC) (ss:List bt):Prop where
 cell:w.heap[aj]? = some (.cells #[.int .i64 ai,.int .i64 room,.slice no K.length aI,.slice ea C.length az,.slice pa ps.length aM] 153 (0,0))
 uC:bY w (.slice ea C.length az) C
 len:C.length=E.length
 ins:∀ (i:Nat) c e,C[i]? = some c->E[i]? = some e->cZ w c e
 typed:∀ c∈C,EvT w c
 few:C.length<=1000
 ret:0<=ai/\ai<=1000000000
 nums:∀ c,C.getLast? = some c->0<=c.number/\c.number<=1000000000
 nfew:K.length<=1000
 ncp:K.length<=aI
 nodes:eB w no K
 oc:∀ a,no=some a->∃ cs m,w.heap[a.block]? = some (.cells cs 226 m)
 core:∀ k∈K,ib k.op
 ahead:qg K
 rows:∀ e∈E,e.so.length=K.length+1
 oX:fg w pa aM ps
 tW:ps.length<=1000
 pcp:ps.length<=aM
 vz:ss.length=ps.length
 pstr:∀ (i:Nat) (s:bt) (p:bC),ss[i]? = some s->ps[i]? = some p->p.cG=some ⟨s.cj,0,none⟩
 sok:∀ s∈ss,eG w s
 apart:Apart ss
 pnode:∀ p∈ps,p.node<=K.length
theorem cZ.aU {w:World} {c:bx} {e:Pe} (h:cZ w c e) (τ:Tape) (d:Nat):cZ (re w τ d) c e :=
 ⟨h.number,h.time,h.low,h.sl,h.slen,h.so,h.al,h.alen,h.atoms⟩
theorem bj.aU {w:World} {aj:Nat} {ai room:Int} {no:Option Addr} {aI:Nat} {K:List Key} {ea:Option Addr} {az:Nat} {C:List bx} {E:List Pe} {pa:Option Addr} {aM:Nat} {ps:List bC} {ss:List bt} (h:bj w aj ai room no aI K ea az C E pa aM ps ss) (τ:Tape) (d:Nat):bj (re w τ d) aj ai room no aI K ea az C E pa aM ps ss :=
 ⟨h.cell,h.uC,h.len,fun i c e h1 h2=>(h.ins i c e h1 h2).aU τ d,fun c hc=>⟨(h.typed c hc).so,(h.typed c hc).ao⟩,h.few,h.ret,h.nums,h.nfew,h.ncp,h.nodes,h.oc,h.core,h.ahead,h.rows,h.oX,h.tW,h.pcp,h.vz,h.pstr,h.sok,h.apart,h.pnode⟩
def Own46 (aj:Nat) (ea:Option Addr) (ss:List bt) (b:Nat):Prop:=b=aj\/(∃ a,ea=some a/\a.block=b)\/Ms ss b
end Ev
namespace Ev
open Go.RowKit Go.Deep Lf Go.Conc
def dn (w:World) (P:Nat->Prop) (ts:List TypeId):Prop:=∀ b cs t m,w.heap[b]? = some (.cells cs t m)->t∈ts->¬ P b
theorem dn.none (w:World) (ts:List TypeId):dn w (fun _=>False) ts:=fun _ _ _ _ _ _ h=>h
theorem dn.less {w:World} {P:Nat->Prop} {ts ts':List TypeId} (h:dn w P ts) (hs:∀ t∈ts',t∈ts):dn w P ts':=fun b cs t m h1 h2=>h b cs t m h1 (hs t h2)
section
variable {w w' : World} {P : Nat → Prop}
theorem au.spare (h:au P w w'):aY P w (re w' w.tape w'.drawn):=⟨h.os,rfl,h.output,h.size,h.block⟩
theorem cZ.move {c:bx} {e:Pe} (h:cZ w c e) (ht:EvT w c) (hs:au P w w') (hk:dn w P [4,9]):cZ w' c e:=by
 have:=h.spare hs.spare (fun a ha=>by obtain ⟨cs,m,k⟩:=ht.so a ha;exact hk _ _ _ _ k (by simp)) (fun a ha=>by obtain ⟨cs,m,k⟩:=ht.ao a ha;exact hk _ _ _ _ k (by simp))
 exact ⟨this.number,this.time,this.low,this.sl,this.slen,this.so,this.al,this.alen,this.atoms⟩
theorem EvT.move {c:bx} (ht:EvT w c) (hs:au P w w') (hk:dn w P [4,9]):EvT w' c:=by
 have:=ht.spare hs.spare (fun a ha=>by obtain ⟨cs,m,k⟩:=ht.so a ha;exact hk _ _ _ _ k (by simp)) (fun a ha=>by obtain ⟨cs,m,k⟩:=ht.ao a ha;exact hk _ _ _ _ k (by simp))
 exact ⟨this.so,this.ao⟩
theorem au.get (hs:au P w w') {b:Nat} {o:Obj} (h:w.heap[b]? = some o) (hp:¬ P b):w'.heap[b]? = some o:=(hs.block b (aw h) hp).trans h
theorem eB.move {no:Option Addr} {K:List Key} (h:eB w no K) (ht:∀ a,no=some a->∃ cs m,w.heap[a.block]? = some (.cells cs 226 m)) (hs:au P w w') (hk:dn w P [226]):eB w' no K:=by
 have:=h.spare hs.spare (fun a ha=>by obtain ⟨cs,m,k⟩:=ht a ha;exact hk _ _ _ _ k (by simp))
 exact this
theorem typed.move {no:Option Addr} {t:TypeId} (ht:∀ a,no=some a->∃ cs m,w.heap[a.block]? = some (.cells cs t m)) (hs:au P w w') (hk:dn w P [t]):∀ a,no=some a->∃ cs m,w'.heap[a.block]? = some (.cells cs t m):=fun a ha=>by
 obtain ⟨cs,m,k⟩:=ht a ha
 exact ⟨cs,m,hs.get k (hk _ _ _ _ k (by simp))⟩
theorem fg.move {pa:Option Addr} {aM:Nat} {ps:List bC} (h:fg w pa aM ps) (hs:au P w w') (hk:dn w P [183]):fg w' pa aM ps:=by
 rcases h with h | ⟨pb,po,fA,mp,h1,h2,h3⟩
 ·exact .inl h
 ·exact .inr ⟨pb,po,fA,mp,h1,hs.get h2 (hk _ _ _ _ h2 (by simp)),h3⟩
theorem eG.move {s:bt} (h:eG w s) (hs:au P w w') (hk:dn w P [177,59]):eG w' s:=by
 refine h.heap fun b hb hm=>hs.block b hb ?_
 rcases hm with rfl | hm
 ·exact hk _ _ _ _ h.1 (by simp)
 ·obtain ⟨_,⟨h2,_⟩ | ⟨g,cp,cur,e1,_,e2,_⟩⟩:=h.2
  ·rw [h2] at hm;cases hm
  ·rw [e1] at hm;cases hm;exact hk _ _ _ _ e2 (by simp)
theorem bY.move {ev:Value} {C:List bx} (h:bY w ev C) (hs:au P w w') (hk:dn w P [159]):bY w' ev C :=
 dw h fun b hb=>hs.block b (h.lt b hb).2 (by obtain ⟨cur,hc⟩:=dG h hb;exact hk _ _ _ _ hc (by simp))
theorem eI.move {ao:Option Addr} {A:List ByteArray} (h:eI w ao A) (hs:au (fun _=>False) w w'):eI w' ao A:=fun hne=>by
 obtain ⟨b,off,h1,h2,h3⟩:=h hne
 exact ⟨b,off,h1,Nat.lt_of_lt_of_le h2 hs.size,fun j hj=>by rw [World.cell?_of_block (hs.block b h2 (fun x=>x))];exact h3 j hj⟩
theorem bj.move {aj:Nat} {ai room:Int} {no:Option Addr} {aI:Nat} {K:List Key} {ea:Option Addr} {az:Nat} {C:List bx} {E:List Pe} {pa:Option Addr} {aM:Nat} {ps:List bC} {ss:List bt} (h:bj w aj ai room no aI K ea az C E pa aM ps ss) (hs:au P w w') (hk:dn w P [4,9,226,183,177,59,159,153]):bj w' aj ai room no aI K ea az C E pa aM ps ss :=
 { h with
  cell:=hs.get h.cell (hk _ _ _ _ h.cell (by simp))
  uC:=h.uC.move hs (hk.less (by simp))
  ins:=fun i c e h1 h2=>(h.ins i c e h1 h2).move (h.typed c (List.mem_of_getElem? h1)) hs (hk.less (by simp))
  typed:=fun c hc=>(h.typed c hc).move hs (hk.less (by simp))
  nodes:=h.nodes.move h.oc hs (hk.less (by simp))
  oc:=typed.move h.oc hs (hk.less (by simp))
  oX:=fg.move h.oX hs (hk.less (by simp))
  sok:=fun s qp=>eG.move (h.sok s qp) hs (hk.less (by simp)) }
end
theorem polsAt_says {fA:Array Value} {po:Nat} {ps:List bC} (f:bC->Bool) (h:b5 fA po ps):b5 fA po (ps.map fun p=>{ p with v:=f p }):=fun j p hp=>by
 simp at hp
 obtain ⟨q,hq,rfl⟩:=hp
 exact h j q hq
theorem polsIn_says {w:World} {pa:Option Addr} {aM:Nat} {ps:List bC} (f:bC->Bool) (h:fg w pa aM ps):fg w pa aM (ps.map fun p=>{ p with v:=f p }):=by
 rcases h with ⟨h1,h2,h3⟩ | ⟨pb,po,fA,mp,h1,h2,h3⟩
 ·exact .inl ⟨h1,by rw [h2];rfl,h3⟩
 ·exact .inr ⟨pb,po,fA,mp,h1,h2,polsAt_says f h3⟩
end Ev
namespace Ev
open Go.RowKit Go.Deep Lf Go.Conc
theorem sV (s:ByteArray) (v lo hi:Int) (w:World) (h:lo<=v/\v<=hi):Calls Tryz.prog 124 #[.string s,.int .i64 v,.int .i64 lo,.int .i64 hi] w fun e w'=>e=.returned .nilIface/\w'=w:=by
 go_enter Tryz.func124,Tryz.ntmps124
 go_wp2_with fail
 go_ret
 exact ⟨rfl,rfl⟩
set_option maxHeartbeats 1000000 in
theorem pastNew_ok (ai room:Int) (w:World) (h1:0<=ai/\ai<=100000) (h2:1<=room/\room<=60):Calls Tryz.prog 85 #[.int .i64 ai,.int .i64 room] w fun e w'=>e=.returned (.tuple #[.agg #[.int .i64 ai,.int .i64 room,.slice none 0 0,.slice none 0 0],.nilIface])/\Below w.heap.size w w':=by
 have kJ:=sV ⟨#[114,101,116,97,105,110]⟩ ai 0 100000 (w.alloc (.cells #[.int .i64 0,.int .i64 0,.slice none 0 0,.slice none 0 0] 148)) h1
 have hc2:=sV ⟨#[114,111,111,109]⟩ room 1 60 (w.alloc (.cells #[.int .i64 0,.int .i64 0,.slice none 0 0,.slice none 0 0] 148)) h2
 go_enter Tryz.func85,Tryz.ntmps85
 go_wp2_with fail
 refine kJ.mono ?_
 rintro e w1 ⟨rfl,rfl⟩
 go_wp2_with fail
 refine hc2.mono ?_
 rintro e w1 ⟨rfl,rfl⟩
 go_wp2_with fail
 have hR:(w.alloc (.cells #[.int .i64 ai,.int .i64 room,.slice none 0 0,.slice none 0 0] 148)).heap[w.heap.size]? = some (.cells #[.int .i64 ai,.int .i64 room,.slice none 0 0,.slice none 0 0] 148 (0,0)):=aB _ _ _ rfl
 have q0:=ae (i:=0) hR rfl
 have q1:=ae (i:=1) hR rfl
 have q2:=ae (i:=2) hR rfl
 have q3:=ae (i:=3) hR rfl
 refine ⟨rfl,_,?_,rfl,(Below.refl _ _).al _⟩
 simp [results,Tryz.f85,go_sem,loadVar,q0,q1,q2,q3]
set_option maxHeartbeats 1000000 in
theorem watchNew_ok (ai room:Int) (w:World) (h1:0<=ai/\ai<=100000) (h2:1<=room/\room<=60):Calls Tryz.prog 45 #[.int .i64 ai,.int .i64 room] w fun e w'=>∃ aj,e=.returned (.tuple #[.pointer (some ⟨aj,0,none⟩),.nilIface])/\w.heap.size<=aj/\w'.heap[aj]? = some (.cells #[.int .i64 ai,.int .i64 room,.slice none 0 0,.slice none 0 0,.slice none 0 0] 153 (0,0))/\Below w.heap.size w w':=by
 have hp:=pastNew_ok ai room w h1 h2
 go_enter Tryz.func45,Tryz.ntmps45
 go_wp2_with fail
 refine hp.mono ?_
 rintro e w1 ⟨rfl,a_⟩
 have hs:=a_.size
 go_wp2_with fail
 go_ret2
 exact ⟨_,rfl,by first | omega | (simp;omega),by first | exact aB _ _ _ rfl | exact aB _ _ _ (by simp),by first | exact (a_.al _).al _ | exact a_.al _⟩
theorem new_ok (ai room:Int) (w:World) (h1:0<=ai/\ai<=100000) (h2:1<=room/\room<=60):Calls Tryz.prog 23 #[.int .i64 ai,.int .i64 room] w fun e w'=>∃ mb aj,e=.returned (.tuple #[.pointer (some ⟨mb,0,none⟩),.int .i64 0])/\w.heap.size<=mb/\w.heap.size<=aj/\w'.heap[mb]? = some (.cells #[.pointer (some ⟨aj,0,none⟩)] 104 (0,0))/\w'.heap[aj]? = some (.cells #[.int .i64 ai,.int .i64 room,.slice none 0 0,.slice none 0 0,.slice none 0 0] 153 (0,0))/\Below w.heap.size w w':=by
 have hp:=watchNew_ok ai room w h1 h2
 go_enter Tryz.func23,Tryz.ntmps23
 go_wp2_with fail
 refine hp.mono ?_
 rintro e w1 ⟨aj,rfl,hw,hh,a_⟩
 have hs:=a_.size
 go_wp2_with fail
 go_ret2
 exact ⟨_,aj,rfl,hs,hw,aB _ _ _ rfl,(Below.heap_alloc _ _ _ (aw hh)).trans hh,a_.al _⟩
theorem ow (w:World):Calls Tryz.prog 40 #[.nilIface] w fun e w'=>e=.returned (.int .i64 0)/\w'=w:=by
 go_enter Tryz.func40,Tryz.ntmps40
 go_wp2_with fail
 go_ret
 exact ⟨rfl,rfl⟩
theorem errno_nilH (w:World):bZ Tryz.prog 40 #[.nilIface] w fun e w'=>e=.returned (.int .i64 0)/\∃ τ d,w'=re w τ d :=
 bZ.of_calls bk (fun e w τ d x=>⟨x.1,by obtain ⟨_,vX,d',rfl⟩:=x;exact ⟨τ,d,rfl⟩⟩) (fun w x=>by cases x.1) (fun τ d=>(ow (re w τ d)).mono fun e w' ⟨h1,h2⟩=>⟨h1,τ,d,h2⟩)
set_option maxRecDepth 100000 in
set_option maxHeartbeats 1000000 in
theorem monEvent {w:World} {mb aj:Nat} {time:Int} {ao:Option Addr} {n cap:Nat} {D:World->Prop} (hm:w.heap[mb]? = some (.cells #[.pointer (some ⟨aj,0,none⟩)] 104 (0,0))) (hD:∀ w τ d,D w->D (re w τ d))
  (h:bZ Tryz.prog 46 #[.pointer (some ⟨aj,0,none⟩),.int .i64 time,.slice ao n cap] w fun e W'=>e=.returned .nilIface/\D W'):bZ Tryz.prog 24 #[.pointer (some ⟨mb,0,none⟩),.int .i64 time,.slice ao n cap] w fun e W'=>e=.returned (.int .i64 0)/\D W':=by
 have hP:=bk
 have ix:∀ it∈([]:List Item),aR it:=by simp
 have dY:∀ (c:Code),∀ it∈[Item.code c],aR it:=fun c=>aJ trivial (by simp)
 have lj:∀ τ d,(re w τ d).cell? ⟨mb,0,none⟩=some (.pointer (some ⟨aj,0,none⟩)):=fun τ d=>ae (w:=re w τ d) hm rfl
 refine bZ.nJ Tryz.func24 rfl (fun cs bn=>?_)
 simp only [Tryz.ntmps24,List.size_toArray,List.length_cons,List.length_nil,Nat.reduceAdd,Nat.reduceSub,Array.replicate_succ,Array.replicate_zero,List.push_toArray,List.append_toArray,List.nil_append,List.cons_append]
 refine af.seq hP ix bn ?_
 refine af.region hP (dY _) bn ?_
 simp only [List.size_toArray,List.length_cons,List.length_nil,Nat.zero_add,List.range,List.range.loop]
 refine af.val hP (w':=w) (v:=.int .i64 0) rfl (by rfl) (fun τ d=>run_eq_of ?r0) (dY _) bn ?_
 case r0=>intro K hK;go_simp;exact hK
 try walk_nrm
 refine af.nil hP (dY _) bn ?_
 refine af.seq hP ix bn ?_
 refine af.region hP (dY _) bn ?_
 simp only [List.size_toArray,List.length_cons,List.length_nil,Nat.reduceAdd,Nat.zero_add,List.range,List.range.loop]
 refine af.val hP (w':=w) (v:=.pointer (some ⟨mb,0,none⟩)) rfl (by rfl) (fun τ d=>run_eq_of ?r1) (dY _) bn ?_
 case r1=>intro K hK;go_simp;exact hK
 try walk_nrm
 refine af.val hP (w':=w) (v:=.pointer (some ⟨mb,0,none⟩)) rfl (by rfl) (fun τ d=>run_eq_of ?r2) (dY _) bn ?_
 case r2=>intro K hK;go_simp;exact hK
 try walk_nrm
 refine af.val hP (w':=w) (v:=.pointer (some ⟨mb,0,none⟩)) rfl (by rfl) (fun τ d=>run_eq_of ?r3) (dY _) bn ?_
 case r3=>intro K hK;go_simp;exact hK
 try walk_nrm
 refine af.val hP (w':=w) (v:=.pointer (some ⟨aj,0,none⟩)) rfl (by rfl) (fun τ d=>run_eq_of ?r4) (dY _) bn ?_
 case r4=>intro K hK;have:=lj τ d;go_simp;exact hK
 try walk_nrm
 refine af.val hP (w':=w) (v:=.int .i64 time) rfl (by rfl) (fun τ d=>run_eq_of ?r5) (dY _) bn ?_
 case r5=>intro K hK;go_simp;exact hK
 try walk_nrm
 refine af.val hP (w':=w) (v:=.slice ao n cap) rfl (by rfl) (fun τ d=>run_eq_of ?r6) (dY _) bn ?_
 case r6=>intro K hK;go_simp;exact hK
 try walk_nrm
 refine af.call hP (f:=46) (args:=#[.pointer (some ⟨aj,0,none⟩),.int .i64 time,.slice ao n cap]) rfl (by rfl) (fun τ d=>?c7) (dY _) bn h (fun e w' x=>⟨_,x.1⟩) ?_
 case c7=>rw [run_call_body (f:=46) (args:=#[.tmp 10,.tmp 11,.tmp 12]) (ats:=#[100,3,31]) rfl Tryz.func46 (by decide) rfl];simp only [List.map_toArray,List.map_cons,List.map_nil];rfl
 rintro v w1 ⟨hv,hD1⟩
 cases hv
 try walk_nrm
 refine af.call hP (f:=40) (args:=#[.nilIface]) rfl (by rfl) (fun τ d=>?c8) (dY _) bn (errno_nilH w1) (fun e w' x=>⟨_,x.1⟩) ?_
 case c8=>rw [run_call_body (f:=40) (args:=#[.tmp 13]) (ats:=#[89]) rfl Tryz.func40 (by decide) rfl];simp only [List.map_toArray,List.map_cons,List.map_nil];rfl
 rintro v w2 ⟨hv,τ,d,rfl⟩
 cases hv
 refine af.other ?_ τ d
 try walk_nrm
 refine af.val hP (w':=w1) (v:=.int .i64 0) rfl (by rfl) (fun τ d=>run_eq_of ?r9) (dY _) bn ?_
 case r9=>intro K hK;go_simp;exact hK
 try walk_nrm
 refine af.nil hP (dY _) bn ?_
 exact af.ret hP ix bn Tryz.func24 rfl (fun τ d=>by simp [results,go_sem,Tryz.f24]) (fun τ d=>⟨rfl,hD _ _ _ hD1⟩)
end Ev
namespace Ev
open Go.RowKit Go.Deep Go.Maps
theorem iy:(Tryz.prog.info? 183).map (fun i=>(i.zero,i.size,i.bytes))=some (some (.agg #[.string ⟨#[]⟩,.pointer none,.int .i64 0,.int .i64 0,.pointer none]),5,48):=by kernel_rfl
set_option maxHeartbeats 2000000 in
set_option maxRecDepth 100000 in
theorem cloneVer_some (b off n c:Nat) (xs:List Value) (w:World) (hl:xs.length=n*4) (hn:n<=1000000) (hc:∀ j u,xs[j]? = some u->w.cell? ⟨b,off+j,none⟩=some u) (h1:∀ u∈xs,u.oneCell'=true) :
  Calls Tryz.prog 94 #[.slice (some ⟨b,off,none⟩) n c] w fun e w'=>∃ v',e=.returned v'/\w'.ownsRow w.heap.size 59 4 v' n xs/\Below w.heap.size w w':=by
 obtain ⟨i0,hi,lr,iU,lu⟩:=info_parts Go.Proofs.YtpbbmagjhkakgaaGreatDoor.Lf.rF
 have q22:∀ (w:World) (a:Option Addr) (n c n' c':Nat),(binOp .eql 54 (.slice a n c) (.slice none n' c')).run Tryz.prog w=.ok (.bool a.isNone) w:=fun w a n c n' c'=>Lib.run_eql_slice_nil w _ _ a n c n' c' Tryz.underlying54
 have A:Hid (∀ j u,xs[j]? = some u->w.cell? ⟨b,off+j,none⟩=some u):=hc
 have HL:Hid (xs.length=n*4):=hl
 clear hc hl
 go_enter Tryz.func94,Tryz.ntmps94
 go_wp2_with (at_builtin;refine wpList_append_own _ rfl _ _ 54 rfl w.heap.size 59 i0 (.agg #[.int .i64 0,.int .i64 0,.int .i64 0,.bool false]) 4 32 Tryz.underlying54 hi lr iU lu rfl (by decide) _ _ _ rfl (World.ownsRow_made w #[] 0 (Nat.le_refl _) (Nat.zero_le _) rfl) ⟨b,off,none⟩ n c xs rfl ?qc1 ?qc2 ?qc3 ?qc4 ?qc5 ?qc6 ?_)
 case qc1=>exact HL.out
 case qc2 =>
  intro j u hj
  rw [Addr.add_lit]
  exact Lib.cell?_alloc_some _ (A.out j u hj)
 case qc3=>exact h1
 case qc4=>unfold maxLen;omega
 case qc5=>omega
 case qc6=>simp
 intro v' w1 cE bz hnil
 go_wp2_with fail
 go_ret
 refine ⟨v',rfl,by simpa using cE,?_⟩
 exact ((Below.refl _ w).alloc (Nat.le_refl _) _).grown bz (by simp) (by intro k hk;simp [Value.ownBlock] at hk;omega)
theorem cloneVer_nil (n c:Nat) (w:World):Calls Tryz.prog 94 #[.slice none n c] w fun e w'=>e=.returned (.slice none 0 0)/\w'=w:=by
 have q22:∀ (w:World) (a:Option Addr) (n c n' c':Nat),(binOp .eql 54 (.slice a n c) (.slice none n' c')).run Tryz.prog w=.ok (.bool a.isNone) w:=fun w a n c n' c'=>Lib.run_eql_slice_nil w _ _ a n c n' c' Tryz.underlying54
 go_enter Tryz.func94,Tryz.ntmps94
 go_wp2_with fail
 go_ret
 exact ⟨rfl,rfl⟩
set_option maxHeartbeats 2000000 in
set_option maxRecDepth 100000 in
theorem clonePol_some (b off n c:Nat) (xs:List Value) (w:World) (hl:xs.length=n*5) (hn:n<=1000000) (hc:∀ j u,xs[j]? = some u->w.cell? ⟨b,off+j,none⟩=some u) (h1:∀ u∈xs,u.oneCell'=true) :
  Calls Tryz.prog 100 #[.slice (some ⟨b,off,none⟩) n c] w fun e w'=>∃ v',e=.returned v'/\w'.ownsRow w.heap.size 183 5 v' n xs/\Below w.heap.size w w':=by
 obtain ⟨i0,hi,lr,iU,lu⟩:=info_parts iy
 have q22:∀ (w:World) (a:Option Addr) (n c n' c':Nat),(binOp .eql 151 (.slice a n c) (.slice none n' c')).run Tryz.prog w=.ok (.bool a.isNone) w:=fun w a n c n' c'=>Lib.run_eql_slice_nil w _ _ a n c n' c' Tryz.underlying151
 have A:Hid (∀ j u,xs[j]? = some u->w.cell? ⟨b,off+j,none⟩=some u):=hc
 have HL:Hid (xs.length=n*5):=hl
 clear hc hl
 go_enter Tryz.func100,Tryz.ntmps100
 go_wp2_with (at_builtin;refine wpList_append_own _ rfl _ _ 151 rfl w.heap.size 183 i0 (.agg #[.string ⟨#[]⟩,.pointer none,.int .i64 0,.int .i64 0,.pointer none]) 5 48 Tryz.underlying151 hi lr iU lu rfl (by decide) _ _ _ rfl (World.ownsRow_made w #[] 0 (Nat.le_refl _) (Nat.zero_le _) rfl) ⟨b,off,none⟩ n c xs rfl ?qc1 ?qc2 ?qc3 ?qc4 ?qc5 ?qc6 ?_)
 case qc1=>exact HL.out
 case qc2 =>
  intro j u hj
  rw [Addr.add_lit]
  exact Lib.cell?_alloc_some _ (A.out j u hj)
 case qc3=>exact h1
 case qc4=>unfold maxLen;omega
 case qc5=>omega
 case qc6=>simp
 intro v' w1 cE bz hnil
 go_wp2_with fail
 go_ret
 refine ⟨v',rfl,by simpa using cE,?_⟩
 exact ((Below.refl _ w).alloc (Nat.le_refl _) _).grown bz (by simp) (by intro k hk;simp [Value.ownBlock] at hk;omega)
theorem clonePol_nil (n c:Nat) (w:World):Calls Tryz.prog 100 #[.slice none n c] w fun e w'=>e=.returned (.slice none 0 0)/\w'=w:=by
 have q22:∀ (w:World) (a:Option Addr) (n c n' c':Nat),(binOp .eql 151 (.slice a n c) (.slice none n' c')).run Tryz.prog w=.ok (.bool a.isNone) w:=fun w a n c n' c'=>Lib.run_eql_slice_nil w _ _ a n c n' c' Tryz.underlying151
 go_enter Tryz.func100,Tryz.ntmps100
 go_wp2_with fail
 go_ret
 exact ⟨rfl,rfl⟩
set_option maxHeartbeats 2000000 in
set_option maxRecDepth 100000 in
theorem cloneEv_some (b off n c:Nat) (xs:List Value) (w:World) (hl:xs.length=n*4) (hn:n<=1000000) (hc:∀ j u,xs[j]? = some u->w.cell? ⟨b,off+j,none⟩=some u) (h1:∀ u∈xs,u.oneCell'=true) :
  Calls Tryz.prog 175 #[.slice (some ⟨b,off,none⟩) n c] w fun e w'=>∃ v',e=.returned v'/\w'.ownsRow w.heap.size 159 4 v' n xs/\Below w.heap.size w w':=by
 obtain ⟨i0,hi,lr,iU,lu⟩:=info_parts oM
 have q22:∀ (w:World) (a:Option Addr) (n c n' c':Nat),(binOp .eql 146 (.slice a n c) (.slice none n' c')).run Tryz.prog w=.ok (.bool a.isNone) w:=fun w a n c n' c'=>Lib.run_eql_slice_nil w _ _ a n c n' c' Tryz.underlying146
 have A:Hid (∀ j u,xs[j]? = some u->w.cell? ⟨b,off+j,none⟩=some u):=hc
 have HL:Hid (xs.length=n*4):=hl
 clear hc hl
 go_enter Tryz.func175,Tryz.ntmps175
 go_wp2_with (at_builtin;refine wpList_append_own _ rfl _ _ 146 rfl w.heap.size 159 i0 (.agg #[.int .i64 0,.int .i64 0,.slice none 0 0,.slice none 0 0]) 4 64 Tryz.underlying146 hi lr iU lu rfl (by decide) _ _ _ rfl (World.ownsRow_made w #[] 0 (Nat.le_refl _) (Nat.zero_le _) rfl) ⟨b,off,none⟩ n c xs rfl ?qc1 ?qc2 ?qc3 ?qc4 ?qc5 ?qc6 ?_)
 case qc1=>exact HL.out
 case qc2 =>
  intro j u hj
  rw [Addr.add_lit]
  exact Lib.cell?_alloc_some _ (A.out j u hj)
 case qc3=>exact h1
 case qc4=>unfold maxLen;omega
 case qc5=>omega
 case qc6=>simp
 intro v' w1 cE bz hnil
 go_wp2_with fail
 go_ret
 refine ⟨v',rfl,by simpa using cE,?_⟩
 exact ((Below.refl _ w).alloc (Nat.le_refl _) _).grown bz (by simp) (by intro k hk;simp [Value.ownBlock] at hk;omega)
theorem cloneEv_nil (n c:Nat) (w:World):Calls Tryz.prog 175 #[.slice none n c] w fun e w'=>e=.returned (.slice none 0 0)/\w'=w:=by
 have q22:∀ (w:World) (a:Option Addr) (n c n' c':Nat),(binOp .eql 146 (.slice a n c) (.slice none n' c')).run Tryz.prog w=.ok (.bool a.isNone) w:=fun w a n c n' c'=>Lib.run_eql_slice_nil w _ _ a n c n' c' Tryz.underlying146
 go_enter Tryz.func175,Tryz.ntmps175
 go_wp2_with fail
 go_ret
 exact ⟨rfl,rfl⟩
set_option maxHeartbeats 2000000 in
set_option maxRecDepth 100000 in
theorem cloneNode_some (b off n c:Nat) (xs:List Value) (w:World) (hl:xs.length=n*6) (hn:n<=1000000) (hc:∀ j u,xs[j]? = some u->w.cell? ⟨b,off+j,none⟩=some u) (h1:∀ u∈xs,u.oneCell'=true) :
  Calls Tryz.prog 177 #[.slice (some ⟨b,off,none⟩) n c] w fun e w'=>∃ v',e=.returned v'/\w'.ownsRow w.heap.size 226 6 v' n xs/\Below w.heap.size w w':=by
 obtain ⟨i0,hi,lr,iU,lu⟩:=info_parts infoNode
 have q22:∀ (w:World) (a:Option Addr) (n c n' c':Nat),(binOp .eql 95 (.slice a n c) (.slice none n' c')).run Tryz.prog w=.ok (.bool a.isNone) w:=fun w a n c n' c'=>Lib.run_eql_slice_nil w _ _ a n c n' c' Tryz.underlying95
 have A:Hid (∀ j u,xs[j]? = some u->w.cell? ⟨b,off+j,none⟩=some u):=hc
 have HL:Hid (xs.length=n*6):=hl
 clear hc hl
 go_enter Tryz.func177,Tryz.ntmps177
 go_wp2_with (at_builtin;refine wpList_append_own _ rfl _ _ 95 rfl w.heap.size 226 i0 (.agg #[.int .i32 0,.string ⟨#[]⟩,.int .i64 0,.int .i64 0,.int .i64 0,.int .i64 0]) 6 56 Tryz.underlying95 hi lr iU lu rfl (by decide) _ _ _ rfl (World.ownsRow_made w #[] 0 (Nat.le_refl _) (Nat.zero_le _) rfl) ⟨b,off,none⟩ n c xs rfl ?qc1 ?qc2 ?qc3 ?qc4 ?qc5 ?qc6 ?_)
 case qc1=>exact HL.out
 case qc2 =>
  intro j u hj
  rw [Addr.add_lit]
  exact Lib.cell?_alloc_some _ (A.out j u hj)
 case qc3=>exact h1
 case qc4=>unfold maxLen;omega
 case qc5=>omega
 case qc6=>simp
 intro v' w1 cE bz hnil
 go_wp2_with fail
 go_ret
 refine ⟨v',rfl,by simpa using cE,?_⟩
 exact ((Below.refl _ w).alloc (Nat.le_refl _) _).grown bz (by simp) (by intro k hk;simp [Value.ownBlock] at hk;omega)
theorem cloneNode_nil (n c:Nat) (w:World):Calls Tryz.prog 177 #[.slice none n c] w fun e w'=>e=.returned (.slice none 0 0)/\w'=w:=by
 have q22:∀ (w:World) (a:Option Addr) (n c n' c':Nat),(binOp .eql 95 (.slice a n c) (.slice none n' c')).run Tryz.prog w=.ok (.bool a.isNone) w:=fun w a n c n' c'=>Lib.run_eql_slice_nil w _ _ a n c n' c' Tryz.underlying95
 go_enter Tryz.func177,Tryz.ntmps177
 go_wp2_with fail
 go_ret
 exact ⟨rfl,rfl⟩
theorem cU {S:TypeId} {w w':World} (hh:∀ (k:Nat) (cs:Array Value),w.heap[k]? = some (Obj.cells cs S (0,0))->w'.heap[k]? = some (Obj.cells cs S (0,0))):∀ {x:BT aO} {v:Value},aC S 0 w x v->aC S 0 w' x v
 | .nil,_,h=>h
 | .node _ _ _ l r,_,⟨b,vl,vr,e,hb,hc,hl,hr⟩=>⟨b,vl,vr,e,hb,hh b _ hc,cU hh (x:=l) hl,cU hh (x:=r) hr⟩
theorem sent_zero {S:TypeId} {B:Nat} {w:World}:∀ {x:BT aO} {v:Value},aC S B w x v->aC S 0 w x v
 | .nil,_,h=>h
 | .node _ _ _ l r,_,⟨b,vl,vr,e,_,hc,hl,hr⟩=>⟨b,vl,vr,e,Nat.zero_le _,hc,sent_zero (x:=l) hl,sent_zero (x:=r) hr⟩
set_option maxHeartbeats 400000 in
theorem putTop0 (x:BT aO) (v:Value) (B tb:Nat) (K:List Key) (w:World) (hs:aC 143 0 w x v) (hg:Good x) (ht:sC B tb w K) (hlen:K.length+aV (ak x)<=1000000000000) :
  Calls Tryz.prog 43 #[.pointer (some ⟨tb,0,none⟩),v] w fun e w'=>e=.returned (.int .i64 (aX K (ak x)).1)/\sC B tb w' (aX K (ak x)).2/\Below B w w':=by
 obtain ⟨vv,rfl⟩:∃ vv,v=Value.pointer vv:=gZ hs
 have q1:∀ (w:World) (r:Option Nat),(binOp .eql 94 (.map r) (.map none)).run Tryz.prog w=.ok (.bool r.isNone) w:=fun w r=>run_eql_map_nil w _ _ _ r Tryz.underlying94
 have gc:=cA hg
 rcases ht with ⟨h1,rfl,hB⟩ | ⟨mb,nv,h2⟩
 ·have lj:w.cell? ⟨tb,0,none⟩=some (.map none):=ae h1 rfl
  have hf0:w.frozen? ⟨tb,0,none⟩=false:=Lib.frozen_of_heap h1 0
  have cz:=aw h1
  have hne:tb≠w.heap.size:=by omega
  have oK:(w.setCell ⟨tb,0,none⟩ (.map (some w.heap.size))).heap.size=w.heap.size:=by simp [World.setCell]
  have hoT:Only tb w ((w.setCell ⟨tb,0,none⟩ (.map (some w.heap.size))).alloc (.map #[] 0)):=((Only.refl tb w).setCell (p:=⟨tb,0,none⟩) (.inl rfl) _).alloc _
  have hT:c_ B tb w.heap.size (.slice none 0 0) ((w.setCell ⟨tb,0,none⟩ (.map (some w.heap.size))).alloc (.map #[] 0)) []:=by
   refine ⟨?_,?_,World.ownsRow_nil _ _ _ _,hB,by omega⟩
   ·rw [Below.heap_alloc _ _ _ (by rw [oK];exact cz)];exact heap_set1 h1
   ·have:=iC.made (w.setCell ⟨tb,0,none⟩ (.map (some w.heap.size)))
    rw [oK] at this
    exact this
  have hsT:aC 143 0 ((w.setCell ⟨tb,0,none⟩ (.map (some w.heap.size))).alloc (.map #[] 0)) x (.pointer vv):=cU (fun k cs hk=>hoT.heap hk (by rintro rfl;rw [h1] at hk;cases hk)) hs
  have hO:=of_any x (.pointer vv) 0 _ hsT hg (Nat.zero_le _)
  have hmm:(Instr.makeMap 94 none).run Tryz.prog w=.ok (.map (some w.heap.size)) (w.alloc (.map #[] 0)):=rfl
  go_enter Tryz.func43,Tryz.ntmps43
  go_wp2_with fail
  refine hO.mono ?_
  rintro e w1 ⟨p,rfl,kS,a_⟩
  have hP:=put_any (ak x) (.pointer p) 0 B tb w.heap.size (.slice none 0 0) [] w1 kS (.inr gc) (hT.below a_) hlen
  clear hO
  go_wp2_with fail
  refine hP.mono ?_
  rintro e w2 ⟨rfl,nv2,ht2,jE⟩
  clear hP
  go_wp2_with fail
  go_ret
  refine ⟨rfl,.inr ⟨w.heap.size,nv2,ht2⟩,?_⟩
  have b1:Below B w w1:=(hoT.below hB (by omega)).trans (a_.mono (by have:=hoT.size;omega))
  exact b1.trans jE.below
 ·have lj:w.cell? ⟨tb,0,none⟩=some (.map (some mb)):=ae h2.1 rfl
  have uX:=h2.base
  have hO:=of_any x (.pointer vv) 0 w hs hg (Nat.zero_le _)
  go_enter Tryz.func43,Tryz.ntmps43
  go_wp2_with fail
  refine hO.mono ?_
  rintro e w1 ⟨p,rfl,kS,a_⟩
  have hP:=put_any (ak x) (.pointer p) 0 B tb mb nv K w1 kS (.inr gc) (h2.below a_) hlen
  clear hO
  go_wp2_with fail
  refine hP.mono ?_
  rintro e w2 ⟨rfl,nv2,ht2,jE⟩
  clear hP
  go_wp2_with fail
  go_ret
  refine ⟨rfl,.inr ⟨mb,nv2,ht2⟩,?_⟩
  have b1:Below B w w1:=a_.mono (by omega)
  exact b1.trans jE.below
theorem keyOnes (K:List Key):∀ u∈gh K,u.oneCell'=true:=by
 intro u hu
 simp only [gh,List.mem_flatten,List.mem_map] at hu
 obtain ⟨l,⟨k,_,rfl⟩,h⟩:=hu
 exact keyOne k u h
theorem flatK_len (K:List Key):(gh K).length=K.length*6:=ft eP 6 (fun _=>rfl) K
theorem tabNodes_any (B tb:Nat) (K:List Key) (w:World) (ht:sC B tb w K) (hK:K.length<=1000000):Calls Tryz.prog 143 #[.pointer (some ⟨tb,0,none⟩)] w fun e w'=>∃ v',e=.returned v'/\w'.ownsRow w.heap.size 226 6 v' K.length (gh K)/\Below w.heap.size w w':=by
 have key:∀ nv,w.cell? ⟨tb,1,none⟩=some nv->w.ownsRow B 226 6 nv K.length (gh K)->Calls Tryz.prog 143 #[.pointer (some ⟨tb,0,none⟩)] w fun e w'=>∃ v',e=.returned v'/\w'.ownsRow w.heap.size 226 6 v' K.length (gh K)/\Below w.heap.size w w':=by
  intro nv hc hr
  have hr0:=hr
  obtain ⟨_,⟨rfl,h3⟩ | ⟨g,cap,cur,rfl,_⟩⟩:=hr
  ·have hk:K=[]:=List.length_eq_zero_iff.1 h3
   subst hk
   have om:=cloneNode_nil 0 0 w
   go_enter Tryz.func143,Tryz.ntmps143
   go_wp2_with fail
   refine om.mono ?_
   rintro e w1 ⟨rfl,rfl⟩
   go_wp2_with fail
   go_ret
   exact ⟨_,rfl,World.ownsRow_nil _ _ _ _,Below.refl _ _⟩
  ·have om:=cloneNode_some g 0 K.length cap (gh K) w (flatK_len K) hK (fun j u hj=>by rw [Nat.zero_add];exact gH hr0 rfl hj) (keyOnes K)
   have Hr:Hid (w.ownsRow B 226 6 (.slice (some ⟨g,0,none⟩) K.length cap) K.length (gh K)):=hr0
   clear hr0
   generalize gh K=xs at *
   generalize K.length=n at *
   go_enter Tryz.func143,Tryz.ntmps143
   go_wp2_with fail
   refine om.mono ?_
   rintro e w1 ⟨v',rfl,ho,hb⟩
   go_wp2_with fail
   go_ret
   exact ⟨_,rfl,ho,hb⟩
 rcases ht with ⟨h1,rfl,hB⟩ | ⟨mb,nv,h1,_,h3,_⟩
 ·exact key _ (ae h1 rfl) (World.ownsRow_nil _ _ _ _)
 ·exact key _ (ae h1 rfl) h3
set_option maxHeartbeats 1000000 in
theorem judge0_any (aj:Nat) (rt rm nv pv nn:Value) (o:Option Addr) (n cap:Nat) (hnn:nn=.slice o n cap) (w:World) (hw:w.heap[aj]? = some (.cells #[rt,rm,nv,.slice none 0 0,pv] 153 (0,0))) :
  Calls Tryz.prog 142 #[.pointer (some ⟨aj,0,none⟩),nn] w fun e w'=>e=.returned (.tuple #[])/\w'.heap[aj]? = some (.cells #[rt,rm,nn,.slice none 0 0,pv] 153 (0,0))/\Only aj w w':=by
 subst hnn
 have hf0:w.frozen? ⟨aj,2,none⟩=false:=Lib.frozen_of_heap hw 2
 have c2:=ae (i:=2) hw rfl
 have c3:=ae (i:=3) hw rfl
 go_enter Tryz.func142,Tryz.ntmps142
 go_wp2_with fail
 go_loopw [14] (fun iv wr=>iv=.int .i64 0/\wr=w.setCell ⟨aj,2,none⟩ (.slice o n cap)) (fun iv _=>0)
 case atStart=>exact ⟨rfl,rfl⟩
 case round =>
  obtain ⟨rfl,rfl⟩:=hrel
  go_wp2_with fail
  refine bodyPost_end (results_none rfl _ _ _) rfl ?_
  exact ⟨rfl,b7 (i:=2) hw,(Only.refl aj w).setCell (p:=⟨aj,2,none⟩) (.inl rfl) _⟩
theorem checkReach_ok (aj:Nat) (ai reach:Int) (rm nv ev pv:Value) (w:World) (hw:w.heap[aj]? = some (.cells #[.int .i64 ai,rm,nv,ev,pv] 153 (0,0))) (h:reach<=ai) :
  Calls Tryz.prog 171 #[.pointer (some ⟨aj,0,none⟩),.int .i64 reach] w fun e w'=>e=.returned .nilIface/\w'=w:=by
 have c0:=ae (i:=0) hw rfl
 go_enter Tryz.func171,Tryz.ntmps171
 go_wp2_with fail
 go_ret
 exact ⟨rfl,rfl⟩
set_option maxHeartbeats 1000000 in
theorem p_ (aj:Nat) (ai:Int) (rm nv ev pv:Value) (name s:ByteArray) (x:BT aO) (w:World) (hw:w.heap[aj]? = some (.cells #[.int .i64 ai,rm,nv,ev,pv] 153 (0,0))) (hN:eR name) (hm:s.size<=maxLen) (hg:eF w) (l9:14<=w.heap.size) (hr:cI s=(some x,0)) (hR:ax x<=ai) :
  Calls Tryz.prog 135 #[.pointer (some ⟨aj,0,none⟩),.string name,.string s] w fun e w'=>∃ p,e=.returned (.tuple #[.pointer p,.nilIface])/\aC 143 0 w' x (.pointer p)/\Below w.heap.size w w':=by
 have hI:=isName_ok name hN w
 obtain ⟨hgd,_,hdx,_⟩:=iJ hr
 have hRd:∀ w1,Below w.heap.size w w1->Calls Tryz.prog 39 #[.string s] w1 (ReadTop s w1 (some x,0)):=fun w1 hb=>by
  have:=readTop_any s w1 hm (hg.below hb) (by have:=hb.size;omega)
  rw [hr] at this
  exact this
 have HRd:Hid (∀ w1,Below w.heap.size w w1->Calls Tryz.prog 39 #[.string s] w1 (ReadTop s w1 (some x,0))):=hRd
 clear hRd
 have Hw:Hid (w.heap[aj]? = some (.cells #[.int .i64 ai,rm,nv,ev,pv] 153 (0,0))):=hw
 clear hw
 go_enter Tryz.func135,Tryz.ntmps135
 go_wp2_with fail
 refine hI.mono ?_
 rintro e w1 ⟨rfl,a_⟩
 go_wp2_with fail
 refine (HRd.out w1 a_).mono ?_
 rintro e w2 ⟨cB,⟨x',v,h1,rfl,hx,hd⟩ | ⟨h1,tb,fa,rfl,ht⟩ | ⟨h1,tb,fa,rfl,ht⟩⟩
 ·cases h1
  obtain ⟨vv,rfl⟩:=gZ hx
  have qv:=a_.tr cB
  have hx0:=sent_zero hx
  have tR:=qv.aE Hw.out
  have hwin:=hgd.win
  go_wp2_with fail
  go_quiet (first
   | (go_at_call_of 42 (Value.pointer vv);exact Calls.quiet_of (reach_any x _ _ _ (hx0.drewN _) (by omega) hwin))
   | (go_at_call_of 171 (Value.pointer (some ⟨aj,0,none⟩));exact Calls.quiet_of ((checkReach_ok aj ai (ax x) rm nv ev pv _ (by exact tR) hR).mono (fun e w' h=>⟨h.1,0,h.2⟩))))
  go_wp2_with fail
  all_goals go_ret2
  all_goals exact ⟨vv,rfl,hx0.drewN _,qv.tr (below_drewN _ _)⟩
 ·cases h1
 ·cases h1
end Ev
namespace Ev
open Go.RowKit Go.Deep Go.Maps Lf
def dN (X:Nat->BT aO):Nat->List Key
 | 0=>[]
 | j+1=>(aX (dN X j) (ak (X j))).2
def nAt (X:Nat->BT aO) (j:Nat):Int:=(aX (dN X j) (ak (X j))).1
theorem KAt_len (X:Nat->BT aO) (j:Nat):(dN X j).length<=(dN X (j+1)).length:=(kt (ak (X j)) (dN X j)).1
theorem KAt_mono (X:Nat->BT aO) (i k:Nat):(dN X i).length<=(dN X (i+k)).length:=by
 induction k with
 | zero=>exact Nat.le_refl _
 | succ k ih=>exact Nat.le_trans ih (KAt_len X (i+k))
def dR (X:Nat->BT aO) (ps:List bC):List bC:=ps.mapIdx fun j p=>{ p with node:=(nAt X j).toNat }
theorem mQ (X:Nat->BT aO) (j:Nat):0<=nAt X j:=(kt (ak (X j)) (dN X j)).2.2.1
def iX (X:Nat->BT aO) (arr:Array Value) (ps:List bC) (i:Nat):Prop:=∀ (j:Nat) (p:bC),ps[j]? = some p->arr[j*5]? = some (.string p.name)/\arr[j*5+1]? = some (.pointer p.bV)/\(j<i->arr[j*5+2]? = some (.int .i64 (nAt X j)))/\arr[j*5+3]? = some (.int .i64 p.cu)/\arr[j*5+4]? = some (.pointer p.cG)
theorem iX.done {X:Nat->BT aO} {arr:Array Value} {ps:List bC} (h:iX X arr ps ps.length):b5 arr 0 (dR X ps):=by
 intro j q hq
 simp only [dR,List.getElem?_mapIdx] at hq
 cases hp:ps[j]? with
 | none=>rw [hp] at hq;cases hq
 | some p =>
  rw [hp] at hq
  simp at hq
  subst hq
  obtain ⟨a,b,c,d,e⟩:=h j p hp
  have hj:=(List.getElem?_eq_some_iff.1 hp).1
  have hn:=mQ X j
  simp only [Nat.zero_add]
  refine ⟨a,b,?_,d,e⟩
  rw [c hj]
  congr 2
  exact (Int.toNat_of_nonneg hn).symm
theorem iX.start {X:Nat->BT aO} {arr:Array Value} {ps:List bC} (h:b5 arr 0 ps):iX X arr ps 0:=by
 intro j p hp
 obtain ⟨a,b,_,d,e⟩:=h j p hp
 simp only [Nat.zero_add] at a b d e
 exact ⟨a,b,fun h=>absurd h (Nat.not_lt_zero _),d,e⟩
theorem iX.set {X:Nat->BT aO} {arr:Array Value} {ps:List bC} {i:Nat} (h:iX X arr ps i) (hi:i<ps.length):iX X (arr.setIfInBounds (i*5+2) (.int .i64 (nAt X i))) ps (i+1):=by
 intro j p hp
 obtain ⟨a,b,c,d,e⟩:=h j p hp
 have hs:i*5+2<arr.size:=by
  obtain ⟨_,_,_,d',_⟩:=h i ps[i] (List.getElem?_eq_getElem hi)
  have:=(Array.getElem?_eq_some_iff.1 d').1
  omega
 have ne:∀ k,k≠i*5+2->(arr.setIfInBounds (i*5+2) (.int .i64 (nAt X i)))[k]? = arr[k]?:=fun k hk=>Array.getElem?_setIfInBounds_ne (Ne.symm hk)
 refine ⟨by rw [ne _ (by omega)];exact a,by rw [ne _ (by omega)];exact b,fun hj=>?_,by rw [ne _ (by omega)];exact d,by rw [ne _ (by omega)];exact e⟩
 by_cases mO:j=i
 ·subst mO
  rw [Array.getElem?_setIfInBounds_self_of_lt hs]
 ·rw [ne _ (by omega)]
  exact c (by omega)
theorem oY {w:World} {B B' size n:Nat} {e:TypeId} {v:Value} {xs:List Value} (h:w.ownsRow B e size v n xs) (hB:B'<=B):w.ownsRow B' e size v n xs:=by
 obtain ⟨h1,h2 | ⟨g,cap,cur,h3,h4,h5⟩⟩:=h
 ·exact ⟨h1,.inl h2⟩
 ·exact ⟨h1,.inr ⟨g,cap,cur,h3,Nat.le_trans hB h4,h5⟩⟩
set_option maxRecDepth 100000 in
set_option maxHeartbeats 4000000 in
theorem settle_ok (aj pb cap:Nat) (rt rm nv ev:Value) (po:Option Addr) (pn pc:Nat) (arr:Array Value) (ps:List bC) (X:Nat->BT aO) (w:World) (J:World->Value->World->Prop)
  (hw:w.heap[aj]? = some (.cells #[rt,rm,nv,ev,.slice po pn pc] 153 (0,0))) (hp:w.heap[pb]? = some (.cells arr 183 (0,0))) (hP:b5 arr 0 ps) (hn:ps.length<=1000) (cW:ps.length<=cap)
  (hS:∀ (j:Nat) (p:bC),ps[j]? = some p->aC 143 0 w (X j) (.pointer p.bV)/\Good (X j)/\aV (ak (X j))<=1000000) (hK:(dN X ps.length).length<=40)
  (hJ:∀ (W:World) (nn:Value) (gV:Array Value),W.ownsRow w.heap.size 226 6 nn (dN X ps.length).length (gh (dN X ps.length))->W.heap[aj]? = some (.cells #[rt,rm,nv,ev,.slice (some ⟨pb,0,none⟩) ps.length cap] 153 (0,0))->W.heap[pb]? = some (.cells gV 183 (0,0))->b5 gV 0 (dR X ps)->aY (fun b=>b=aj\/b=pb) w W->
   Calls Tryz.prog 142 #[.pointer (some ⟨aj,0,none⟩),nn] W fun e w'=>e=.returned (.tuple #[])/\J W nn w') :
  Calls Tryz.prog 98 #[.pointer (some ⟨aj,0,none⟩),.slice (some ⟨pb,0,none⟩) ps.length cap] w fun e w'=>e=.returned .nilIface/\∃ (W:World) (nn:Value) (gV:Array Value),W.ownsRow w.heap.size 226 6 nn (dN X ps.length).length (gh (dN X ps.length))/\W.heap[aj]? = some (.cells #[rt,rm,nv,ev,.slice (some ⟨pb,0,none⟩) ps.length cap] 153 (0,0))/\W.heap[pb]? = some (.cells gV 183 (0,0))/\b5 gV 0 (dR X ps)/\aY (fun b=>b=aj\/b=pb) w W/\J W nn w':=by
 have hne:aj≠pb:=by rintro rfl;rw [hw] at hp;cases hp
 have hwl:=aw hw
 have hpl:=aw hp
 have Hp:Hid (w.heap[pb]? = some (.cells arr 183 (0,0))/\b5 arr 0 ps):=⟨hp,hP⟩
 have Hw:Hid (w.heap[aj]? = some (.cells #[rt,rm,nv,ev,.slice po pn pc] 153 (0,0))):=hw
 have HJ:Hid (∀ (W:World) (nn:Value) (gV:Array Value),W.ownsRow w.heap.size 226 6 nn (dN X ps.length).length (gh (dN X ps.length))->W.heap[aj]? = some (.cells #[rt,rm,nv,ev,.slice (some ⟨pb,0,none⟩) ps.length cap] 153 (0,0))->W.heap[pb]? = some (.cells gV 183 (0,0))->b5 gV 0 (dR X ps)->aY (fun b=>b=aj\/b=pb) w W->
   Calls Tryz.prog 142 #[.pointer (some ⟨aj,0,none⟩),nn] W fun e w'=>e=.returned (.tuple #[])/\J W nn w'):=hJ
 have HS:Hid (∀ (j:Nat) (p:bC),ps[j]? = some p->aC 143 0 w (X j) (.pointer p.bV)/\Good (X j)/\aV (ak (X j))<=1000000):=hS
 have HK:Hid ((dN X ps.length).length<=40):=hK
 clear hp hP hw hJ hS hK
 generalize hlen:ps.length=n at *
 have Hlen:Hid (ps.length=n):=hlen
 clear hlen
 go_enter Tryz.func98,Tryz.ntmps98
 go_wp2_with fail
 go_loopw [10] (fun iv wr=>∃ (i:Nat),iv=.int .i64 i/\i<=n/\sC w.heap.size w.heap.size wr (dN X i)/\aY (fun b=>b=pb) w wr/\w.heap.size<wr.heap.size/\∃ gV,wr.heap[pb]? = some (.cells gV 183 (0,0))/\iX X gV ps i) (fun iv _=>n-(intOf iv).toNat)
 case atStart =>
  exact ⟨0,rfl,Nat.zero_le _,sC.new _ w (Nat.le_refl _),aY.aL ((Below.refl _ _).al _),by simp,arr,(Below.heap_alloc _ _ _ hpl).trans Hp.out.1,iX.start Hp.out.2⟩
 case round =>
  obtain ⟨i,rfl,tP,hT,kT,oK,gV,um,hPT⟩:=hrel
  by_cases hi:i<n
  ·obtain ⟨p,hpi⟩:∃ p,ps[i]? = some p:=⟨_,List.getElem?_eq_getElem (by rw [Hlen.out];exact hi)⟩
   obtain ⟨a0,a1,_,a3,a4⟩:=hPT i p hpi
   obtain ⟨s1,s2,s3⟩:=HS.out i p hpi
   have s1':aC 143 0 wr (X i) (.pointer p.bV):=cU (fun k cs hk=>by
    rw [kT.block k (aw hk) (by rintro rfl;rw [Hp.out.1] at hk;cases hk)];exact hk) s1
   have c1:wr.cell? ⟨pb,i*5+1,none⟩=some (.pointer p.bV):=ae um a1
   have a_:=KAt_mono X i (n-i)
   have cB:i+(n-i)=n:=by omega
   rw [cB] at a_
   have hKn:=HK.out
   have tQ:=putTop0 (X i) (.pointer p.bV) w.heap.size w.heap.size (dN X i) wr s1' s2 hT (by omega)
   obtain ⟨a2,e2⟩:∃ v,gV[i*5+2]? = some v:=⟨_,Array.getElem?_eq_getElem (by have:=(Array.getElem?_eq_some_iff.1 a3).1;omega)⟩
   have hset:=hPT.set (by rw [Hlen.out];exact hi)
   have hnn:=mQ X i
   have hput2:Calls Tryz.prog 43 #[.pointer (some ⟨w.heap.size,0,none⟩),.pointer p.bV] wr fun e w'=>e=.returned (.int .i64 (nAt X i))/\sC w.heap.size w.heap.size w' (dN X (i+1))/\Below w.heap.size wr w':=tQ
   clear tQ s1 s1' s2 s3 a0 a1 a3 a4 hT a_ cB hKn
   have Hs:Hid (iX X (gV.setIfInBounds (i*5+2) (.int .i64 (nAt X i))) ps (i+1)):=hset
   clear hset hPT
   generalize nAt X i=nd at *
   go_wp2_with fail
   refine hput2.mono ?_
   rintro e w1 ⟨rfl,hT1,a_⟩
   have hpb1:w1.heap[pb]? = some (.cells gV 183 (0,0)):=(a_.block pb hpl).trans um
   have hf:w1.frozen? ⟨pb,i*5+2,none⟩=false:=Lib.frozen_of_heap hpb1 _
   have c2:w1.cell? ⟨pb,i*5+2,none⟩=some a2:=ae hpb1 e2
   clear hput2
   go_wp2_with fail
   go_roundw
   case rel =>
    have ho:Only pb w1 (w1.setCell ⟨pb,i*5+2,none⟩ (.int .i64 nd)):=(Only.refl pb w1).setCell (p:=⟨pb,i*5+2,none⟩) (.inl rfl) _
    refine ⟨i+1,by go_num,by omega,?_,?_,?_,_,b7 hpb1,Hs.out⟩
    ·rcases hT1 with ⟨t1,t2,t3⟩ | ⟨mb,nv1,t2⟩
     ·exact .inl ⟨ho.heap t1 (by omega),t2,t3⟩
     ·refine .inr ⟨mb,nv1,t2.heap (fun k hk hf=>ho.block k hk ?_)⟩
      exact fun e=>hf (e▸t2.free hpb1 (by decide) (by decide))
    ·have hsp1:aY (fun b=>b=pb) w w1:=⟨a_.os.trans kT.os,a_.tape.trans kT.tape,a_.output.trans kT.output,Nat.le_trans kT.size a_.size,fun x hx hp=>(a_.block x hx).trans (kT.block x hx hp)⟩
     exact hsp1.trans (aY.kg ho fun x hx=>hx)
    ·have:=a_.size;have:=ho.size;omega
   case measure=>simp only [intOf];omega
  ·obtain rfl:i=n:=by omega
   have hC:=count_any w.heap.size w.heap.size (dN X i) wr hT
   have l8:wr.heap[aj]? = some (.cells #[rt,rm,nv,ev,.slice po pn pc] 153 (0,0)):=(kT.block aj hwl hne).trans Hw.out
   have hf:wr.frozen? ⟨aj,4,none⟩=false:=Lib.frozen_of_heap l8 4
   have c4:=ae (i:=4) l8 rfl
   have hKn:=HK.out
   go_wp2_with fail
   refine hC.mono ?_
   rintro e w1 ⟨rfl,rfl⟩
   go_wp2_with fail
   have tR:=b7 (i:=4) (v:=.slice (some ⟨pb,0,none⟩) i cap) l8
   simp only [List.setIfInBounds_toArray,List.set_cons_zero,List.set_cons_succ] at tR
   have ho:Only aj w1 (w1.setCell ⟨aj,4,none⟩ (.slice (some ⟨pb,0,none⟩) i cap)):=(Only.refl aj w1).setCell (p:=⟨aj,4,none⟩) (.inl rfl) _
   have hsp2:aY (fun b=>b=aj\/b=pb) w (w1.setCell ⟨aj,4,none⟩ (.slice (some ⟨pb,0,none⟩) i cap)):=(kT.mono (fun x _ hx=>.inr hx)).trans (aY.kg ho fun x hx=>.inl hx)
   have rZ:sC w.heap.size w.heap.size (w1.setCell ⟨aj,4,none⟩ (.slice (some ⟨pb,0,none⟩) i cap)) (dN X i):=by
    rcases hT with ⟨t1,t2,t3⟩ | ⟨mb,nv1,t2⟩
    ·exact .inl ⟨ho.heap t1 (by omega),t2,t3⟩
    ·exact .inr ⟨mb,nv1,t2.heap (fun k hk hf=>ho.block k hk (fun e=>hf (e▸t2.free l8 (by decide) (by decide))))⟩
   have hpb2:(w1.setCell ⟨aj,4,none⟩ (.slice (some ⟨pb,0,none⟩) i cap)).heap[pb]? = some (.cells gV 183 (0,0)):=ho.heap um (Ne.symm hne)
   have hPd:b5 gV 0 (dR X ps):=iX.done (by rw [Hlen.out];exact hPT)
   clear hT kT um hPT l8 hf c4 hC ho
   generalize w1.setCell ⟨aj,4,none⟩ (.slice (some ⟨pb,0,none⟩) i cap)=W at *
   refine bh.begin (S:=fun _=>True) (fin:=99) (by kernel_rfl) ?_
   simp only [List.size_toArray,List.length_cons,List.length_nil,Nat.reduceAdd,Nat.zero_add]
   refine bh.take 0 (v:=?vq0) rfl (by decide +kernel) (by decide +kernel) (by decide +kernel) (by decide +kernel) (fun c a w h=>h) (by rfl) (fun w' _=>Go.Conc.run_eq_of ?rq0) trivial ?_
   case rq0 =>
    intro K' hK'
    go_simp
    exact hK'
   try walk_nrm
   refine bh.take 1 (v:=?vq1) rfl (by decide +kernel) (by decide +kernel) (by decide +kernel) (by decide +kernel) (fun c a w h=>h) (by rfl) (fun w' _=>Go.Conc.run_eq_of ?rq1) trivial ?_
   case rq1 =>
    intro K' hK'
    go_simp
    exact hK'
   try walk_nrm
   refine bh.take 2 (v:=?vq2) rfl (by decide +kernel) (by decide +kernel) (by decide +kernel) (by decide +kernel) (fun c a w h=>h) (by rfl) (fun w' _=>Go.Conc.run_eq_of ?rq2) trivial ?_
   case rq2 =>
    intro K' hK'
    go_simp
    exact hK'
   try walk_nrm
   refine bh.one (i:=3) (by decide +kernel) rfl (by rfl) ?_
   unfold Oper.wp
   rw [Go.Conc.run_call_body (f:=143) (args:=#[.tmp 5]) (ats:=#[97]) rfl Tryz.func143 (by decide) rfl]
   simp only [Oper.upon,List.map_toArray,List.map_cons,List.map_nil]
   change Calls Tryz.prog 143 #[.pointer (some ⟨w.heap.size,0,none⟩)] W.drew _
   refine (tabNodes_any w.heap.size w.heap.size (dN X i) W.drew (rZ.below (Below.refl _ W).drew) (by omega)).mono ?_
   rintro e W1 ⟨nn,rfl,bT,a_⟩
   refine ⟨fun _=>trivial,?_⟩
   try walk_nrm
   have a_:Below W.heap.size W W1:=(Below.refl W.heap.size W).drew.trans (a_.mono (Below.refl W.heap.size W).drew.size)
   have jF:W1.ownsRow w.heap.size 226 6 nn (dN X i).length (gh (dN X i)):=oY bT (Nat.le_trans hsp2.size (by simp))
   have hJ1:=HJ.out W1 nn gV jF (a_.aE tR) (a_.aE hpb2) hPd (hsp2.trans (aY.aL a_))
   refine bh.one (i:=4) (by decide +kernel) rfl (by rfl) ?_
   unfold Oper.wp
   rw [Go.Conc.run_call_body (f:=142) (args:=#[.tmp 37,.tmp 38]) (ats:=#[148,95]) rfl Tryz.func142 (by decide) rfl]
   simp only [Oper.upon,List.map_toArray,List.map_cons,List.map_nil]
   change Calls Tryz.prog 142 #[.pointer (some ⟨aj,0,none⟩),nn] W1 _
   refine hJ1.mono ?_
   rintro e W2 ⟨rfl,hj⟩
   refine ⟨fun _=>trivial,?_⟩
   refine bh.done (by decide +kernel) ?_ _
   try walk_nrm
   go_wp2_with fail
   go_ret
   exact ⟨rfl,W1,nn,gV,jF,a_.aE tR,a_.aE hpb2,hPd,hsp2.trans (aY.aL a_),hj⟩
set_option maxRecDepth 100000 in
set_option maxHeartbeats 2000000 in
theorem search0 (name:ByteArray) (w:World):Calls Tryz.prog 139 #[.slice none 0 0,.string name,.func (.func 140) #[] #[]] w fun e w'=>e=.returned (.tuple #[.int .i64 0,.bool false])/\w'=w:=by
 go_enter Tryz.func139,Tryz.ntmps139
 go_wp2_with fail
 go_loopw [9,10] (fun iv jv wr=>iv=.int .i64 0/\jv=.int .i64 0/\wr=w) (fun _ _ _=>0)
 case atStart=>exact ⟨rfl,rfl,rfl⟩
 case round =>
  obtain ⟨rfl,rfl,rfl⟩:=hrel
  go_wp2_with fail
  go_ret2
  exact ⟨rfl,rfl⟩
theorem find0 (aj:Nat) (rt rm nv ev:Value) (name:ByteArray) (w:World) (hw:w.heap[aj]? = some (.cells #[rt,rm,nv,ev,.slice none 0 0] 153 (0,0))) :
  Calls Tryz.prog 97 #[.pointer (some ⟨aj,0,none⟩),.string name] w fun e w'=>e=.returned (.tuple #[.int .i64 0,.bool false])/\w'=w:=by
 have c4:=ae (i:=4) hw rfl
 have hs:=search0 name w
 go_enter Tryz.func97,Tryz.ntmps97
 go_wp2_with fail
 refine hs.mono ?_
 rintro e w1 ⟨rfl,rfl⟩
 go_wp2_with fail
 go_ret2
 exact ⟨rfl,rfl⟩
def polVal (p:bC):Value:=.agg #[.string p.name,.pointer p.bV,.int .i64 p.node,.int .i64 p.cu,.pointer p.cG]
set_option maxRecDepth 100000 in
set_option maxHeartbeats 2000000 in
theorem insert0 (vb:Nat) (xs:List Value) (w:World) (hl:xs.length=5) (hc:∀ j u,xs[j]? = some u->w.cell? ⟨vb,j,none⟩=some u) (h1:∀ u∈xs,u.oneCell'=true) :
  Calls Tryz.prog 137 #[.slice none 0 0,.int .i64 0,.slice (some ⟨vb,0,none⟩) 1 1] w fun e w'=>∃ v',e=.returned v'/\w'.ownsRow w.heap.size 183 5 v' 1 xs/\Below w.heap.size w w':=by
 obtain ⟨i0,hi,lr,iU,lu⟩:=info_parts iy
 have HL:Hid (xs.length=5):=hl
 have A:Hid (∀ j u,xs[j]? = some u->w.cell? ⟨vb,j,none⟩=some u):=hc
 clear hl hc
 go_enter Tryz.func137,Tryz.ntmps137
 go_wp2_with (at_builtin;refine wpList_append_own _ rfl _ _ 151 rfl w.heap.size 183 i0 (.agg #[.string ⟨#[]⟩,.pointer none,.int .i64 0,.int .i64 0,.pointer none]) 5 48 Tryz.underlying151 hi lr iU lu rfl (by decide) _ _ _ rfl (World.ownsRow_nil _ _ _ _) ⟨vb,0,none⟩ 1 1 xs rfl ?qc1 ?qc2 ?qc3 ?qc4 ?qc5 ?qc6 ?_)
 case qc1=>exact HL.out
 case qc2 =>
  intro j u hj
  rw [Addr.add_lit,Nat.zero_add]
  exact A.out j u hj
 case qc3=>exact h1
 case qc4=>unfold maxLen;omega
 case qc5=>omega
 case qc6=>simp
 intro v' w1 cE bz hnil
 go_wp2_with fail
 go_ret
 refine ⟨v',rfl,by simpa using cE,?_⟩
 exact (Below.refl _ w).grown bz (by simp) (by intro k hk;simp [Value.ownBlock] at hk)
end Ev
namespace Ev
open Go.RowKit Go.Deep
theorem qu {P:Program} {ops:Array Oper} {o:Oper} {a:Act} {w:World} {K:Act->World->Prop} {Q:Exit->Act->World->Prop} {E:Prop}
  (hgd:o.guard=none) (s x:Operand) (t:TypeId) (aN:o.op=Op.call { callee:=Callee.builtin Builtin.append,args:=#[s,x],argTypes:=#[t,t] })
  (e:TypeId) (i:TypeInfo) (h1:P.underlying t=some (.slice e)) (h2:P.info? e=some i) (g n cap:Nat) (cur:Array Value) (hg:w.heap[g]? = some (.cells cur e (0,0))) (hs:a.eval s=.slice (some ⟨g,0,none⟩) n cap)
  (ad:Addr) (m c:Nat) (news:List Value) (hx:a.eval x=.slice (some ad) m c) (hn:news.length=m*i.size) (hc:∀ j u,news[j]? = some u->w.cell? (ad.add j)=some u) (h1c:∀ u∈news,u.oneCell'=true)
  (oI:n+m<=cap) (hfit:n*i.size+news.length<=cur.size)
  (hK:K (a.put o.dst (.slice (some ⟨g,0,none⟩) (n+m) cap)) (w.setRow g (cur.toList.take (n*i.size)++news++cur.toList.drop (n*i.size+news.length)).toArray)) :
  if Region.wanted o (yielded ops a.tmps)=true then Oper.wp P o a w K Q else E:=by
 have hw:Region.wanted o (yielded ops a.tmps)=true:=by simp [Region.wanted,hgd]
 rw [if_pos hw]
 have dQ:=run_append_room (P:=P) w t o.type e i h1 h2 g n cap cur hg ad m c news hn hc h1c oI hfit
 unfold Oper.wp
 simp [execOp,aN,resolve,invoke,builtin,hs,hx,dQ,Result.andThen]
 rw [List.append_assoc] at hK
 exact hK
def rU (k:Nat):List Value:=(Builtin.zeroCells #[.int .i64 0,.int .i64 0,.slice none 0 0,.slice none 0 0] k).toList
theorem uh (k:Nat):(rU k).length=k*4:=by simp [rU,Builtin.zeroCells]
theorem zerosE_one (k:Nat):∀ u∈rU k,u.oneCell'=true:=by
 intro u hu
 simp only [rU,Builtin.zeroCells,Array.toList_map,List.mem_map,Array.mem_toList_iff,Array.mem_range] at hu
 obtain ⟨i,_,rfl⟩:=hu
 have h4:i % 4=0\/i % 4=1\/i % 4=2\/i % 4=3:=by omega
 have e:(#[Value.int .i64 0,.int .i64 0,.slice none 0 0,.slice none 0 0]:Array Value).size=4:=rfl
 rw [e]
 rcases h4 with h | h | h | h<;>rw [h]<;>rfl
theorem clear_events (W:World) (ty:TypeId) (g o k c:Nat) (hk:k≠0) (cur:Array Value) (hg:W.heap[g]? = some (.cells cur 159 (0,0))) (hfit:o+k*4<=cur.size) :
  (Builtin.clear_ #[146] ty #[.slice (some ⟨g,o,none⟩) k c]).run Tryz.prog W=.ok (.tuple #[]) (W.setRow g (cur.toList.take o++rU k++cur.toList.drop (o+k*4)).toArray):=by
 have h1:=run_storeCells_at (P:=Tryz.prog) g o 159 (rU k) 0 cur W hg (by rw [uh];omega) (zerosE_one k)
 rw [uh,Nat.add_zero] at h1
 obtain ⟨k,rfl⟩:∃ m,k=m+1:=⟨k-1,by omega⟩
 have h2:(Value.agg #[.int .i64 0,.int .i64 0,.slice none 0 0,.slice none 0 0]).cells=#[.int .i64 0,.int .i64 0,.slice none 0 0,.slice none 0 0]:=rfl
 have hu:∀ w:World,(underlying 146).run Tryz.prog w=.ok (.slice 159) w:=fun w=>by
  have:=Tryz.underlying146
  simp [underlying,this]
 unfold rU at h1
 simp [Builtin.clear_,hu,h2,h1]
 rfl
theorem flatE_len (C:List bx):(dk C).length=C.length*4:=by
 induction C with
 | nil=>rfl
 | cons c C ih =>
  have:dk (c::C)=bf c++dk C:=rfl
  rw [this,List.length_append,ih]
  show 4+C.length*4=(C.length+1)*4
  omega
theorem flatE_drop (C:List bx):∀ k,dk (C.drop k)=(dk C).drop (k*4):=by
 induction C with
 | nil=>intro k;simp [dk]
 | cons c C ih =>
  intro k
  cases k with
  | zero=>simp
  | succ k =>
   have e:dk (c::C)=bf c++dk C:=rfl
   rw [List.drop_succ_cons,ih k,e,List.drop_append]
   have h1:(bf c).length=4:=rfl
   rw [h1]
   have h2:(k+1)*4-4=k*4:=by omega
   rw [h2,List.drop_of_length_le (l:=bf c) (by rw [h1];omega),List.nil_append]
set_option maxRecDepth 100000 in
set_option maxHeartbeats 8000000 in
theorem tC (g cap k:Nat) (C:List bx) (w:World) (hE:bY w (.slice (some ⟨g,0,none⟩) C.length cap) C) (hk0:0<k) (hkn:k<=C.length) (hn:C.length<=1000) :
  Calls Tryz.prog 130 #[.slice (some ⟨g,0,none⟩) C.length cap,.int .i64 0,.int .i64 (k:Int)] w fun e w'=>e=.returned (.slice (some ⟨g,0,none⟩) (C.length-k) cap)/\bY w' (.slice (some ⟨g,0,none⟩) (C.length-k) cap) (C.drop k)/\Only g w w':=by
 obtain ⟨h0,⟨h1,_⟩ | ⟨g',mq,cur,e1,_,hg,hnc,sa,ng,rE⟩⟩:=hE
 ·cases h1
 cases e1
 obtain ⟨i0,hi,lr,iU,lu⟩:=info_parts oM
 obtain ⟨news,rD⟩:∃ news,news=dk (C.drop k):=⟨_,rfl⟩
 have hlen:news.length=(C.length-k)*4:=by rw [rD,flatE_len,List.length_drop]
 have hcmx:cap<=9223372036854775807:=Nat.le_trans sa (by decide)
 have fD:∀ t u,news[t]? = some u->w.cell? ⟨g,k*4+t,none⟩=some u:=by
  intro t u hu
  have ht:t<(C.length-k)*4:=by have:=(List.getElem?_eq_some_iff.1 hu).1;rwa [hlen] at this
  refine ae hg ?_
  rw [rD,flatE_drop,List.getElem?_drop,<- rE,List.getElem?_take] at hu
  rw [if_pos (by omega)] at hu
  simpa using hu
 obtain ⟨A,hA,hsrc⟩:∃ A:Addr,(if cap=k then some (⟨g,0,none⟩:Addr) else some ⟨g,k*4,none⟩)=some A/\Hid (∀ t u,news[t]? = some u->w.drew.cell? (A.add t)=some u):=by
  by_cases h:cap=k
  ·refine ⟨⟨g,0,none⟩,by simp [h],fun t u hu=>?_⟩
   have h0:news.length=0:=by rw [hlen];omega
   rw [List.length_eq_zero_iff.1 h0] at hu
   simp at hu
  ·refine ⟨⟨g,k*4,none⟩,by simp [h],fun t u hu=>?_⟩
   rw [Addr.add_lit]
   exact fD t u hu
 obtain ⟨W1,o_⟩:∃ W1,W1=w.drew.setRow g (cur.toList.take (0*i0.size)++news++cur.toList.drop (0*i0.size+news.length)).toArray:=⟨_,rfl⟩
 have hone:∀ u∈news,u.oneCell'=true:=by
  intro u hu
  rw [rD] at hu
  obtain ⟨c,hc,hu⟩:=List.mem_flatten.1 hu
  obtain ⟨e,_,rfl⟩:=List.mem_map.1 hc
  exact evOne e u hu
 have hg1:W1.heap[g]? = some (.cells (news++cur.toList.drop news.length).toArray 159 (0,0)):=by
  rw [o_,Nat.zero_mul,List.take_zero,List.nil_append,Nat.zero_add]
  exact setRow_heap w.drew g cur _ _ (0,0) hg
 have hsz1:(news++cur.toList.drop news.length).toArray.size=cap*4:=by
  simp only [List.size_toArray,List.length_append,List.length_drop,Array.length_toList,hlen,ng]
  omega
 have om:=fun ty=>clear_events W1 ty g ((C.length-k)*4) k (cap-(C.length-k)) (by omega) _ hg1 (by rw [hsz1];omega)
 have bH:∀ w2,w2=W1.setRow g ((news++cur.toList.drop news.length).toArray.toList.take ((C.length-k)*4)++rU k++(news++cur.toList.drop news.length).toArray.toList.drop ((C.length-k)*4+k*4)).toArray->bY w2 (.slice (some ⟨g,0,none⟩) (C.length-k) cap) (C.drop k)/\Only g w w2:=by
  rintro w2 rfl
  refine ⟨⟨?_,.inr ⟨g,cap,_,?_,Nat.zero_le _,setRow_heap _ g _ _ _ _ hg1,?_,sa,?_,?_⟩⟩,?_⟩
  ·rw [flatE_len]
  ·rw [List.length_drop]
  ·rw [List.length_drop];omega
  ·simp only [List.size_toArray,List.length_append,List.length_take,List.length_drop,uh,Array.length_toList,hlen,ng]
   omega
  ·rw [<- rD,List.length_drop,<- hlen]
   simp
  ·refine ⟨by rw [o_];rfl,by rw [o_];rfl,by rw [o_];rfl,by rw [o_];simp,fun b hb hne=>?_⟩
   rw [setRow_other _ _ _ _ hne,o_,setRow_other _ _ _ _ hne]
   rfl
 have s1:news.length=(C.length-k)*i0.size:=by rw [iU];exact hlen
 have s2:0*i0.size+news.length<=cur.size:=by rw [ng];omega
 have hW:Hid (W1=w.drew.setRow g (cur.toList.take (0*i0.size)++news++cur.toList.drop (0*i0.size+news.length)).toArray):=o_
 replace bH:Hid _:=bH
 replace s1:Hid _:=s1
 replace s2:Hid _:=s2
 replace hone:Hid _:=hone
 have oq:Hid (w.drew.heap[g]? = some (.cells cur 159 (0,0))):=hg
 have hkc:k<=cap:=by omega
 clear fD rD hlen hg1 hsz1 h0 rE hg o_ ng sa
 generalize C.length=n at *
 go_enter Tryz.func130,Tryz.ntmps130
 go_wp2_with fail
 go_region_law (refine qu rfl (.tmp 22) (.tmp 25) 146 rfl 159 i0 Tryz.underlying146 hi g 0 cap cur oq.out (by simp [Act.eval,Act.put]) A (n-k) (cap-k) news (by simp [Act.eval,Act.put]) s1.out hsrc.out hone.out (by omega) s2.out ?_;rw [<- hW.out])
 have hnk:n-(n-k)=k:=by omega
 go_wp2
 go_ret
 exact ⟨rfl,bH.out _ (by rw [List.append_assoc])⟩
end Ev
namespace Ev
open Go.RowKit Go.Deep Go.Maps Lf
set_option maxRecDepth 100000 in
set_option maxHeartbeats 4000000 in
theorem settle_many (aj pb cap:Nat) (rt rm nv ev:Value) (po:Option Addr) (pn pc:Nat) (arr:Array Value) (ps:List bC) (X:Nat->BT aO) (w:World)
  (hw:w.heap[aj]? = some (.cells #[rt,rm,nv,ev,.slice po pn pc] 153 (0,0))) (hp:w.heap[pb]? = some (.cells arr 183 (0,0))) (hP:b5 arr 0 ps) (hn:ps.length<=1000) (cW:ps.length<=cap)
  (hS:∀ (j:Nat) (p:bC),ps[j]? = some p->aC 143 0 w (X j) (.pointer p.bV)/\Good (X j)/\aV (ak (X j))<=1000000) (hK:40<(dN X ps.length).length) (hKb:(dN X ps.length).length<=1000000000) :
  Calls Tryz.prog 98 #[.pointer (some ⟨aj,0,none⟩),.slice (some ⟨pb,0,none⟩) ps.length cap] w fun e w'=>∃ tb k,e=.returned (.iface 132 (.pointer (some ⟨tb,0,none⟩)))/\w.heap.size<=tb/\w'.heap[tb]? = some (.cells #[.int .i64 k] 245 (0,0))/\aY (fun b=>b=pb) w w':=by
 have hne:aj≠pb:=by rintro rfl;rw [hw] at hp;cases hp
 have hwl:=aw hw
 have hpl:=aw hp
 have Hp:Hid (w.heap[pb]? = some (.cells arr 183 (0,0))/\b5 arr 0 ps):=⟨hp,hP⟩
 have Hw:Hid (w.heap[aj]? = some (.cells #[rt,rm,nv,ev,.slice po pn pc] 153 (0,0))):=hw
 have HS:Hid (∀ (j:Nat) (p:bC),ps[j]? = some p->aC 143 0 w (X j) (.pointer p.bV)/\Good (X j)/\aV (ak (X j))<=1000000):=hS
 have HK:Hid ((dN X ps.length).length<=1000000000):=hKb
 have HK2:Hid (40<(dN X ps.length).length):=hK
 clear hp hP hw hS hK hKb
 generalize hlen:ps.length=n at *
 have Hlen:Hid (ps.length=n):=hlen
 clear hlen
 go_enter Tryz.func98,Tryz.ntmps98
 go_wp2_with fail
 go_loopw [10] (fun iv wr=>∃ (i:Nat),iv=.int .i64 i/\i<=n/\sC w.heap.size w.heap.size wr (dN X i)/\aY (fun b=>b=pb) w wr/\w.heap.size<wr.heap.size/\∃ gV,wr.heap[pb]? = some (.cells gV 183 (0,0))/\iX X gV ps i) (fun iv _=>n-(intOf iv).toNat)
 case atStart =>
  exact ⟨0,rfl,Nat.zero_le _,sC.new _ w (Nat.le_refl _),aY.aL ((Below.refl _ _).al _),by simp,arr,(Below.heap_alloc _ _ _ hpl).trans Hp.out.1,iX.start Hp.out.2⟩
 case round =>
  obtain ⟨i,rfl,tP,hT,kT,oK,gV,um,hPT⟩:=hrel
  by_cases hi:i<n
  ·obtain ⟨p,hpi⟩:∃ p,ps[i]? = some p:=⟨_,List.getElem?_eq_getElem (by rw [Hlen.out];exact hi)⟩
   obtain ⟨a0,a1,_,a3,a4⟩:=hPT i p hpi
   obtain ⟨s1,s2,s3⟩:=HS.out i p hpi
   have s1':aC 143 0 wr (X i) (.pointer p.bV):=cU (fun k cs hk=>by
    rw [kT.block k (aw hk) (by rintro rfl;rw [Hp.out.1] at hk;cases hk)];exact hk) s1
   have c1:wr.cell? ⟨pb,i*5+1,none⟩=some (.pointer p.bV):=ae um a1
   have a_:=KAt_mono X i (n-i)
   have cB:i+(n-i)=n:=by omega
   rw [cB] at a_
   have hKn:=HK.out
   have tQ:=putTop0 (X i) (.pointer p.bV) w.heap.size w.heap.size (dN X i) wr s1' s2 hT (by omega)
   obtain ⟨a2,e2⟩:∃ v,gV[i*5+2]? = some v:=⟨_,Array.getElem?_eq_getElem (by have:=(Array.getElem?_eq_some_iff.1 a3).1;omega)⟩
   have hset:=hPT.set (by rw [Hlen.out];exact hi)
   have hnn:=mQ X i
   have hput2:Calls Tryz.prog 43 #[.pointer (some ⟨w.heap.size,0,none⟩),.pointer p.bV] wr fun e w'=>e=.returned (.int .i64 (nAt X i))/\sC w.heap.size w.heap.size w' (dN X (i+1))/\Below w.heap.size wr w':=tQ
   clear tQ s1 s1' s2 s3 a0 a1 a3 a4 hT a_ cB hKn
   have Hs:Hid (iX X (gV.setIfInBounds (i*5+2) (.int .i64 (nAt X i))) ps (i+1)):=hset
   clear hset hPT
   generalize nAt X i=nd at *
   go_wp2_with fail
   refine hput2.mono ?_
   rintro e w1 ⟨rfl,hT1,a_⟩
   have hpb1:w1.heap[pb]? = some (.cells gV 183 (0,0)):=(a_.block pb hpl).trans um
   have hf:w1.frozen? ⟨pb,i*5+2,none⟩=false:=Lib.frozen_of_heap hpb1 _
   have c2:w1.cell? ⟨pb,i*5+2,none⟩=some a2:=ae hpb1 e2
   clear hput2
   go_wp2_with fail
   go_roundw
   case rel =>
    have ho:Only pb w1 (w1.setCell ⟨pb,i*5+2,none⟩ (.int .i64 nd)):=(Only.refl pb w1).setCell (p:=⟨pb,i*5+2,none⟩) (.inl rfl) _
    refine ⟨i+1,by go_num,by omega,?_,?_,?_,_,b7 hpb1,Hs.out⟩
    ·rcases hT1 with ⟨t1,t2,t3⟩ | ⟨mb,nv1,t2⟩
     ·exact .inl ⟨ho.heap t1 (by omega),t2,t3⟩
     ·refine .inr ⟨mb,nv1,t2.heap (fun k hk hf=>ho.block k hk ?_)⟩
      exact fun e=>hf (e▸t2.free hpb1 (by decide) (by decide))
    ·have hsp1:aY (fun b=>b=pb) w w1:=⟨a_.os.trans kT.os,a_.tape.trans kT.tape,a_.output.trans kT.output,Nat.le_trans kT.size a_.size,fun x hx hp=>(a_.block x hx).trans (kT.block x hx hp)⟩
     exact hsp1.trans (aY.kg ho fun x hx=>hx)
    ·have:=a_.size;have:=ho.size;omega
   case measure=>simp only [intOf];omega
  ·obtain rfl:i=n:=by omega
   have hC:=count_any w.heap.size w.heap.size (dN X i) wr hT
   have hKn:40<((dN X i).length:Int):=by have:=HK2.out;omega
   have HT:Hid (aY (fun b=>b=pb) w wr/\w.heap.size<wr.heap.size):=⟨kT,oK⟩
   clear hT kT um hPT oK
   go_wp2_with fail
   refine hC.mono ?_
   rintro e w1 ⟨rfl,rfl⟩
   clear hC
   generalize (dN X i).length=kl at *
   go_wp2_with fail
   go_ret
   obtain ⟨h1,h2⟩:=HT.out
   exact ⟨_,_,rfl,Nat.le_of_lt h2,aB _ _ _ rfl,h1.trans (aY.aL ((Below.refl _ _).al _))⟩
end Ev
end Go.Proofs.YtpbbmagjhkakgaaGreatDoor
