import Derived.Test.YtpbbmagjhkakgaaGreatDoorLfTreeToLfWalk
import Derived.Conc.CompanyMem
import Derived.Conc.Beside
import Derived.Conc.CrowdTrace
import Derived.Conc.CrowdComm
namespace Go.Proofs.YtpbbmagjhkakgaaGreatDoor.Lf
open Go Go.Conc
variable {P : Program} {main : Bool} {R : (Nat → Prop) → World → World → Prop} {D : (Nat → Prop) → World → World → Array Event → Prop}
def grow (S:Nat->Prop) (w w':World):Nat->Prop:=fun b=>S b\/(w.heap.size<=b/\b<w'.heap.size)
theorem grow_same (S:Nat->Prop) {w w':World} (h:w'.heap.size=w.heap.size):grow S w w'=S:=by
 funext b
 exact propext ⟨fun h'=>h'.elim id fun x=>absurd x.2 (by omega),.inl⟩
@[simp] theorem grow_self (S:Nat->Prop) (w:World):grow S w w=S:=grow_same S rfl
structure TermsG (R:(Nat->Prop)->World->World->Prop) (D:(Nat->Prop)->World->World->Array Event->Prop):Prop where
 trans:∀ S a b c,R S a b->R S b c->R S a c
 idle:∀ S w,D S w w #[]
 draw:∀ S w,D S w { w with drawn:=w.drawn+1 } #[]
inductive RT (P:Program) (main:Bool) (R:(Nat->Prop)->World->World->Prop) (D:(Nat->Prop)->World->World->Array Event->Prop) (Stop:(Nat->Prop)->Goroutine->World->Prop):(Nat->Prop)->Goroutine->World->Prop
 | stop {S:Nat->Prop} {g:Goroutine} {w:World}:(∀ w₁,R S w w₁->Stop S g w₁)->RT P main R D Stop S g w
 | step {S:Nat->Prop} {g:Goroutine} {w:World} (f:World->Goroutine×World×Array Event):g.status=.running->(∀ w₁,R S w w₁->stepG P main g w₁=.go (f w₁).1 (f w₁).2.1 (f w₁).2.2/\D S w₁ (f w₁).2.1 (f w₁).2.2)->
   (∀ w₁,R S w w₁->RT P main R D Stop (grow S w₁ (f w₁).2.1) (f w₁).1 (f w₁).2.1)->RT P main R D Stop S g w
theorem RT.one {Stop:(Nat->Prop)->Goroutine->World->Prop} {S:Nat->Prop} {g:Goroutine} {w:World} (hs:g.status=.running) (h:∀ w₁,R S w w₁->(stepG P main g w₁).goes fun g' w' es=>D S w₁ w' es/\RT P main R D Stop (grow S w₁ w') g' w'):RT P main R D Stop S g w:=by
 have key:∀ w₁,R S w w₁->∃ x:Goroutine×World×Array Event,stepG P main g w₁=.go x.1 x.2.1 x.2.2/\D S w₁ x.2.1 x.2.2/\RT P main R D Stop (grow S w₁ x.2.1) x.1 x.2.1:=by
  intro w₁ h₁
  have:=h w₁ h₁
  revert this
  cases hx:stepG P main g w₁<;>simp only [GStep.goes,false_imp_iff]
  rename_i g' w' es
  exact fun ⟨d,r⟩=>⟨(g',w',es),rfl,d,r⟩
 have key':∀ w₁,∃ x:Goroutine×World×Array Event,R S w w₁->stepG P main g w₁=.go x.1 x.2.1 x.2.2/\D S w₁ x.2.1 x.2.2/\RT P main R D Stop (grow S w₁ x.2.1) x.1 x.2.1:=by
  intro w₁
  by_cases hr:R S w w₁
  ·obtain ⟨x,hx⟩:=key w₁ hr;exact ⟨x,fun _=>hx⟩
  ·exact ⟨(g,w,#[]),fun h=>absurd h hr⟩
 refine .step (fun w₁=>Classical.choose (key' w₁)) hs (fun w₁ h₁=>?_) (fun w₁ h₁=>?_)
 ·exact ⟨(Classical.choose_spec (key' w₁) h₁).1,(Classical.choose_spec (key' w₁) h₁).2.1⟩
 ·exact (Classical.choose_spec (key' w₁) h₁).2.2
theorem RT.rely (T:TermsG R D) {Stop:(Nat->Prop)->Goroutine->World->Prop} {S:Nat->Prop} {g:Goroutine} {w w₁:World} (h:RT P main R D Stop S g w) (hr:R S w w₁):RT P main R D Stop S g w₁:=by
 cases h with
 | stop h=>exact .stop fun w₂ h₂=>h w₂ (T.trans _ _ _ _ hr h₂)
 | step f hs h h'=>exact .step f hs (fun w₂ h₂=>h w₂ (T.trans _ _ _ _ hr h₂)) (fun w₂ h₂=>h' w₂ (T.trans _ _ _ _ hr h₂))
section
variable {Stop : (Nat → Prop) → Goroutine → World → Prop} {S : Nat → Prop} {b : Frame} {a : Act} {k : List Item} {cs : List Frame} {w : World}
theorem RT.skip (T:TermsG R D) (h:RT P main R D Stop S (G (b.at a k) cs) w):RT P main R D Stop S (G (b.at a (.code .skip::k)) cs) w:=.one rfl fun w₁ h₁=>by rw [stepG_skip];rw [goes_go,grow_self];exact ⟨T.idle _ _,h.rely T h₁⟩
theorem RT.seq (T:TermsG R D) {x y:Code} (h:RT P main R D Stop S (G (b.at a (.code x::.code y::k)) cs) w):RT P main R D Stop S (G (b.at a (.code (.seq x y)::k)) cs) w:=.one rfl fun w₁ h₁=>by rw [stepG_seq];rw [goes_go,grow_self];exact ⟨T.idle _ _,h.rely T h₁⟩
theorem RT.cond (T:TermsG R D) {c:Operand} {x y:Code} (t:Bool) (hc:a.eval c=.bool t) (h:RT P main R D Stop S (G (b.at a (.code (if t then x else y)::k)) cs) w):RT P main R D Stop S (G (b.at a (.code (.cond c x y)::k)) cs) w:=.one rfl fun w₁ h₁=>by rw [stepG_cond hc];rw [goes_go,grow_self];exact ⟨T.idle _ _,h.rely T h₁⟩
theorem RT.block (T:TermsG R D) {id:Nat} {c:Code} (h:RT P main R D Stop S (G (b.at a (.code c::.inBlock id::k)) cs) w):RT P main R D Stop S (G (b.at a (.code (.block id c)::k)) cs) w:=.one rfl fun w₁ h₁=>by rw [stepG_block];rw [goes_go,grow_self];exact ⟨T.idle _ _,h.rely T h₁⟩
theorem RT.inBlock (T:TermsG R D) {id:Nat} (h:RT P main R D Stop S (G (b.at a k) cs) w):RT P main R D Stop S (G (b.at a (.inBlock id::k)) cs) w:=.one rfl fun w₁ h₁=>by rw [stepG_inBlock];rw [goes_go,grow_self];exact ⟨T.idle _ _,h.rely T h₁⟩
theorem RT.loop (T:TermsG R D) {c:Code} (h:RT P main R D Stop S (G (b.at a (.code c::.inLoop c::k)) cs) w):RT P main R D Stop S (G (b.at a (.code (.loop c)::k)) cs) w:=.one rfl fun w₁ h₁=>by rw [stepG_loop];rw [goes_go,grow_self];exact ⟨T.idle _ _,h.rely T h₁⟩
theorem RT.inLoop (T:TermsG R D) {c:Code} (h:RT P main R D Stop S (G (b.at a (.code c::.inLoop c::k)) cs) w):RT P main R D Stop S (G (b.at a (.inLoop c::k)) cs) w:=.one rfl fun w₁ h₁=>by rw [stepG_inLoop];rw [goes_go,grow_self];exact ⟨T.idle _ _,h.rely T h₁⟩
theorem RT.exit (T:TermsG R D) {id:Nat} {k':List Item} (hk:exitTo id k=some k') (h:RT P main R D Stop S (G (b.at a k') cs) w):RT P main R D Stop S (G (b.at a (.code (.exit id)::k)) cs) w:=.one rfl fun w₁ h₁=>by rw [stepG_exit hk];rw [goes_go,grow_self];exact ⟨T.idle _ _,h.rely T h₁⟩
theorem RT.ret (T:TermsG R D) (h:RT P main R D Stop S (G { b.at a (.code .ret::k) with mode:=.returning } cs) w):RT P main R D Stop S (G (b.at a (.code .ret::k)) cs) w:=.one rfl fun w₁ h₁=>by rw [stepG_ret'];rw [goes_go,grow_self];exact ⟨T.idle _ _,h.rely T h₁⟩
theorem RT.ends (T:TermsG R D) (h:RT P main R D Stop S (G { b.at a [] with mode:=.returning } cs) w):RT P main R D Stop S (G (b.at a []) cs) w:=.one rfl fun w₁ h₁=>by rw [stepG_end];rw [goes_go,grow_self];exact ⟨T.idle _ _,h.rely T h₁⟩
theorem RT.region (T:TermsG R D) {id:Nat} {ops:Array Oper} (h:RT P main R D Stop S (G (b.at a (.inRegion ops (List.range ops.size)::k)) cs) w):RT P main R D Stop S (G (b.at a (.code (.region id ops false)::k)) cs) w:=.one rfl fun w₁ h₁=>by rw [stepG_region];rw [goes_go,grow_self];exact ⟨T.idle _ _,h.rely T h₁⟩
theorem RT.nil (T:TermsG R D) {ops:Array Oper} (h:RT P main R D Stop S (G (b.at a k) cs) w):RT P main R D Stop S (G (b.at a (.inRegion ops []::k)) cs) w:=.one rfl fun w₁ h₁=>by rw [stepG_region_end];rw [goes_go,grow_self];exact ⟨T.idle _ _,h.rely T h₁⟩
theorem RT.draw (T:TermsG R D) {id:Nat} {ops:Array Oper} (h:∀ w₁,R S w w₁->∀ t,RT P main R D Stop S (G (b.at a (.inRegion ops (Region.schedule (P.follows .mixedOrders) ops t)::k)) cs) { w₁ with drawn:=w₁.drawn+1 }):RT P main R D Stop S (G (b.at a (.code (.region id ops true)::k)) cs) w:=.one rfl fun w₁ h₁=>by rw [stepG_region_draw];rw [goes_go,grow_same S (w:=w₁) (w':={ w₁ with drawn:=w₁.drawn+1 }) rfl];exact ⟨T.draw _ _,h w₁ h₁ _⟩
theorem RT.op {ops:Array Oper} {i:Nat} {rest:List Nat} {o:Oper} (ho:ops[i]? = some o) (hw:Region.wanted o (yielded ops a.tmps)=true) (hk:b.kind≠.early)
  (h:∀ w₁,R S w w₁->∀ K:Act->World->Prop,(∀ a' w',D S w₁ w' (listed P b.fn a o w₁)/\RT P main R D Stop (grow S w₁ w') (G (b.at a' (.inRegion ops rest::k)) cs) w'->K a' w')->uponK o a K ((execOp a.eval o).run P w₁)) :
  RT P main R D Stop S (G (b.at a (.inRegion ops (i::rest)::k)) cs) w:=by
 refine .one rfl fun w₁ h₁=>goes_oper ho hw hk ?_
 have:=h w₁ h₁ _ (fun _ _ x=>x)
 revert this
 cases (execOp a.eval o).run P w₁ with
 | ok x w'=>cases x<;>first | exact fun ⟨d,g⟩=>⟨d,g⟩ | exact id
 | halt _ _=>exact id
def RCalls (P:Program) (main:Bool) (R:(Nat->Prop)->World->World->Prop) (D:(Nat->Prop)->World->World->Array Event->Prop) (f:FuncId) (args:Array Value) (S:Nat->Prop) (w:World) (Post:Value->(Nat->Prop)->World->Prop):Prop :=
 ∀ (Stop:(Nat->Prop)->Goroutine->World->Prop) (c:Frame) (cs:List Frame),(∀ v S' w',Post v S' w'->RT P main R D Stop S' (G (c.finish v) cs) w')->RT P main R D Stop S (G (Frame.enter P f args .normal) (c::cs)) w
theorem RCalls.mono {f:FuncId} {args:Array Value} {S:Nat->Prop} {w:World} {Post Post':Value->(Nat->Prop)->World->Prop} (h:RCalls P main R D f args S w Post) (hp:∀ v S w,Post v S w->Post' v S w):RCalls P main R D f args S w Post' :=
 fun Stop c cs hk=>h Stop c cs fun v S' w' x=>hk v S' w' (hp v S' w' x)
theorem RT.call (T:TermsG R D) {ops:Array Oper} {i:Nat} {rest:List Nat} {o:Oper} {f:FuncId} {fn:Func} {args:Array Operand} {ats:Array TypeId} {Post:Value->(Nat->Prop)->World->Prop} (ho:ops[i]? = some o) (hw:Region.wanted o (yielded ops a.tmps)=true) (hk:b.kind≠.early) (hop:o.op=.call { callee:=.value (.func f),args,argTypes:=ats })
  (hf:P.funcs[f]? = some fn) (hname:(fn.name== "runtime.NumGoroutine")=false) (hb:fn.body.isNone=false)
  (hcall:∀ w₁,R S w w₁->RCalls P main R D f (args.map a.eval) S w₁ Post) (hnext:∀ v S' w',Post v S' w'->RT P main R D Stop S' (G (b.at (a.put o.dst v) (.inRegion ops rest::k)) cs) w') :
  RT P main R D Stop S (G (b.at a (.inRegion ops (i::rest)::k)) cs) w:=by
 have hfin:∀ v,(b.at a (.inRegion ops (i::rest)::k)).finish v=b.at (a.put o.dst v) (.inRegion ops rest::k):=fun v=>by rw [Frame.finish_at,ho];rfl
 refine .one rfl fun w₁ h₁=>?_
 have hl:listed P b.fn a o w₁=#[]:=by unfold listed;rw [events_call_body hop hf hname hb];exact seen_none P _
 rw [stepG_enter ho hw hk (run_call_body hop hf hname hb),hl]
 refine ⟨T.idle _ _,by rw [grow_self];exact hcall w₁ h₁ Stop _ cs fun v S' w' x=>by rw [hfin];exact hnext v S' w' x⟩
theorem stepG_leaveE {fn:Func} {todo:List Item} {c:Frame} {v:Value} (hn:b.kind=.normal) (hd:a.defers=[]) (hf:P.funcs[b.fn]? = some fn) (hr:(results fn a.tmps).run P w=.ok v w) :
  stepG P main (G { b.at a todo with mode:=.returning } (c::cs)) w=.go (G (c.finish v) cs) w (seen P b.fn ((results fn a.tmps).events P w #[])):=by
 simp [G,stepG,unwind,doReturn,Frame.at,hn,hd,hf,hr,GStep.after]
theorem RT.leave (T:TermsG R D) {fn:Func} {todo:List Item} {c:Frame} {v:Value} (hn:b.kind=.normal) (hd:a.defers=[]) (hf:P.funcs[b.fn]? = some fn) (hr:∀ w₁,R S w w₁->(results fn a.tmps).run P w₁=.ok v w₁/\D S w₁ w₁ (seen P b.fn ((results fn a.tmps).events P w₁ #[])))
  (h:RT P main R D Stop S (G (c.finish v) cs) w):RT P main R D Stop S (G { b.at a todo with mode:=.returning } (c::cs)) w :=
 .one rfl fun w₁ h₁=>by rw [stepG_leaveE hn hd hf (hr w₁ h₁).1];rw [goes_go,grow_self];exact ⟨(hr w₁ h₁).2,h.rely T h₁⟩
end
end Go.Proofs.YtpbbmagjhkakgaaGreatDoor.Lf
namespace Go.Proofs.YtpbbmagjhkakgaaGreatDoor.Lf
open Go Go.Conc
structure TI (hc:Prop) (κ B:Nat) (CA CB:Touch->Prop) (t:Trace):Prop where
 clean:∀ said,¬ Race said t
 zero:∀ i a,touchAt t i=some a->a.loc.isMemory=true->Knows t 0 i\/(t.g? i=some κ/\CB a)
 child:∀ i a,touchAt t i=some a->a.loc.isMemory=true->Knows t κ i\/CA a
 over:∀ i g,t.g? i=some g->g≠0->g≠κ->t.counts i->∃ j,t.g? j=some 0/\HappensBefore t i j
 hears:Deaf t 0=0
 hearsC:hc->Deaf t κ=0
 seen:∀ op∈t,op.act.low B
def ApartT (CA CB:Touch->Prop):Prop:=∀ a b said,CA a->CB b->¬ a.conflicts said b/\¬ b.conflicts said a
section
variable {hc : Prop} {κ B : Nat} {CA CB : Touch → Prop} {t u : Trace}
theorem TI.mono {B':Nat} {CA' CB':Touch->Prop} (h:TI hc κ B CA CB t) (hB:B<=B') (h1:∀ a,CA a->CA' a) (h2:∀ a,CB a->CB' a):TI hc κ B' CA' CB' t :=
 ⟨h.clean,fun i a x y=>(h.zero i a x y).imp id fun z=>⟨z.1,h2 _ z.2⟩,fun i a x y=>(h.child i a x y).imp id (h1 _),h.over,h.hears,h.hearsC,fun op hop=>MemAct.low_mono hB (h.seen op hop)⟩
theorem over_app {t u:Trace} {κ:Nat} (h:∀ i g,t.g? i=some g->g≠0->g≠κ->t.counts i->∃ j,t.g? j=some 0/\HappensBefore t i j) (hu:∀ op∈u,op.g=0\/op.g=κ\/op.act.touch? = none) :
  ∀ i g,(t++u).g? i=some g->g≠0->g≠κ->(t++u).counts i->∃ j,(t++u).g? j=some 0/\HappensBefore (t++u) i j:=by
 intro i g hg hne hk hc
 obtain ⟨x,hx,_⟩:=hc
 obtain ⟨op,hop,hox⟩:=touch_of hx
 rcases getElem?_append_cases hop with ⟨hi,hop'⟩ | ⟨_,hopu⟩
 ·obtain ⟨j,hj,hb⟩:=h i g (by simpa [Trace.g?,getElem?_append_old hi] using hg) hne hk ((counts_old hi).1 ⟨x,hx,‹_›⟩)
  have hjl:j<t.size:=by
   unfold Trace.g? at hj
   obtain ⟨z,hz,_⟩:=Option.map_eq_some_iff.1 hj
   exact lt_size_of_getElem? hz
  exact ⟨j,by simpa [Trace.g?,getElem?_append_old hjl] using hj,hb_app u hb⟩
 ·have hgo:op.g=g:=by simpa [Trace.g?,hop] using hg
  rcases hu op hopu with h0 | h0 | h0
  ·exact absurd (hgo.symm.trans h0) hne
  ·exact absurd (hgo.symm.trans h0) hk
  ·rw [h0] at hox;cases hox
theorem g?_lt {t:Trace} {i g:Nat} (h:t.g? i=some g):i<t.size:=by
 unfold Trace.g? at h
 obtain ⟨z,hz,_⟩:=Option.map_eq_some_iff.1 h
 exact lt_size_of_getElem? hz
theorem g?_app {t u:Trace} {i g:Nat} (h:t.g? i=some g):(t++u).g? i=some g:=by rw [g?_old (g?_lt h)];exact h
theorem TI.weak (h:TI hc κ B CA CB t):TI False κ B CA CB t:=⟨h.clean,h.zero,h.child,h.over,h.hears,fun x=>x.elim,h.seen⟩
theorem TI.app0 (hκ:κ≠0) (hA:ApartT CA CB) (h:TI hc κ B CA CB t) (hu:∀ op∈u,op.g=0) (hcl:∀ op∈u,∀ b,op.act.touch? = some b->b.loc.isMemory=true->CA b) (hd:Deaf (t++u) 0=0) (hl:∀ op∈u,op.act.low B):TI hc κ B CA CB (t++u):=by
 refine ⟨fun said=>noRace_append (h.clean said) hu fun i a ha op hop b hb hcf=>?_,fun i a ha hm=>?_,fun i a ha hm=>?_,over_app h.over fun op hop=>.inl (hu op hop),hd,fun x=>(Deaf_other t (Ne.symm hκ) u hu).trans (h.hearsC x),seen_app h.seen hl⟩
 ·rcases h.zero i a ha hcf.2.1 with hk | ⟨_,hb'⟩
  ·exact hk
  ·exact absurd hcf (hA b a said (hcl op hop b hb (hcf.1▸hcf.2.1)) hb').2
 ·obtain ⟨x,hx,hxa⟩:=touch_of ha
  rcases getElem?_append_cases hx with ⟨_,hx'⟩ | ⟨_,hxu⟩
  ·exact (h.zero i a (by rw [touchAt_of hx'];exact hxa) hm).imp (·.app u) fun z=>⟨g?_app z.1,z.2⟩
  ·have:=knows_own hx
   rw [hu x hxu] at this
   exact .inl this
 ·obtain ⟨x,hx,hxa⟩:=touch_of ha
  rcases getElem?_append_cases hx with ⟨_,hx'⟩ | ⟨_,hxu⟩
  ·exact (h.child i a (by rw [touchAt_of hx'];exact hxa) hm).imp (·.app u) id
  ·exact .inr (hcl x hxu a hxa hm)
theorem TI.appC (hκ:κ≠0) (hA:ApartT CA CB) (h:TI hc κ B CA CB t) (hu:∀ op∈u,op.g=κ) (hcl:∀ op∈u,∀ b,op.act.touch? = some b->b.loc.isMemory=true->CB b) (hd:hc->Deaf (t++u) κ=0) (hl:∀ op∈u,op.act.low B):TI hc κ B CA CB (t++u):=by
 refine ⟨fun said=>noRace_append (h.clean said) hu fun i a ha op hop b hb hcf=>?_,fun i a ha hm=>?_,fun i a ha hm=>?_,over_app h.over fun op hop=>.inr (.inl (hu op hop)),(Deaf_other t hκ u hu).trans h.hears,hd,seen_app h.seen hl⟩
 ·rcases h.child i a ha hcf.2.1 with hk | ha'
  ·exact hk
  ·exact absurd hcf (hA a b said ha' (hcl op hop b hb (hcf.1▸hcf.2.1))).1
 ·obtain ⟨x,hx,hxa⟩:=touch_of ha
  rcases getElem?_append_cases hx with ⟨_,hx'⟩ | ⟨_,hxu⟩
  ·exact (h.zero i a (by rw [touchAt_of hx'];exact hxa) hm).imp (·.app u) fun z=>⟨g?_app z.1,z.2⟩
  ·exact .inr ⟨by simp [Trace.g?,hx,hu x hxu],hcl x hxu a hxa hm⟩
 ·obtain ⟨x,hx,hxa⟩:=touch_of ha
  rcases getElem?_append_cases hx with ⟨_,hx'⟩ | ⟨_,hxu⟩
  ·exact (h.child i a (by rw [touchAt_of hx'];exact hxa) hm).imp (·.app u) id
  ·have:=knows_own hx
   rw [hu x hxu] at this
   exact .inl this
theorem TI.appMute (h:TI hc κ B CA CB t) (hn:∀ op∈u,op.act.touch? = none) (hd0:Deaf (t++u) 0=0) (hdκ:hc->Deaf (t++u) κ=0) (hl:∀ op∈u,op.act.low B):TI hc κ B CA CB (t++u):=by
 refine ⟨fun said=>?_,fun i a ha hm=>?_,fun i a ha hm=>?_,over_app h.over fun op hop=>.inr (.inr (hn op hop)),hd0,hdκ,seen_app h.seen hl⟩
 ·rintro ⟨i,j,hij,⟨a,b,ha,hb,hc⟩,n1,n2⟩
  obtain ⟨x,hx,hxa⟩:=touch_of ha
  obtain ⟨y,hy,hyb⟩:=touch_of hb
  rcases getElem?_append_cases hy with ⟨hj,hy'⟩ | ⟨_,hyu⟩
  ·have hi:i<t.size:=Nat.lt_trans hij hj
   have hx':t[i]? = some x:=by rw [<- getElem?_append_old (u:=u) hi];exact hx
   exact h.clean said ⟨i,j,hij,⟨a,b,by simp [Trace.act?,hx',hxa],by simp [Trace.act?,hy',hyb],hc⟩,fun e=>n1 (hb_app u e),fun e=>n2 (hb_app u e)⟩
  ·rw [hn y hyu] at hyb;cases hyb
 ·obtain ⟨x,hx,hxa⟩:=touch_of ha
  rcases getElem?_append_cases hx with ⟨_,hx'⟩ | ⟨_,hxu⟩
  ·exact (h.zero i a (by rw [touchAt_of hx'];exact hxa) hm).imp (·.app u) fun z=>⟨g?_app z.1,z.2⟩
  ·rw [hn x hxu] at hxa;cases hxa
 ·obtain ⟨x,hx,hxa⟩:=touch_of ha
  rcases getElem?_append_cases hx with ⟨_,hx'⟩ | ⟨_,hxu⟩
  ·exact (h.child i a (by rw [touchAt_of hx'];exact hxa) hm).imp (·.app u) id
  ·rw [hn x hxu] at hxa;cases hxa
theorem TI.fork (h:Past (fun _=>False) B t) (hk:Deaf t κ=0) {x y:MemOp} (hx:x.g=0/\x.act=.go κ) (hy:y.g=κ/\y.act=.start):TI hc κ B CA CB (t++#[x,y]):=by
 have hn:∀ op∈(#[x,y]:Trace),op.act.touch? = none:=by
  intro op hop
  simp at hop
  rcases hop with rfl | rfl
  ·rw [hx.2];rfl
  ·rw [hy.2];rfl
 have hd:∀ g,Deaf t g=0->Deaf (t++#[x,y]) g=0:=by
  intro g hg
  have e:(t++#[x,y]:Trace)=t++[x,y].toArray:=rfl
  rw [e,Deaf_append]
  simp [deafStep,hx.2,hy.2,hg]
 have base:TI hc κ B (fun _=>True) CB t:=⟨h.clean,fun i a ha hm=>.inl ((h.known i a ha hm).resolve_right fun z=>z.1.elim),fun _ _ _ _=>.inr trivial,fun i g h1 h2 _ h4=>h.over i g h1 h2 h4,h.hears,fun _=>hk,h.seen⟩
 have h2:=base.appMute hn (hd 0 h.hears) (fun _=>hd κ hk) (fun op hop=>by
  simp at hop
  rcases hop with rfl | rfl
  ·rw [hx.2];trivial
  ·rw [hy.2];trivial)
 refine ⟨h2.clean,h2.zero,fun i a ha hm=>?_,h2.over,h2.hears,h2.hearsC,h2.seen⟩
 obtain ⟨z,hz,hza⟩:=touch_of ha
 rcases getElem?_append_cases hz with ⟨_,hz'⟩ | ⟨_,hzu⟩
 ·exact .inl (Go.ConcN.fork_knows hx hy h.hears hk ((h.known i a (by rw [touchAt_of hz'];exact hza) hm).resolve_right fun z=>z.1.elim))
 ·rw [hn z hzu] at hza;cases hza
def Shut (κ c:Nat) (t:Trace):Prop:=∃ pc,t.act? pc=some (.close c)/\t.g? pc=some κ/\t.heard pc/\∀ i a,touchAt t i=some a->t.g? i=some κ->i<pc
theorem Shut.app {c:Nat} (h:Shut κ c t) (hu:∀ op∈u,op.g=κ->op.act.touch? = none):Shut κ c (t++u):=by
 obtain ⟨pc,h1,h2,h3,h4⟩:=h
 have hlt:=g?_lt h2
 refine ⟨pc,by rw [act?_old hlt];exact h1,g?_app h2,(heard_old hlt).2 h3,fun i a ha hg=>?_⟩
 obtain ⟨x,hx,hxa⟩:=touch_of ha
 rcases getElem?_append_cases hx with ⟨hi,hx'⟩ | ⟨_,hxu⟩
 ·exact h4 i a (by rw [touchAt_of hx'];exact hxa) (by rw [g?_old hi] at hg;exact hg)
 ·have:x.g=κ:=by simpa [Trace.g?,hx] using hg
  rw [hu x hxu this] at hxa;cases hxa
theorem TI.join (hκ:κ≠0) {c:Nat} (h:TI hc κ B CA CB t) (hs:Shut κ c t) {y:MemOp} (hy:y.g=0/\y.act=.recvClosed c) (hB:c<B):Past (fun _=>False) B (t++#[y]):=by
 have hlast:(t++#[y])[t.size]? = some y:=by rw [Array.getElem?_append_right (Nat.le_refl _)];simp
 have hd:∀ g,Deaf t g=0->Deaf (t++#[y]) g=0:=by
  intro g hg
  rw [Deaf_push]
  simp [deafStep,hy.2,hg]
 have hn:∀ op∈(#[y]:Trace),op.act.touch? = none:=by
  intro op hop
  simp at hop
  subst hop
  rw [hy.2];rfl
 have h2:=h.appMute hn (hd 0 h.hears) (fun x=>hd κ (h.hearsC x)) (fun op hop=>by simp at hop;subst hop;rw [hy.2];exact hB)
 obtain ⟨pc,s1,s2,s3,s4⟩:=hs
 have hlt:=g?_lt s2
 have edge:HappensBefore (t++#[y]) pc t.size:=.single (.inr ⟨.closed (c:=c) (by rw [act?_old hlt];exact s1) (by rw [act?_of hlast,hy.2]),(heard_old hlt).2 s3,⟨0,by simp [Trace.g?,hy.1],by rw [deaf_old (Nat.le_refl _)];exact h.hears⟩⟩)
 have from_child:∀ i a,touchAt (t++#[y]) i=some a->(t++#[y]).g? i=some κ->HappensBefore (t++#[y]) i t.size:=by
  intro i a ha hg
  obtain ⟨x,hx,hxa⟩:=touch_of ha
  rcases getElem?_append_cases hx with ⟨hi,hx'⟩ | ⟨_,hxu⟩
  ·have hip:=s4 i a (by rw [touchAt_of hx'];exact hxa) (by rw [g?_old hi] at hg;exact hg)
   obtain ⟨z,hz,hzg⟩:=Option.map_eq_some_iff.1 (show (t[pc]?).map (·.g)=some κ from s2)
   have hxg:x.g=κ:=by unfold Trace.g? at hg;rw [hx] at hg;exact Option.some.inj hg
   exact (hb_po hip hx (by rw [getElem?_append_old hlt];exact hz) (hxg.trans hzg.symm)).trans edge
  ·rw [hn x hxu] at hxa;cases hxa
 refine ⟨h2.clean,fun i a ha hm=>?_,fun i g hg hne hc=>?_,h2.hears,h2.seen⟩
 ·rcases h2.zero i a ha hm with hk | ⟨hg,_⟩
  ·exact .inl hk
  ·exact .inl ⟨t.size,y,hlast,hy.1,.inr (from_child i a ha hg)⟩
 ·by_cases hgk:g=κ
  ·subst hgk
   obtain ⟨x,hx,_⟩:=hc
   exact ⟨t.size,by simp [Trace.g?,hy.1],from_child i x hx hg⟩
  ·exact h2.over i g hg hne hgk hc
end
end Go.Proofs.YtpbbmagjhkakgaaGreatDoor.Lf
namespace Go.Proofs.YtpbbmagjhkakgaaGreatDoor.Lf
open Go Go.Conc
open Go.ConcN (sumTo upd sumTo_upd upd_ne upd_same)
variable {P : Program}
theorem Deaf_off (t:Trace) {g:Nat} (u:Trace) (hu:∀ op∈u,op.g≠g):Deaf (t++u) g=Deaf t g:=by
 have key:∀ (l:List MemOp) (d:Nat),(∀ op∈l,op.g≠g)->l.foldl (deafStep g) d=d:=by
  intro l
  induction l with
  | nil=>intro d _;rfl
  | cons y l ih =>
   intro d h
   have hy:y.g≠g:=h y (by simp)
   have:deafStep g d y=d:=by
    unfold deafStep
    split<;>simp_all
   rw [List.foldl_cons,this]
   exact ih d fun op hop=>h op (by simp [hop])
 have e:(t++u:Trace)=t++u.toList.toArray:=by simp
 rw [e,Deaf_append]
 exact key _ _ fun op hop=>hu op (by simpa using hop)
structure LeavX (P:Program) (skip:Nat->Prop) (t:Trace) (gs:Array Goroutine) (q:Nat->Nat):Prop where
 old:∀ i g,0<i->¬ skip i->gs[i]? = some g->QuitsD P (q i) (Deaf t i) g
 above:∀ j,gs.size<=j->Deaf t j=0
theorem LeavX.of {t:Trace} {gs:Array Goroutine} {q:Nat->Nat} (h:Leavers P t gs q) (skip:Nat->Prop):LeavX P skip t gs q:=⟨fun i g h0 _ hg=>h.old i g h0 hg,h.above⟩
theorem LeavX.all {t:Trace} {gs:Array Goroutine} {q:Nat->Nat} (h:LeavX P (fun _=>False) t gs q):Leavers P t gs q:=⟨fun i g h0 hg=>h.old i g h0 (fun x=>x) hg,h.above⟩
theorem LeavX.turn {skip:Nat->Prop} {t u:Trace} {gs gs':Array Goroutine} {q:Nat->Nat} (h:LeavX P skip t gs q) (hs:gs'.size=gs.size) (hg:∀ i x,0<i->¬ skip i->gs'[i]? = some x->gs[i]? = some x) (hu:∀ op∈u,(op.g=0\/skip op.g)/\op.g<gs.size):LeavX P skip (t++u) gs' q:=by
 refine ⟨fun i x h0 hk hx=>?_,fun j hj=>?_⟩
 ·rw [Deaf_off t u fun op hop e=>?_]
  ·exact h.old i x h0 hk (hg i x h0 hk hx)
  ·rcases (hu op hop).1 with h1 | h1
   ·omega
   ·exact hk (e▸h1)
 ·rw [Deaf_off t u fun op hop e=>?_]
  ·exact h.above j (by omega)
  ·have:=(hu op hop).2;omega
theorem slip {skip:Nat->Prop} {gs:Array Goroutine} {t:Trace} {q:Nat->Nat} {w:World} {sl:Option (Nat×Nat)} {i:Nat} {x:Goroutine} (hL:LeavX P skip t gs q) (hi:gs[i]? = some x) (hx:x.status=.running) (hpos:0<i) (hsk:¬ skip i) :
  ∃ (gs':Array Goroutine) (u:Trace) (q':Nat->Nat),runT P (crowd gs w sl) i=(.next (crowd gs' w sl),u)/\gs'.size=gs.size/\sumTo gs.size q'<sumTo gs.size q/\LeavX P skip (t++u) gs' q'/\
   (∀ op∈u,op.g=i/\op.act.touch? = none/\∀ B,op.act.low B)/\∀ j y,(j=0\/skip j)->gs[j]? = some y->(∀ a a',woken P a a' w y=y)->gs'[j]? = some y:=by
 have hq:=hL.old i x hpos hsk hi
 have hi0:(i==0)=false:=by simp;omega
 have hlt:i<gs.size:=(Array.getElem?_eq_some_iff.1 hi).1
 cases hqi:q i with
 | zero=>rw [hqi] at hq;rw [hq.1] at hx;cases hx
 | succ k =>
  rw [hqi] at hq
  rcases hq with ⟨hfin,_⟩ | ⟨_,x',es,hm,hstp,hq'⟩
  ·rw [hfin] at hx;cases hx
  have hrunT:=runT_crowd_go (P:=P) (w:=w) (sl:=sl) (i:=i) hi (by rw [hi0];exact hstp w)
  have hown:∀ op∈MemOp.ofEvents i x.frame.fn x.frame.place es,op.g=i:=fun op hop=>by obtain ⟨e,_,rfl⟩:=Go.Conc.mem_ofEvents hop;rfl
  refine ⟨(gs.map (woken P x x' w)).setIfInBounds i x',MemOp.ofEvents i x.frame.fn x.frame.place es,upd q i k,hrunT,by simp,?_,⟨fun j y hj hjs hy=>?_,fun j hj=>?_⟩,fun op hop=>?_,fun j y hj hy hw=>?_⟩
  ·have hsum:sumTo gs.size (upd q i k)+(k+1)=sumTo gs.size q+k:=by
    have:=sumTo_upd q k id hlt
    simpa [hqi] using this
   omega
  ·by_cases hji:i=j
   ·subst hji
    rw [Array.getElem?_setIfInBounds_self_of_lt (by simpa using hlt)] at hy
    obtain rfl:=Option.some.inj hy
    rw [upd_same,Deaf_own]
    exact hq'
   ·rw [Array.getElem?_setIfInBounds_ne hji,Array.getElem?_map] at hy
    obtain ⟨z,hz,rfl⟩:=Option.map_eq_some_iff.1 hy
    have hqj:=hL.old j z hj hjs hz
    rw [woken_quitsD hqj,upd_ne q k (Ne.symm hji),Deaf_off t _ (fun op hop e=>hji ((hown op hop).symm.trans e))]
    exact hqj
  ·rw [Deaf_off t _ (fun op hop e=>by have:=hown op hop;simp at hj;omega)]
   exact hL.above j (by simpa using hj)
  ·obtain ⟨e,he,rfl⟩:=Go.Conc.mem_ofEvents hop
   exact ⟨rfl,touch_mute (hm e he),low_mute (hm e he)⟩
  ·have hne:i≠j:=by
    rintro rfl
    rcases hj with h | h
    ·omega
    ·exact hsk h
   rw [Array.getElem?_setIfInBounds_ne hne,Array.getElem?_map,hy]
   simp [hw]
def EvK (C:Touch->Prop) (e:Event):Prop:=(∀ x,(MemAct.ofEvent e).touch? = some x->x.loc.isMemory=true->C x)/\e.loc≠.mark .disable/\e.loc≠.mark .enable
structure Apt (B:Nat) (S T:Nat->Prop) (w:World):Prop where
 s:∀ b,S b->B<=b/\b<w.heap.size
 t:∀ b,T b->B<=b/\b<w.heap.size
 st:∀ b,S b->¬ T b
 low:B<=w.heap.size
theorem Apt.same {B:Nat} {S T:Nat->Prop} {w w':World} (h:Apt B S T w) (e:w'.heap.size=w.heap.size):Apt B S T w':=⟨fun b x=>by rw [e];exact h.s b x,fun b x=>by rw [e];exact h.t b x,h.st,by rw [e];exact h.low⟩
theorem Apt.grow0 {B:Nat} {S T:Nat->Prop} {w w':World} (h:Apt B S T w) (e:w.heap.size<=w'.heap.size):Apt B (grow S w w') T w' :=
 ⟨fun b x=>by
  rcases x with x | x
  ·have:=h.s b x;omega
  ·have:=h.low;omega,fun b x=>by have:=h.t b x;omega,fun b x y=>by
  rcases x with x | x
  ·exact h.st b x y
  ·have:=h.t b y;omega,by have:=h.low;omega⟩
theorem Apt.growC {B:Nat} {S T:Nat->Prop} {w w':World} (h:Apt B S T w) (e:w.heap.size<=w'.heap.size):Apt B S (grow T w w') w' :=
 ⟨fun b x=>by have:=h.s b x;omega,fun b x=>by
  rcases x with x | x
  ·have:=h.t b x;omega
  ·have:=h.low;omega,fun b x y=>by
  rcases y with y | y
  ·exact h.st b x y
  ·have:=h.s b x;omega,by have:=h.low;omega⟩
structure Pair (c B:Nat) (R0:(Nat->Prop)->World->World->Prop) (D0:(Nat->Prop)->World->World->Array Event->Prop) (RB:(Nat->Prop)->World->World->Prop) (DB:(Nat->Prop)->World->World->Array Event->Prop) (CA CB:(Nat->Prop)->Touch->Prop):Prop where
 t0:TermsG R0 D0
 tB:TermsG RB DB
 refl0:∀ S w,R0 S w w
 reflB:∀ S w,RB S w w
 at0:∀ S (w:World) (d:Nat),R0 S w (w.at d)
 atB:∀ S (w:World) (d:Nat),RB S w (w.at d)
 put0:∀ S (w:World) n buf cl s r tm,R0 S w (w.setChan c n buf cl s r tm)
 putB:∀ S (w:World) n buf cl s r tm,RB S w (w.setChan c n buf cl s r tm)
 d0:∀ S T w w' es,Apt B S T w->D0 S w w' es->RB T w w'/\w'.heap[c]? = w.heap[c]?/\(∀ e∈es,EvK (CA (grow S w w')) e)/\w.heap.size<=w'.heap.size
 dB:∀ S T w w' es,Apt B S T w->DB T w w' es->R0 S w w'/\w'.heap[c]? = w.heap[c]?/\(∀ e∈es,EvK (CB (grow T w w')) e)/\w.heap.size<=w'.heap.size
 mono:∀ S S',(∀ b,S b->S' b)->(∀ a,CA S a->CA S' a)/\(∀ a,CB S a->CB S' a)
 apart:∀ S T w,Apt B S T w->ApartT (CA S) (CB T)
theorem grow_sub (S:Nat->Prop) (w w':World):∀ b,S b->grow S w w' b:=fun _ h=>.inl h
theorem setChan_size (w:World) (c n:Nat) (buf:Array Value) (cl:Bool) (s r:Nat) (tm:Bool):(w.setChan c n buf cl s r tm).heap.size=w.heap.size:=by simp [World.setChan]
section
theorem ops_own {C:Touch->Prop} {g:Nat} {fn:FuncId} {pos:String} {es:Array Event} (h:∀ e∈es,EvK C e):(∀ op∈MemOp.ofEvents g fn pos es,op.g=g)/\(∀ op∈MemOp.ofEvents g fn pos es,∀ b,op.act.touch? = some b->b.loc.isMemory=true->C b)/\∀ t:Trace,Deaf (t++MemOp.ofEvents g fn pos es) g=Deaf t g :=
 ⟨fun op hop=>by obtain ⟨e,_,rfl⟩:=Go.Conc.mem_ofEvents hop;rfl,fun op hop b hb hm=>by obtain ⟨e,he,rfl⟩:=Go.Conc.mem_ofEvents hop;exact (h e he).1 b hb hm,fun t=>by rw [Deaf_own];exact deafBehind_still (fun e he=>(h e he).2) _⟩
theorem TI.evs0 {hc:Prop} {κ B:Nat} {A C:Touch->Prop} {t:Trace} (hκ:κ≠0) (hA:ApartT A C) (h:TI hc κ B A C t) {fn:FuncId} {pos:String} {es:Array Event} (hes:∀ e∈es,EvK A e):∃ B',B<=B'/\TI hc κ B' A C (t++MemOp.ofEvents 0 fn pos es):=by
 obtain ⟨h1,h2,h3⟩:=ops_own (g:=0) (fn:=fn) (pos:=pos) hes
 obtain ⟨B',hb,hl⟩:=low_all (MemOp.ofEvents 0 fn pos es) B
 exact ⟨B',hb,(h.mono hb (fun _ x=>x) (fun _ x=>x)).app0 hκ hA h1 h2 ((h3 t).trans h.hears) hl⟩
theorem TI.evsC {hc:Prop} {κ B:Nat} {A C:Touch->Prop} {t:Trace} (hκ:κ≠0) (hA:ApartT A C) (h:TI hc κ B A C t) {fn:FuncId} {pos:String} {es:Array Event} (hes:∀ e∈es,EvK C e):∃ B',B<=B'/\TI hc κ B' A C (t++MemOp.ofEvents κ fn pos es):=by
 obtain ⟨h1,h2,h3⟩:=ops_own (g:=κ) (fn:=fn) (pos:=pos) hes
 obtain ⟨B',hb,hl⟩:=low_all (MemOp.ofEvents κ fn pos es) B
 exact ⟨B',hb,(h.mono hb (fun _ x=>x) (fun _ x=>x)).appC hκ hA h1 h2 (fun x=>(h3 t).trans (h.hearsC x)) hl⟩
theorem TI.still {hc:Prop} {κ B:Nat} {A C:Touch->Prop} {t u:Trace} (h:TI hc κ B A C t) (hn:∀ op∈u,op.act.touch? = none) (hd:∀ op∈u,(op.g≠0\/(op.act≠.mark .disable/\op.act≠.mark .enable))/\(op.g≠κ\/(op.act≠.mark .disable/\op.act≠.mark .enable)\/¬ hc)):∃ B',B<=B'/\TI hc κ B' A C (t++u):=by
 have still:∀ g,(∀ op∈u,op.g≠g\/(op.act≠.mark .disable/\op.act≠.mark .enable))->Deaf (t++u) g=Deaf t g:=by
  intro g hg
  have key:∀ (l:List MemOp) (d:Nat),(∀ op∈l,op.g≠g\/(op.act≠.mark .disable/\op.act≠.mark .enable))->l.foldl (deafStep g) d=d:=by
   intro l
   induction l with
   | nil=>intro d _;rfl
   | cons y l ih =>
    intro d h
    have hy:=h y (by simp)
    have:deafStep g d y=d:=by
     unfold deafStep
     split<;>simp_all
    rw [List.foldl_cons,this]
    exact ih d fun op hop=>h op (by simp [hop])
  have e:(t++u:Trace)=t++u.toList.toArray:=by simp
  rw [e,Deaf_append]
  exact key _ _ fun op hop=>hg op (by simpa using hop)
 obtain ⟨B',hb,hl⟩:=low_all u B
 refine ⟨B',hb,(h.mono hb (fun _ x=>x) (fun _ x=>x)).appMute hn ((still 0 fun op hop=>(hd op hop).1).trans h.hears) (fun x=>(still κ fun op hop=>?_).trans (h.hearsC x)) hl⟩
 rcases (hd op hop).2 with y | y | y
 ·exact .inl y
 ·exact .inr y
 ·exact absurd x y
end
end Go.Proofs.YtpbbmagjhkakgaaGreatDoor.Lf
namespace Go.Proofs.YtpbbmagjhkakgaaGreatDoor.Lf
open Go Go.Conc
open Go.ConcN (sumTo upd sumTo_upd upd_ne upd_same)
variable {P : Program}
section
variable (P : Program) (c : Nat) (z : Value) (R0 : (Nat → Prop) → World → World → Prop) (D0 : (Nat → Prop) → World → World → Array Event → Prop) (RB : (Nat → Prop) → World → World → Prop) (DB : (Nat → Prop) → World → World → Array Event → Prop) (CA CB : (Nat → Prop) → Touch → Prop) (n : Nat)
def AtR (S:Nat->Prop) (g:Goroutine) (w:World):Prop:=∀ w₁,R0 S w w₁->∃ es,stepG P true g w₁=.comm g #[rcase c z] true (.recv true) w₁ es/\∀ e∈es,EvK (CA S) e
inductive SA (K:Goroutine->World->Prop):List Value->(Nat->Prop)->Goroutine->World->Prop
 | own {L:List Value} {S:Nat->Prop} {g:Goroutine} {w:World} (f:World->Goroutine×World×Array Event):g.status=.running->(∀ w₁,R0 S w w₁->stepG P true g w₁=.go (f w₁).1 (f w₁).2.1 (f w₁).2.2/\D0 S w₁ (f w₁).2.1 (f w₁).2.2)->(∀ w₁,R0 S w w₁->SA K L (grow S w₁ (f w₁).2.1) (f w₁).1 (f w₁).2.1)->SA K L S g w
 | recv {v:Value} {L:List Value} {S:Nat->Prop} {g:Goroutine} {w:World}:g.status=.running->AtR P c z R0 CA S g w->(∀ w₁,R0 S w w₁->SA K L S (Go.Conc.served g (recvd true v true)) w₁)->SA K (v::L) S g w
 | fin {S:Nat->Prop} {g:Goroutine} {w:World}:g.status=.running->AtR P c z R0 CA S g w->(∀ w₁,R0 S w w₁->K (Go.Conc.served g (recvd true z false)) w₁)->SA K [] S g w
inductive SB:List Value->(Nat->Prop)->Goroutine->World->Prop
 | own {L:List Value} {T:Nat->Prop} {g:Goroutine} {w:World} (f:World->Goroutine×World×Array Event):g.status=.running->(∀ w₁,RB T w w₁->stepG P false g w₁=.go (f w₁).1 (f w₁).2.1 (f w₁).2.2/\DB T w₁ (f w₁).2.1 (f w₁).2.2)->(∀ w₁,RB T w w₁->SB L (grow T w₁ (f w₁).2.1) (f w₁).1 (f w₁).2.1)->SB L T g w
 | send {v y:Value} {L:List Value} {T:Nat->Prop} {g:Goroutine} {w:World}:g.status=.running->(∀ w₁,RB T w w₁->∃ es,stepG P false g w₁=.comm g #[scase c v y] true .send w₁ es/\∀ e∈es,EvK (CB T) e)->(∀ w₁,RB T w w₁->SB L T (Go.Conc.served g undef) w₁)->SB (v::L) T g w
 | close {T:Nat->Prop} {g g':Goroutine} {w:World} {q:Nat}:g.status=.running->mayWake P g=true->(∀ w₁ buf s r,RB T w w₁->w₁.heap[c]? = some (.chan n buf false s r false)->∃ es:Array Event,stepG P false g w₁=.go g' (w₁.setChan c n buf true s r false) (es.push ⟨.obj c,true,true⟩)/\∀ e∈es,EvK (CB T) e)->QuitsD P q 0 g'->SB [] T g w
end
section
variable {c : Nat} {z : Value} {B₀ : Nat} {R0 : (Nat → Prop) → World → World → Prop} {D0 : (Nat → Prop) → World → World → Array Event → Prop} {RB : (Nat → Prop) → World → World → Prop} {DB : (Nat → Prop) → World → World → Array Event → Prop} {CA CB : (Nat → Prop) → Touch → Prop} {n : Nat} {K : Goroutine → World → Prop}
theorem SA.running {L:List Value} {S:Nat->Prop} {g:Goroutine} {w:World} (h:SA P c z R0 D0 CA K L S g w):g.status=.running:=by cases h<;>assumption
theorem SA.rely (H:Pair c B₀ R0 D0 RB DB CA CB) {L:List Value} {S:Nat->Prop} {g:Goroutine} {w w':World} (h:SA P c z R0 D0 CA K L S g w) (hr:R0 S w w'):SA P c z R0 D0 CA K L S g w':=by
 cases h with
 | own f h1 h2 h3=>exact .own f h1 (fun w₁ h₁=>h2 w₁ (H.t0.trans _ _ _ _ hr h₁)) (fun w₁ h₁=>h3 w₁ (H.t0.trans _ _ _ _ hr h₁))
 | recv h1 h2 h3=>exact .recv h1 (fun w₁ h₁=>h2 w₁ (H.t0.trans _ _ _ _ hr h₁)) (fun w₁ h₁=>h3 w₁ (H.t0.trans _ _ _ _ hr h₁))
 | fin h1 h2 h3=>exact .fin h1 (fun w₁ h₁=>h2 w₁ (H.t0.trans _ _ _ _ hr h₁)) (fun w₁ h₁=>h3 w₁ (H.t0.trans _ _ _ _ hr h₁))
structure LooksAs (x g:Goroutine):Prop where
 status:x.status=.running
 frame:x.frame=g.frame
 callers:x.callers=g.callers
 dying:x.dying=g.dying
theorem LooksAs.step {x g:Goroutine} (h:LooksAs x g) (main:Bool) (w:World):stepG P main x w=stepG P main g w:=stepG_same h.frame h.callers h.dying w
theorem LooksAs.self {g:Goroutine} (h:g.status=.running):LooksAs g g:=⟨h,rfl,rfl,rfl⟩
def Ends0 (P:Program) (K:Goroutine->World->Prop) (m:Machine) (t:Trace):Prop:=∃ N gs' g' w' sl' t',runNT P N m t=(.next (crowd gs' w' sl'),t')/\Fr P gs' t' g'/\K g' w'
theorem Ends0.step {m m':Machine} {t:Trace} {u:Trace} (h:stepT P m=(.next m',u)) (h':Ends0 P K m' (t++u)):Ends0 P K m t:=by
 obtain ⟨N,gs',g',w',sl',t',h1,h2⟩:=h'
 exact ⟨N+1,gs',g',w',sl',t',by simp only [runNT,h];exact h1,h2⟩
theorem no_partners {gs:Array Goroutine} {i r:Nat} {send:Bool} (h:∀ (j:Nat) (g:Goroutine),j≠i->gs[j]? = some g->g.status≠.blocked):partners (gs.setIfInBounds i ph) r send=[]:=by
 refine partners_nil fun j g hg=>?_
 rcases getElem?_stand gs i j g hg with ⟨_,rfl⟩ | ⟨hne,hg'⟩
 ·exact offersAt_ph r send
 ·exact offersAt_of_not_blocked (h j g hne hg') r send
theorem setChan_same {w:World} {c cap s r cap' s' r':Nat} {buf buf':Array Value} {cl cl' tm tm':Bool} (h:w.heap[c]? = some (.chan cap' buf' cl' s' r' tm')):(w.setChan c cap buf cl s r tm).heap[c]? = some (.chan cap buf cl s r tm):=heap_put h
theorem take_head {buf:Array Value} {v:Value} {L:List Value} (hl:v::L=buf.toList):0<buf.size/\buf.getD 0 undef=v/\(buf.extract 1 buf.size).toList=L:=by
 obtain ⟨l⟩:=buf
 simp only at hl
 subst hl
 simp [Array.getD_eq_getD_getElem?]
theorem phase_shut (H:Pair c B₀ R0 D0 RB DB CA CB) {κ:Nat} (hκ:κ≠0) {L:List Value} {S:Nat->Prop} {g:Goroutine} {w:World} (hA:SA P c z R0 D0 CA K L S g w) :
  ∀ (M:Nat) (T:Nat->Prop) (gs:Array Goroutine) (x:Goroutine) (w₂:World) (sl:Option (Nat×Nat)) (t:Trace) (q:Nat->Nat) (buf:Array Value) (s r:Nat),sumTo gs.size q<=M->Apt B₀ S T w₂->R0 S w w₂->LooksAs x g->gs[0]? = some x->κ<gs.size->
   LeavX P (fun _=>False) t gs q->(∃ B,TI False κ B (CA S) (CB T) t)->Shut κ c t->w₂.heap[c]? = some (.chan n buf true s r false)->L=buf.toList->Ends0 P K (crowd gs w₂ sl) t:=by
 induction hA with
 | @own L S g w f hs h1 h2 ih =>
  intro M
  induction M using Nat.strongRecOn with
  | _ M ihM =>
   intro T gs x w₂ sl t q buf s r hM hAp hR hx h0 hk hL hT hS hc hl
   have haw:∀ y∈gs,awake y:=by
    intro y hy
    obtain ⟨i,hi,rfl⟩:=Array.mem_iff_getElem.1 hy
    rcases Nat.eq_zero_or_pos i with rfl | hpos
    ·have:gs[0]=x:=by simpa [Array.getElem?_eq_getElem hi] using h0
     rw [this];exact awake_of (.inl hx.status)
    ·exact awake_of ((hL.old i _ hpos (fun x=>x) (Array.getElem?_eq_getElem hi)).status.elim .inl fun x=>.inr (.inr x))
   obtain ⟨i,y,d,sl',hi,hy,hst⟩:=crowd_pick (P:=P) (w:=w₂) (sl:=sl) haw ⟨0,x,h0,hx.status⟩
   have hR':=H.t0.trans _ _ _ _ hR (H.at0 _ w₂ d)
   obtain ⟨B,hT⟩:=hT
   have hT':=hT
   have hAp':Apt B₀ S T (w₂.at d):=hAp.same rfl
   rcases Nat.eq_zero_or_pos i with rfl | hpos
   ·obtain rfl:y=x:=by rw [h0] at hi;exact (Option.some.inj hi).symm
    obtain ⟨a1,a2⟩:=h1 _ hR'
    have hgo:=(hx.step (P:=P) true (w₂.at d)).trans a1
    obtain ⟨b1,b2,b3,b4⟩:=H.d0 _ _ _ _ _ hAp' a2
    have hrun:=runT_crowd_go (P:=P) (w:=w₂.at d) (sl:=sl') (i:=0) hi (show stepG P (0==0) y (w₂.at d)=_ from hgo)
    have hlt:0<gs.size:=(Array.getElem?_eq_some_iff.1 h0).1
    have hmn:=H.mono _ _ (grow_sub S (w₂.at d) (f (w₂.at d)).2.1)
    obtain ⟨B',_,hT2⟩:=(hT'.mono (Nat.le_refl B) hmn.1 (fun _ x=>x)).evs0 hκ (H.apart _ _ _ (hAp'.grow0 b4)) (fn:=y.frame.fn) (pos:=y.frame.place) b3
    refine Ends0.step (hst.trans hrun) (ih _ hR' _ T _ _ _ sl' _ q buf s r (Nat.le_refl _) (hAp'.grow0 b4) (H.refl0 _ _) (LooksAs.self (h2 _ hR').running) (by simp [hlt]) (by simpa using hk) ?_ ⟨B',hT2⟩ ?_ (b2.trans hc) hl)
    ·refine hL.turn (by simp) (fun j v hj _ hv=>?_) (fun op hop=>by obtain ⟨e,_,rfl⟩:=Go.Conc.mem_ofEvents hop;exact ⟨.inl rfl,hlt⟩)
     rw [Array.getElem?_setIfInBounds_ne (by omega),Array.getElem?_map] at hv
     obtain ⟨z',hz,rfl⟩:=Option.map_eq_some_iff.1 hv
     rw [woken_quitsD (hL.old j z' hj (fun x=>x) hz)]
     exact hz
    ·exact hS.app fun op hop e=>by obtain ⟨e',_,rfl⟩:=Go.Conc.mem_ofEvents hop;exact absurd e.symm hκ
   ·obtain ⟨gs',u,q',e1,e2,e3,e4,e5,e6⟩:=slip (w:=w₂.at d) (sl:=sl') hL hi hy hpos (fun x=>x)
    obtain ⟨B',_,hT2⟩:=hT'.still (fun op hop=>(e5 op hop).2.1) (fun op hop=>⟨.inl (by rw [(e5 op hop).1];omega),.inr (.inr (fun x=>x))⟩)
    exact Ends0.step (hst.trans e1) (ihM _ (Nat.lt_of_lt_of_le e3 hM) T gs' x _ sl' _ q' buf s r (by rw [e2];exact Nat.le_refl _) hAp' hR' hx (e6 0 x (.inl rfl) h0 fun a a'=>woken_running hx.status) (by rw [e2];exact hk) e4 ⟨B',hT2⟩ (hS.app fun op hop _=>(e5 op hop).2.1) hc hl)
 | @recv v L S g w hs h1 h2 ih =>
  intro M
  induction M using Nat.strongRecOn with
  | _ M ihM =>
   intro T gs x w₂ sl t q buf s r hM hAp hR hx h0 hk hL hT hS hc hl
   have haw:∀ y∈gs,awake y:=by
    intro y hy
    obtain ⟨i,hi,rfl⟩:=Array.mem_iff_getElem.1 hy
    rcases Nat.eq_zero_or_pos i with rfl | hpos
    ·have:gs[0]=x:=by simpa [Array.getElem?_eq_getElem hi] using h0
     rw [this];exact awake_of (.inl hx.status)
    ·exact awake_of ((hL.old i _ hpos (fun x=>x) (Array.getElem?_eq_getElem hi)).status.elim .inl fun x=>.inr (.inr x))
   obtain ⟨i,y,d,sl',hi,hy,hst⟩:=crowd_pick (P:=P) (w:=w₂) (sl:=sl) haw ⟨0,x,h0,hx.status⟩
   have hR':=H.t0.trans _ _ _ _ hR (H.at0 _ w₂ d)
   obtain ⟨B,hT⟩:=hT
   have hT':=hT
   have hAp':Apt B₀ S T (w₂.at d):=hAp.same rfl
   rcases Nat.eq_zero_or_pos i with rfl | hpos
   ·obtain rfl:y=x:=by rw [h0] at hi;exact (Option.some.inj hi).symm
    obtain ⟨es,a1,a2⟩:=h1 _ hR'
    have hcm:=(hx.step (P:=P) true (w₂.at d)).trans a1
    obtain ⟨hsz,hhd,htl⟩:=take_head hl
    have hlt:0<gs.size:=(Array.getElem?_eq_some_iff.1 h0).1
    have hrun:=crowd_recv_buf (P:=P) (gs:=gs) (w:=w₂.at d) (sl:=sl') (i:=0) hi (show stepG P (0==0) y (w₂.at d)=_ from hcm) (show (w₂.at d).heap[c]? = _ from hc) hsz
     (no_partners fun j g' hj hg'=>by have:=(hL.old j g' (by omega) (fun x=>x) hg').status;rcases this with e | e<;>rw [e]<;>simp)
    rw [finishComm_recv,hhd] at hrun
    have hput:=H.put0 S (w₂.at d) n (buf.extract 1 buf.size) true s (r+1) false
    obtain ⟨B',_,hT2⟩:=hT'.evs0 hκ (H.apart _ _ _ hAp') (fn:=y.frame.fn) (pos:=y.frame.place) a2
    obtain ⟨B'',_,hT3⟩:=hT2.still (u:=#[{ g:=0,fn:=g.frame.fn,pos:=g.frame.place,act:=.recv c r n },{ g:=0,fn:=g.frame.fn,pos:=g.frame.place,act:=.recvDone c r }]) (fun op hop=>by simp at hop;rcases hop with rfl | rfl<;>rfl) (fun op hop=>by simp at hop;rcases hop with rfl | rfl<;>simp)
    have hR3:=H.t0.trans _ _ _ _ hR' hput
    refine Ends0.step (hst.trans hrun) (ih _ hR3 _ T _ _ _ sl' _ q (buf.extract 1 buf.size) s (r+1) (Nat.le_refl _) (hAp'.same (setChan_size _ _ _ _ _ _ _ _)) (H.refl0 _ _) (LooksAs.self rfl) (by simp [hlt]) (by simpa using hk) ?_ ⟨B'',by rw [<- Array.append_assoc];exact hT3⟩ ?_ (setChan_same hc) htl.symm)
    ·refine hL.turn (by simp) (fun j v hj _ hv=>?_) (fun op hop=>?_)
     ·rw [Array.getElem?_setIfInBounds_ne (by omega)] at hv;exact hv
     ·rcases Array.mem_append.1 hop with hop | hop
      ·obtain ⟨e,_,rfl⟩:=Go.Conc.mem_ofEvents hop;exact ⟨.inl rfl,hlt⟩
      ·simp at hop;rcases hop with rfl | rfl<;>exact ⟨.inl rfl,hlt⟩
    ·refine hS.app fun op hop e=>?_
     rcases Array.mem_append.1 hop with hop | hop
     ·obtain ⟨e',_,rfl⟩:=Go.Conc.mem_ofEvents hop;exact absurd e.symm hκ
     ·simp at hop;rcases hop with rfl | rfl<;>rfl
   ·obtain ⟨gs',u,q',e1,e2,e3,e4,e5,e6⟩:=slip (w:=w₂.at d) (sl:=sl') hL hi hy hpos (fun x=>x)
    obtain ⟨B',_,hT2⟩:=hT'.still (fun op hop=>(e5 op hop).2.1) (fun op hop=>⟨.inl (by rw [(e5 op hop).1];omega),.inr (.inr (fun x=>x))⟩)
    exact Ends0.step (hst.trans e1) (ihM _ (Nat.lt_of_lt_of_le e3 hM) T gs' x _ sl' _ q' buf s r (by rw [e2];exact Nat.le_refl _) hAp' hR' hx (e6 0 x (.inl rfl) h0 fun a a'=>woken_running hx.status) (by rw [e2];exact hk) e4 ⟨B',hT2⟩ (hS.app fun op hop _=>(e5 op hop).2.1) hc hl)
 | @fin S g w hs h1 h2 =>
  intro M
  induction M using Nat.strongRecOn with
  | _ M ihM =>
   intro T gs x w₂ sl t q buf s r hM hAp hR hx h0 hk hL hT hS hc hl
   have haw:∀ y∈gs,awake y:=by
    intro y hy
    obtain ⟨i,hi,rfl⟩:=Array.mem_iff_getElem.1 hy
    rcases Nat.eq_zero_or_pos i with rfl | hpos
    ·have:gs[0]=x:=by simpa [Array.getElem?_eq_getElem hi] using h0
     rw [this];exact awake_of (.inl hx.status)
    ·exact awake_of ((hL.old i _ hpos (fun x=>x) (Array.getElem?_eq_getElem hi)).status.elim .inl fun x=>.inr (.inr x))
   obtain ⟨i,y,d,sl',hi,hy,hst⟩:=crowd_pick (P:=P) (w:=w₂) (sl:=sl) haw ⟨0,x,h0,hx.status⟩
   have hR':=H.t0.trans _ _ _ _ hR (H.at0 _ w₂ d)
   obtain ⟨B,hT⟩:=hT
   have hT':=hT
   have hAp':Apt B₀ S T (w₂.at d):=hAp.same rfl
   rcases Nat.eq_zero_or_pos i with rfl | hpos
   ·obtain rfl:y=x:=by rw [h0] at hi;exact (Option.some.inj hi).symm
    obtain ⟨es,a1,a2⟩:=h1 _ hR'
    have hcm:=(hx.step (P:=P) true (w₂.at d)).trans a1
    obtain rfl:buf=#[]:=by
     have:buf.toList=[]:=hl.symm
     simpa using this
    have hlt:0<gs.size:=(Array.getElem?_eq_some_iff.1 h0).1
    have hrun:=crowd_recv_closed (P:=P) (gs:=gs) (w:=w₂.at d) (sl:=sl') (i:=0) hi (show stepG P (0==0) y (w₂.at d)=_ from hcm) (show (w₂.at d).heap[c]? = _ from hc)
     (no_partners fun j g' hj hg'=>by have:=(hL.old j g' (by omega) (fun x=>x) hg').status;rcases this with e | e<;>rw [e]<;>simp)
    rw [finishComm_recv] at hrun
    obtain ⟨B',hb',hT2⟩:=hT'.evs0 hκ (H.apart _ _ _ hAp') (fn:=y.frame.fn) (pos:=y.frame.place) a2
    have hS2:Shut κ c (t++MemOp.ofEvents 0 y.frame.fn y.frame.place es):=hS.app fun op hop e=>by obtain ⟨e',_,rfl⟩:=Go.Conc.mem_ofEvents hop;exact absurd e.symm hκ
    have hP:=(hT2.mono (Nat.le_max_left B' (c+1)) (fun _ x=>x) (fun _ x=>x)).join hκ hS2 (y:={ g:=0,fn:=g.frame.fn,pos:=g.frame.place,act:=.recvClosed c }) ⟨rfl,rfl⟩ (Nat.lt_of_lt_of_le (Nat.lt_succ_self c) (Nat.le_max_right _ _))
    refine Ends0.step (hst.trans hrun) ⟨0,_,_,_,sl',_,rfl,⟨by simp [hlt],⟨q,?_⟩,⟨_,by rw [<- Array.append_assoc];exact hP⟩⟩,h2 _ hR'⟩
    refine (hL.turn (by simp) (fun j v hj _ hv=>?_) (fun op hop=>?_)).all
    ·rw [Array.getElem?_setIfInBounds_ne (by omega)] at hv;exact hv
    ·rcases Array.mem_append.1 hop with hop | hop
     ·obtain ⟨e,_,rfl⟩:=Go.Conc.mem_ofEvents hop;exact ⟨.inl rfl,hlt⟩
     ·simp at hop;rcases hop with rfl;exact ⟨.inl rfl,hlt⟩
   ·obtain ⟨gs',u,q',e1,e2,e3,e4,e5,e6⟩:=slip (w:=w₂.at d) (sl:=sl') hL hi hy hpos (fun x=>x)
    obtain ⟨B',_,hT2⟩:=hT'.still (fun op hop=>(e5 op hop).2.1) (fun op hop=>⟨.inl (by rw [(e5 op hop).1];omega),.inr (.inr (fun x=>x))⟩)
    exact Ends0.step (hst.trans e1) (ihM _ (Nat.lt_of_lt_of_le e3 hM) T gs' x _ sl' _ q' buf s r (by rw [e2];exact Nat.le_refl _) hAp' hR' hx (e6 0 x (.inl rfl) h0 fun a a'=>woken_running hx.status) (by rw [e2];exact hk) e4 ⟨B',hT2⟩ (hS.app fun op hop _=>(e5 op hop).2.1) hc hl)
end
end Go.Proofs.YtpbbmagjhkakgaaGreatDoor.Lf
