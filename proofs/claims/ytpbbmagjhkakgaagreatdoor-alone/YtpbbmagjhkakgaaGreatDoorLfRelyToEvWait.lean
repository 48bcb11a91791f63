import Derived.Test.YtpbbmagjhkakgaaGreatDoorLfExec
import Derived.Test.YtpbbmagjhkakgaaGreatDoorPureToLfTape
import Derived.Conc.CompanyMem
import Derived.Conc.Beside
import Derived.Conc.CrowdTrace
import Derived.Lone
import Derived.RunT
import Derived.Conc.CrowdComm
import Derived.Test.YtpbbmagjhkakgaaGreatDoorProg
namespace Go.Proofs.YtpbbmagjhkakgaaGreatDoor
namespace Lf
open Go Go.Conc
variable {P : Program} {main : Bool} {R : (Nat → Prop) → World → World → Prop} {D : (Nat → Prop) → World → World → Array Event → Prop}
def grow (S:Nat->Prop) (w w':World):Nat->Prop:=fun b=>S b\/(w.heap.size<=b/\b<w'.heap.size)
theorem l7 (S:Nat->Prop) {w w':World} (h:w'.heap.size=w.heap.size):grow S w w'=S:=by
 funext b
 exact propext ⟨fun h'=>h'.elim id fun x=>absurd x.2 (by omega),.inl⟩
@[simp] theorem aD (S:Nat->Prop) (w:World):grow S w w=S:=l7 S rfl
structure dh (R:(Nat->Prop)->World->World->Prop) (D:(Nat->Prop)->World->World->Array Event->Prop):Prop where
 trans:∀ S a b c,R S a b->R S b c->R S a c
 idle:∀ S w,D S w w #[]
 draw:∀ S w,D S w { w with drawn:=w.drawn+1 } #[]
inductive RT (P:Program) (main:Bool) (R:(Nat->Prop)->World->World->Prop) (D:(Nat->Prop)->World->World->Array Event->Prop) (Stop:(Nat->Prop)->Goroutine->World->Prop):(Nat->Prop)->Goroutine->World->Prop
 | stop {S:Nat->Prop} {g:Goroutine} {w:World}:(∀ w₁,R S w w₁->Stop S g w₁)->RT P main R D Stop S g w
 | step {S:Nat->Prop} {g:Goroutine} {w:World} (f:World->Goroutine×World×Array Event):g.status=.running->(∀ w₁,R S w w₁->stepG P main g w₁=.go (f w₁).1 (f w₁).2.1 (f w₁).2.2/\D S w₁ (f w₁).2.1 (f w₁).2.2)->
   (∀ w₁,R S w w₁->RT P main R D Stop (grow S w₁ (f w₁).2.1) (f w₁).1 (f w₁).2.1)->RT P main R D Stop S g w
theorem RT.one {Stop:(Nat->Prop)->Goroutine->World->Prop} {S:Nat->Prop} {g:Goroutine} {w:World} (hs:g.status=.running) (h:∀ w₁,R S w w₁->(stepG P main g w₁).goes fun g' w' es=>D S w₁ w' es/\RT P main R D Stop (grow S w₁ w') g' w'):RT P main R D Stop S g w:=by
 have key:∀ w₁,R S w w₁->∃ x:Goroutine×World×Array Event,stepG P main g w₁=.go x.1 x.2.1 x.2.2/\D S w₁ x.2.1 x.2.2/\RT P main R D Stop (grow S w₁ x.2.1) x.1 x.2.1:=by
  intro w₁ h₁
  have:=h w₁ h₁
  revert this
  cases hx:stepG P main g w₁<;>simp only [GStep.goes,false_imp_iff]
  rename_i g' w' es
  exact fun ⟨d,r⟩=>⟨(g',w',es),rfl,d,r⟩
 have key':∀ w₁,∃ x:Goroutine×World×Array Event,R S w w₁->stepG P main g w₁=.go x.1 x.2.1 x.2.2/\D S w₁ x.2.1 x.2.2/\RT P main R D Stop (grow S w₁ x.2.1) x.1 x.2.1:=by
  intro w₁
  by_cases hr:R S w w₁
  ·obtain ⟨x,hx⟩:=key w₁ hr;exact ⟨x,fun _=>hx⟩
  ·exact ⟨(g,w,#[]),fun h=>absurd h hr⟩
 refine .step (fun w₁=>Classical.choose (key' w₁)) hs (fun w₁ h₁=>?_) (fun w₁ h₁=>?_)
 ·exact ⟨(Classical.choose_spec (key' w₁) h₁).1,(Classical.choose_spec (key' w₁) h₁).2.1⟩
 ·exact (Classical.choose_spec (key' w₁) h₁).2.2
theorem RT.rely (T:dh R D) {Stop:(Nat->Prop)->Goroutine->World->Prop} {S:Nat->Prop} {g:Goroutine} {w w₁:World} (h:RT P main R D Stop S g w) (hr:R S w w₁):RT P main R D Stop S g w₁:=by
 cases h with
 | stop h=>exact .stop fun bF h₂=>h bF (T.trans _ _ _ _ hr h₂)
 | step f hs h h'=>exact .step f hs (fun bF h₂=>h bF (T.trans _ _ _ _ hr h₂)) (fun bF h₂=>h' bF (T.trans _ _ _ _ hr h₂))
section
variable {Stop : (Nat → Prop) → Goroutine → World → Prop} {S : Nat → Prop} {b : Frame} {a : Act} {k : List Item} {cs : List Frame} {w : World}
theorem RT.skip (T:dh R D) (h:RT P main R D Stop S (G (b.at a k) cs) w):RT P main R D Stop S (G (b.at a (.code .skip::k)) cs) w:=.one rfl fun w₁ h₁=>by rw [stepG_skip];rw [goes_go,aD];exact ⟨T.idle _ _,h.rely T h₁⟩
theorem RT.seq (T:dh R D) {x y:Code} (h:RT P main R D Stop S (G (b.at a (.code x::.code y::k)) cs) w):RT P main R D Stop S (G (b.at a (.code (.seq x y)::k)) cs) w:=.one rfl fun w₁ h₁=>by rw [stepG_seq];rw [goes_go,aD];exact ⟨T.idle _ _,h.rely T h₁⟩
theorem RT.cond (T:dh R D) {c:Operand} {x y:Code} (t:Bool) (hc:a.eval c=.bool t) (h:RT P main R D Stop S (G (b.at a (.code (if t then x else y)::k)) cs) w):RT P main R D Stop S (G (b.at a (.code (.cond c x y)::k)) cs) w:=.one rfl fun w₁ h₁=>by rw [stepG_cond hc];rw [goes_go,aD];exact ⟨T.idle _ _,h.rely T h₁⟩
theorem RT.block (T:dh R D) {id:Nat} {c:Code} (h:RT P main R D Stop S (G (b.at a (.code c::.inBlock id::k)) cs) w):RT P main R D Stop S (G (b.at a (.code (.block id c)::k)) cs) w:=.one rfl fun w₁ h₁=>by rw [stepG_block];rw [goes_go,aD];exact ⟨T.idle _ _,h.rely T h₁⟩
theorem RT.inBlock (T:dh R D) {id:Nat} (h:RT P main R D Stop S (G (b.at a k) cs) w):RT P main R D Stop S (G (b.at a (.inBlock id::k)) cs) w:=.one rfl fun w₁ h₁=>by rw [stepG_inBlock];rw [goes_go,aD];exact ⟨T.idle _ _,h.rely T h₁⟩
theorem RT.loop (T:dh R D) {c:Code} (h:RT P main R D Stop S (G (b.at a (.code c::.inLoop c::k)) cs) w):RT P main R D Stop S (G (b.at a (.code (.loop c)::k)) cs) w:=.one rfl fun w₁ h₁=>by rw [stepG_loop];rw [goes_go,aD];exact ⟨T.idle _ _,h.rely T h₁⟩
theorem RT.inLoop (T:dh R D) {c:Code} (h:RT P main R D Stop S (G (b.at a (.code c::.inLoop c::k)) cs) w):RT P main R D Stop S (G (b.at a (.inLoop c::k)) cs) w:=.one rfl fun w₁ h₁=>by rw [stepG_inLoop];rw [goes_go,aD];exact ⟨T.idle _ _,h.rely T h₁⟩
theorem RT.exit (T:dh R D) {id:Nat} {k':List Item} (hk:exitTo id k=some k') (h:RT P main R D Stop S (G (b.at a k') cs) w):RT P main R D Stop S (G (b.at a (.code (.exit id)::k)) cs) w:=.one rfl fun w₁ h₁=>by rw [stepG_exit hk];rw [goes_go,aD];exact ⟨T.idle _ _,h.rely T h₁⟩
theorem RT.ret (T:dh R D) (h:RT P main R D Stop S (G { b.at a (.code .ret::k) with mode:=.returning } cs) w):RT P main R D Stop S (G (b.at a (.code .ret::k)) cs) w:=.one rfl fun w₁ h₁=>by rw [stepG_ret'];rw [goes_go,aD];exact ⟨T.idle _ _,h.rely T h₁⟩
theorem RT.ends (T:dh R D) (h:RT P main R D Stop S (G { b.at a [] with mode:=.returning } cs) w):RT P main R D Stop S (G (b.at a []) cs) w:=.one rfl fun w₁ h₁=>by rw [stepG_end];rw [goes_go,aD];exact ⟨T.idle _ _,h.rely T h₁⟩
theorem RT.region (T:dh R D) {id:Nat} {ops:Array Oper} (h:RT P main R D Stop S (G (b.at a (.inRegion ops (List.range ops.size)::k)) cs) w):RT P main R D Stop S (G (b.at a (.code (.region id ops false)::k)) cs) w:=.one rfl fun w₁ h₁=>by rw [stepG_region];rw [goes_go,aD];exact ⟨T.idle _ _,h.rely T h₁⟩
theorem RT.nil (T:dh R D) {ops:Array Oper} (h:RT P main R D Stop S (G (b.at a k) cs) w):RT P main R D Stop S (G (b.at a (.inRegion ops []::k)) cs) w:=.one rfl fun w₁ h₁=>by rw [stepG_region_end];rw [goes_go,aD];exact ⟨T.idle _ _,h.rely T h₁⟩
theorem RT.draw (T:dh R D) {id:Nat} {ops:Array Oper} (h:∀ w₁,R S w w₁->∀ t,RT P main R D Stop S (G (b.at a (.inRegion ops (Region.schedule (P.follows .mixedOrders) ops t)::k)) cs) { w₁ with drawn:=w₁.drawn+1 }):RT P main R D Stop S (G (b.at a (.code (.region id ops true)::k)) cs) w:=.one rfl fun w₁ h₁=>by rw [stepG_region_draw];rw [goes_go,l7 S (w:=w₁) (w':={ w₁ with drawn:=w₁.drawn+1 }) rfl];exact ⟨T.draw _ _,h w₁ h₁ _⟩
theorem RT.op {ops:Array Oper} {i:Nat} {rest:List Nat} {o:Oper} (ho:ops[i]? = some o) (hw:Region.wanted o (yielded ops a.tmps)=true) (hk:b.kind≠.early)
  (h:∀ w₁,R S w w₁->∀ K:Act->World->Prop,(∀ a' w',D S w₁ w' (listed P b.fn a o w₁)/\RT P main R D Stop (grow S w₁ w') (G (b.at a' (.inRegion ops rest::k)) cs) w'->K a' w')->uponK o a K ((execOp a.eval o).run P w₁)) :
  RT P main R D Stop S (G (b.at a (.inRegion ops (i::rest)::k)) cs) w:=by
 refine .one rfl fun w₁ h₁=>goes_oper ho hw hk ?_
 have:=h w₁ h₁ _ (fun _ _ x=>x)
 revert this
 cases (execOp a.eval o).run P w₁ with
 | ok x w'=>cases x<;>first | exact fun ⟨d,g⟩=>⟨d,g⟩ | exact id
 | halt _ _=>exact id
def ic (P:Program) (main:Bool) (R:(Nat->Prop)->World->World->Prop) (D:(Nat->Prop)->World->World->Array Event->Prop) (f:FuncId) (args:Array Value) (S:Nat->Prop) (w:World) (Post:Value->(Nat->Prop)->World->Prop):Prop :=
 ∀ (Stop:(Nat->Prop)->Goroutine->World->Prop) (c:Frame) (cs:List Frame),(∀ v S' w',Post v S' w'->RT P main R D Stop S' (G (c.finish v) cs) w')->RT P main R D Stop S (G (Frame.enter P f args .normal) (c::cs)) w
theorem ic.mono {f:FuncId} {args:Array Value} {S:Nat->Prop} {w:World} {Post Post':Value->(Nat->Prop)->World->Prop} (h:ic P main R D f args S w Post) (hp:∀ v S w,Post v S w->Post' v S w):ic P main R D f args S w Post' :=
 fun Stop c cs hk=>h Stop c cs fun v S' w' x=>hk v S' w' (hp v S' w' x)
theorem RT.call (T:dh R D) {ops:Array Oper} {i:Nat} {rest:List Nat} {o:Oper} {f:FuncId} {fn:Func} {args:Array Operand} {ats:Array TypeId} {Post:Value->(Nat->Prop)->World->Prop} (ho:ops[i]? = some o) (hw:Region.wanted o (yielded ops a.tmps)=true) (hk:b.kind≠.early) (aN:o.op=.call { callee:=.value (.func f),args,argTypes:=ats })
  (hf:P.funcs[f]? = some fn) (u0:(fn.name== "runtime.NumGoroutine")=false) (hb:fn.body.isNone=false)
  (hcall:∀ w₁,R S w w₁->ic P main R D f (args.map a.eval) S w₁ Post) (hnext:∀ v S' w',Post v S' w'->RT P main R D Stop S' (G (b.at (a.put o.dst v) (.inRegion ops rest::k)) cs) w') :
  RT P main R D Stop S (G (b.at a (.inRegion ops (i::rest)::k)) cs) w:=by
 have bH:∀ v,(b.at a (.inRegion ops (i::rest)::k)).finish v=b.at (a.put o.dst v) (.inRegion ops rest::k):=fun v=>by rw [Frame.finish_at,ho];rfl
 refine .one rfl fun w₁ h₁=>?_
 have hl:listed P b.fn a o w₁=#[]:=by unfold listed;rw [events_call_body aN hf u0 hb];exact seen_none P _
 rw [stepG_enter ho hw hk (run_call_body aN hf u0 hb),hl]
 refine ⟨T.idle _ _,by rw [aD];exact hcall w₁ h₁ Stop _ cs fun v S' w' x=>by rw [bH];exact hnext v S' w' x⟩
theorem stepG_leaveE {fn:Func} {todo:List Item} {c:Frame} {v:Value} (hn:b.kind=.normal) (hd:a.defers=[]) (hf:P.funcs[b.fn]? = some fn) (hr:(results fn a.tmps).run P w=.ok v w) :
  stepG P main (G { b.at a todo with mode:=.returning } (c::cs)) w=.go (G (c.finish v) cs) w (seen P b.fn ((results fn a.tmps).events P w #[])):=by
 simp [G,stepG,unwind,doReturn,Frame.at,hn,hd,hf,hr,GStep.after]
theorem RT.leave (T:dh R D) {fn:Func} {todo:List Item} {c:Frame} {v:Value} (hn:b.kind=.normal) (hd:a.defers=[]) (hf:P.funcs[b.fn]? = some fn) (hr:∀ w₁,R S w w₁->(results fn a.tmps).run P w₁=.ok v w₁/\D S w₁ w₁ (seen P b.fn ((results fn a.tmps).events P w₁ #[])))
  (h:RT P main R D Stop S (G (c.finish v) cs) w):RT P main R D Stop S (G { b.at a todo with mode:=.returning } (c::cs)) w :=
 .one rfl fun w₁ h₁=>by rw [stepG_leaveE hn hd hf (hr w₁ h₁).1];rw [goes_go,aD];exact ⟨(hr w₁ h₁).2,h.rely T h₁⟩
end
end Lf
namespace Lf
open Go Go.Conc
structure TI (hc:Prop) (κ B:Nat) (CA CB:Touch->Prop) (t:Trace):Prop where
 clean:∀ said,¬ Race said t
 zero:∀ i a,touchAt t i=some a->a.loc.isMemory=true->Knows t 0 i\/(t.g? i=some κ/\CB a)
 child:∀ i a,touchAt t i=some a->a.loc.isMemory=true->Knows t κ i\/CA a
 over:∀ i g,t.g? i=some g->g≠0->g≠κ->t.counts i->∃ j,t.g? j=some 0/\HappensBefore t i j
 hears:Deaf t 0=0
 rA:hc->Deaf t κ=0
 seen:∀ op∈t,op.act.low B
def ApartT (CA CB:Touch->Prop):Prop:=∀ a b said,CA a->CB b->¬ a.conflicts said b/\¬ b.conflicts said a
section
variable {hc : Prop} {κ B : Nat} {CA CB : Touch → Prop} {t u : Trace}
theorem TI.mono {B':Nat} {CA' CB':Touch->Prop} (h:TI hc κ B CA CB t) (hB:B<=B') (h1:∀ a,CA a->CA' a) (h2:∀ a,CB a->CB' a):TI hc κ B' CA' CB' t :=
 ⟨h.clean,fun i a x y=>(h.zero i a x y).imp id fun z=>⟨z.1,h2 _ z.2⟩,fun i a x y=>(h.child i a x y).imp id (h1 _),h.over,h.hears,h.rA,fun op aN=>MemAct.low_mono hB (h.seen op aN)⟩
theorem over_app {t u:Trace} {κ:Nat} (h:∀ i g,t.g? i=some g->g≠0->g≠κ->t.counts i->∃ j,t.g? j=some 0/\HappensBefore t i j) (hu:∀ op∈u,op.g=0\/op.g=κ\/op.act.touch? = none) :
  ∀ i g,(t++u).g? i=some g->g≠0->g≠κ->(t++u).counts i->∃ j,(t++u).g? j=some 0/\HappensBefore (t++u) i j:=by
 intro i g hg hne hk hc
 obtain ⟨x,hx,_⟩:=hc
 obtain ⟨op,aN,hox⟩:=touch_of hx
 rcases getElem?_append_cases aN with ⟨hi,hop'⟩ | ⟨_,hopu⟩
 ·obtain ⟨j,hj,hb⟩:=h i g (by simpa [Trace.g?,getElem?_append_old hi] using hg) hne hk ((counts_old hi).1 ⟨x,hx,‹_›⟩)
  have hjl:j<t.size:=by
   unfold Trace.g? at hj
   obtain ⟨z,hz,_⟩:=Option.map_eq_some_iff.1 hj
   exact lt_size_of_getElem? hz
  exact ⟨j,by simpa [Trace.g?,getElem?_append_old hjl] using hj,hb_app u hb⟩
 ·have hgo:op.g=g:=by simpa [Trace.g?,aN] using hg
  rcases hu op hopu with h0 | h0 | h0
  ·exact absurd (hgo.symm.trans h0) hne
  ·exact absurd (hgo.symm.trans h0) hk
  ·rw [h0] at hox;cases hox
theorem g?_lt {t:Trace} {i g:Nat} (h:t.g? i=some g):i<t.size:=by
 unfold Trace.g? at h
 obtain ⟨z,hz,_⟩:=Option.map_eq_some_iff.1 h
 exact lt_size_of_getElem? hz
theorem g?_app {t u:Trace} {i g:Nat} (h:t.g? i=some g):(t++u).g? i=some g:=by rw [g?_old (g?_lt h)];exact h
theorem TI.weak (h:TI hc κ B CA CB t):TI False κ B CA CB t:=⟨h.clean,h.zero,h.child,h.over,h.hears,fun x=>x.elim,h.seen⟩
theorem TI.app0 (oL:κ≠0) (hA:ApartT CA CB) (h:TI hc κ B CA CB t) (hu:∀ op∈u,op.g=0) (om:∀ op∈u,∀ b,op.act.touch? = some b->b.loc.isMemory=true->CA b) (hd:Deaf (t++u) 0=0) (hl:∀ op∈u,op.act.low B):TI hc κ B CA CB (t++u):=by
 refine ⟨fun said=>noRace_append (h.clean said) hu fun i a ha op aN b hb hcf=>?_,fun i a ha hm=>?_,fun i a ha hm=>?_,over_app h.over fun op aN=>.inl (hu op aN),hd,fun x=>(Deaf_other t (Ne.symm oL) u hu).trans (h.rA x),seen_app h.seen hl⟩
 ·rcases h.zero i a ha hcf.2.1 with hk | ⟨_,hb'⟩
  ·exact hk
  ·exact absurd hcf (hA b a said (om op aN b hb (hcf.1▸hcf.2.1)) hb').2
 ·obtain ⟨x,hx,qz⟩:=touch_of ha
  rcases getElem?_append_cases hx with ⟨_,hx'⟩ | ⟨_,hxu⟩
  ·exact (h.zero i a (by rw [touchAt_of hx'];exact qz) hm).imp (·.app u) fun z=>⟨g?_app z.1,z.2⟩
  ·have:=knows_own hx
   rw [hu x hxu] at this
   exact .inl this
 ·obtain ⟨x,hx,qz⟩:=touch_of ha
  rcases getElem?_append_cases hx with ⟨_,hx'⟩ | ⟨_,hxu⟩
  ·exact (h.child i a (by rw [touchAt_of hx'];exact qz) hm).imp (·.app u) id
  ·exact .inr (om x hxu a qz hm)
theorem TI.appC (oL:κ≠0) (hA:ApartT CA CB) (h:TI hc κ B CA CB t) (hu:∀ op∈u,op.g=κ) (om:∀ op∈u,∀ b,op.act.touch? = some b->b.loc.isMemory=true->CB b) (hd:hc->Deaf (t++u) κ=0) (hl:∀ op∈u,op.act.low B):TI hc κ B CA CB (t++u):=by
 refine ⟨fun said=>noRace_append (h.clean said) hu fun i a ha op aN b hb hcf=>?_,fun i a ha hm=>?_,fun i a ha hm=>?_,over_app h.over fun op aN=>.inr (.inl (hu op aN)),(Deaf_other t oL u hu).trans h.hears,hd,seen_app h.seen hl⟩
 ·rcases h.child i a ha hcf.2.1 with hk | ha'
  ·exact hk
  ·exact absurd hcf (hA a b said ha' (om op aN b hb (hcf.1▸hcf.2.1))).1
 ·obtain ⟨x,hx,qz⟩:=touch_of ha
  rcases getElem?_append_cases hx with ⟨_,hx'⟩ | ⟨_,hxu⟩
  ·exact (h.zero i a (by rw [touchAt_of hx'];exact qz) hm).imp (·.app u) fun z=>⟨g?_app z.1,z.2⟩
  ·exact .inr ⟨by simp [Trace.g?,hx,hu x hxu],om x hxu a qz hm⟩
 ·obtain ⟨x,hx,qz⟩:=touch_of ha
  rcases getElem?_append_cases hx with ⟨_,hx'⟩ | ⟨_,hxu⟩
  ·exact (h.child i a (by rw [touchAt_of hx'];exact qz) hm).imp (·.app u) id
  ·have:=knows_own hx
   rw [hu x hxu] at this
   exact .inl this
theorem TI.appMute (h:TI hc κ B CA CB t) (hn:∀ op∈u,op.act.touch? = none) (hd0:Deaf (t++u) 0=0) (hdκ:hc->Deaf (t++u) κ=0) (hl:∀ op∈u,op.act.low B):TI hc κ B CA CB (t++u):=by
 refine ⟨fun said=>?_,fun i a ha hm=>?_,fun i a ha hm=>?_,over_app h.over fun op aN=>.inr (.inr (hn op aN)),hd0,hdκ,seen_app h.seen hl⟩
 ·rintro ⟨i,j,hij,⟨a,b,ha,hb,hc⟩,n1,n2⟩
  obtain ⟨x,hx,qz⟩:=touch_of ha
  obtain ⟨y,hy,hyb⟩:=touch_of hb
  rcases getElem?_append_cases hy with ⟨hj,hy'⟩ | ⟨_,hyu⟩
  ·have hi:i<t.size:=Nat.lt_trans hij hj
   have hx':t[i]? = some x:=by rw [<- getElem?_append_old (u:=u) hi];exact hx
   exact h.clean said ⟨i,j,hij,⟨a,b,by simp [Trace.act?,hx',qz],by simp [Trace.act?,hy',hyb],hc⟩,fun e=>n1 (hb_app u e),fun e=>n2 (hb_app u e)⟩
  ·rw [hn y hyu] at hyb;cases hyb
 ·obtain ⟨x,hx,qz⟩:=touch_of ha
  rcases getElem?_append_cases hx with ⟨_,hx'⟩ | ⟨_,hxu⟩
  ·exact (h.zero i a (by rw [touchAt_of hx'];exact qz) hm).imp (·.app u) fun z=>⟨g?_app z.1,z.2⟩
  ·rw [hn x hxu] at qz;cases qz
 ·obtain ⟨x,hx,qz⟩:=touch_of ha
  rcases getElem?_append_cases hx with ⟨_,hx'⟩ | ⟨_,hxu⟩
  ·exact (h.child i a (by rw [touchAt_of hx'];exact qz) hm).imp (·.app u) id
  ·rw [hn x hxu] at qz;cases qz
theorem TI.fork (h:Past (fun _=>False) B t) (hk:Deaf t κ=0) {x y:MemOp} (hx:x.g=0/\x.act=.go κ) (hy:y.g=κ/\y.act=.start):TI hc κ B CA CB (t++#[x,y]):=by
 have hn:∀ op∈(#[x,y]:Trace),op.act.touch? = none:=by
  intro op aN
  simp at aN
  rcases aN with rfl | rfl
  ·rw [hx.2];rfl
  ·rw [hy.2];rfl
 have hd:∀ g,Deaf t g=0->Deaf (t++#[x,y]) g=0:=by
  intro g hg
  have e:(t++#[x,y]:Trace)=t++[x,y].toArray:=rfl
  rw [e,Deaf_append]
  simp [deafStep,hx.2,hy.2,hg]
 have base:TI hc κ B (fun _=>True) CB t:=⟨h.clean,fun i a ha hm=>.inl ((h.known i a ha hm).resolve_right fun z=>z.1.elim),fun _ _ _ _=>.inr trivial,fun i g h1 h2 _ h4=>h.over i g h1 h2 h4,h.hears,fun _=>hk,h.seen⟩
 have h2:=base.appMute hn (hd 0 h.hears) (fun _=>hd κ hk) (fun op aN=>by
  simp at aN
  rcases aN with rfl | rfl
  ·rw [hx.2];trivial
  ·rw [hy.2];trivial)
 refine ⟨h2.clean,h2.zero,fun i a ha hm=>?_,h2.over,h2.hears,h2.rA,h2.seen⟩
 obtain ⟨z,hz,hza⟩:=touch_of ha
 rcases getElem?_append_cases hz with ⟨_,hz'⟩ | ⟨_,hzu⟩
 ·exact .inl (Go.ConcN.fork_knows hx hy h.hears hk ((h.known i a (by rw [touchAt_of hz'];exact hza) hm).resolve_right fun z=>z.1.elim))
 ·rw [hn z hzu] at hza;cases hza
def Shut (κ c:Nat) (t:Trace):Prop:=∃ pc,t.act? pc=some (.close c)/\t.g? pc=some κ/\t.heard pc/\∀ i a,touchAt t i=some a->t.g? i=some κ->i<pc
theorem Shut.app {c:Nat} (h:Shut κ c t) (hu:∀ op∈u,op.g=κ->op.act.touch? = none):Shut κ c (t++u):=by
 obtain ⟨pc,h1,h2,h3,h4⟩:=h
 have cz:=g?_lt h2
 refine ⟨pc,by rw [act?_old cz];exact h1,g?_app h2,(heard_old cz).2 h3,fun i a ha hg=>?_⟩
 obtain ⟨x,hx,qz⟩:=touch_of ha
 rcases getElem?_append_cases hx with ⟨hi,hx'⟩ | ⟨_,hxu⟩
 ·exact h4 i a (by rw [touchAt_of hx'];exact qz) (by rw [g?_old hi] at hg;exact hg)
 ·have:x.g=κ:=by simpa [Trace.g?,hx] using hg
  rw [hu x hxu this] at qz;cases qz
theorem TI.join (oL:κ≠0) {c:Nat} (h:TI hc κ B CA CB t) (hs:Shut κ c t) {y:MemOp} (hy:y.g=0/\y.act=.recvClosed c) (hB:c<B):Past (fun _=>False) B (t++#[y]):=by
 have hlast:(t++#[y])[t.size]? = some y:=by rw [Array.getElem?_append_right (Nat.le_refl _)];simp
 have hd:∀ g,Deaf t g=0->Deaf (t++#[y]) g=0:=by
  intro g hg
  rw [Deaf_push]
  simp [deafStep,hy.2,hg]
 have hn:∀ op∈(#[y]:Trace),op.act.touch? = none:=by
  intro op aN
  simp at aN
  subst aN
  rw [hy.2];rfl
 have h2:=h.appMute hn (hd 0 h.hears) (fun x=>hd κ (h.rA x)) (fun op aN=>by simp at aN;subst aN;rw [hy.2];exact hB)
 obtain ⟨pc,s1,s2,s3,s4⟩:=hs
 have cz:=g?_lt s2
 have edge:HappensBefore (t++#[y]) pc t.size:=.single (.inr ⟨.closed (c:=c) (by rw [act?_old cz];exact s1) (by rw [act?_of hlast,hy.2]),(heard_old cz).2 s3,⟨0,by simp [Trace.g?,hy.1],by rw [deaf_old (Nat.le_refl _)];exact h.hears⟩⟩)
 have from_child:∀ i a,touchAt (t++#[y]) i=some a->(t++#[y]).g? i=some κ->HappensBefore (t++#[y]) i t.size:=by
  intro i a ha hg
  obtain ⟨x,hx,qz⟩:=touch_of ha
  rcases getElem?_append_cases hx with ⟨hi,hx'⟩ | ⟨_,hxu⟩
  ·have hip:=s4 i a (by rw [touchAt_of hx'];exact qz) (by rw [g?_old hi] at hg;exact hg)
   obtain ⟨z,hz,hzg⟩:=Option.map_eq_some_iff.1 (show (t[pc]?).map (·.g)=some κ from s2)
   have hxg:x.g=κ:=by unfold Trace.g? at hg;rw [hx] at hg;exact Option.some.inj hg
   exact (hb_po hip hx (by rw [getElem?_append_old cz];exact hz) (hxg.trans hzg.symm)).trans edge
  ·rw [hn x hxu] at qz;cases qz
 refine ⟨h2.clean,fun i a ha hm=>?_,fun i g hg hne hc=>?_,h2.hears,h2.seen⟩
 ·rcases h2.zero i a ha hm with hk | ⟨hg,_⟩
  ·exact .inl hk
  ·exact .inl ⟨t.size,y,hlast,hy.1,.inr (from_child i a ha hg)⟩
 ·by_cases hgk:g=κ
  ·subst hgk
   obtain ⟨x,hx,_⟩:=hc
   exact ⟨t.size,by simp [Trace.g?,hy.1],from_child i x hx hg⟩
  ·exact h2.over i g hg hne hgk hc
end
end Lf
namespace Lf
open Go Go.Conc
variable {P : Program}
def rz (d:Nat) (e:Event):Nat:=match e.loc with | .mark .disable=>d+1 | .mark .enable=>d-1 | _=>d
theorem d_ (d:Nat) (es:Array Event):deafBehind d es=es.foldl rz d:=rfl
theorem dI (d:Nat) (es:Array Event) (e:Event):deafBehind d (es.push e)=rz (deafBehind d es) e:=by
 rw [d_,d_,Array.foldl_push]
theorem my (d:Nat) (es es':Array Event):deafBehind d (es++es')=deafBehind (deafBehind d es) es':=by
 simp only [d_,Array.foldl_append]
theorem ou (d:Nat) (l:List Addr) (wr at_:Bool):deafBehind d (l.toArray.map fun a=>(⟨.cell a,wr,at_⟩:Event))=d:=by
 rw [d_]
 induction l generalizing d with
 | nil=>simp
 | cons a l ih=>have:=ih d;simp at this ⊢;exact this
def fG {α:Type}:Result α->Bool
 | .ok _ _=>true
 | .halt (.panic _) _ | .halt .goexit _=>true
 | _=>false
theorem resOn_of_go {α:Type} {r:Result α} (h:fG r=true):resOn r=true:=by
 cases r with
 | ok a w=>rfl
 | halt x w=>cases x<;>first | rfl | (simp [fG] at h)
theorem noCell_not (w:World) (a:Addr) (s:String) (w':World) {α:Type}:fG (.halt (w.noCell a s) w':Result α)=false:=by
 unfold World.noCell
 split<;>rfl
theorem farLoad_not {p:Program} {w:World} {a:Addr} {b:Bool} {h:Halt} (hx:w.farLoad p a b=.error h) (w':World) {α:Type}:fG (.halt h w':Result α)=false:=by
 unfold World.farLoad at hx
 split at hx
 ·split at hx
  ·cases hx
  ·cases hx;rfl
 ·cases hx;exact noCell_not _ _ _ _
theorem farStore_not {p:Program} {w:World} {a:Addr} {v:Value} {b:Bool} {h:Halt} (hx:w.farStore p a v b=.error h) (w':World) {α:Type}:fG (.halt h w':Result α)=false:=by
 unfold World.farStore at hx
 split at hx
 ·split at hx
  ·cases hx
  ·cases hx;rfl
 ·cases hx;exact noCell_not _ _ _ _
theorem runT_even {α:Type} {L:α->Prop} (s:Sem α):∀ (n:Nat) (w:World) (es:Array Event) (b:Nat),Fit P L n s->fG (s.runT P w es).1=true->deafBehind b es=n->deafBehind b (s.runT P w es).2=0:=by
 induction s with
 | pure a=>exact fun n w es b hf _ he=>he.trans hf.1
 | load m a k ih =>
  intro n w es b hf ho he
  simp only [Sem.runT] at ho ⊢
  cases hw:w.cell? a with
  | some v=>simp only [hw] at ho ⊢;exact ih v n w _ b (hf v) ho (by rw [dI,he];rfl)
  | none =>
   simp only [hw] at ho ⊢
   cases hx:w.farLoad P a (m==.atomic) with
   | ok x=>obtain ⟨v,t⟩:=x;simp only [hx] at ho ⊢;exact ih v n w _ b (hf v) ho (by rw [my,he,ou])
   | error e=>simp only [hx] at ho;rw [farLoad_not hx] at ho;cases ho
 | store m a v k ih =>
  intro n w es b hf ho he
  cases v with
  | agg x=>cases ho
  | tuple x=>cases ho
  | _ =>
   simp only [Sem.runT] at ho ⊢
   cases hw:w.cell? a with
   | some u =>
    simp only [hw] at ho ⊢
    split at ho
    ·cases ho
    ·rename_i iU
     simp only [iU,if_false,Bool.false_eq_true]
     exact ih n _ _ b hf ho (by rw [dI,he];rfl)
   | none =>
    simp only [hw] at ho ⊢
    cases hx:w.farStore P a _ (m==Mode.atomic) with
    | ok x=>obtain ⟨w',t⟩:=x;simp only [hx] at ho ⊢;exact ih n w' _ b hf ho (by rw [my,he,ou])
    | error e=>simp only [hx] at ho;rw [farStore_not hx] at ho;cases ho
 | new o k ih=>exact fun n w es b hf ho he=>ih w.heap.size n _ es b (hf _) ho he
 | shape r k ih=>exact fun n w es b hf ho he=>ih (w.shape? r) n w es b (hf _) ho he
 | freeze a c k ih=>exact fun n w es b hf ho he=>ih n _ es b hf ho he
 | frozen a k ih=>exact fun n w es b hf ho he=>ih (w.frozen? a) n w es b (hf _) ho he
 | getObj r k ih =>
  intro n w es b hf ho he
  simp only [Sem.runT] at ho ⊢
  cases hw:w.heap[r]? with
  | none=>simp only [hw] at ho;cases ho
  | some o =>
   cases o with
   | cells c t z=>simp only [hw] at ho;cases ho
   | _=>simp only [hw] at ho ⊢;exact ih _ n w _ b (hf _) ho (by rw [dI,he];rfl)
 | setObj r o k ih =>
  intro n w es b hf ho he
  simp only [Sem.runT] at ho ⊢
  cases hw:w.heap[r]? with
  | none=>simp only [hw] at ho;cases ho
  | some x =>
   cases x with
   | cells c t z=>simp only [hw] at ho;cases ho
   | _=>simp only [hw] at ho ⊢;exact ih n _ _ b hf ho (by rw [dI,he];rfl)
 | choose q k ih =>
  intro n w es b hf ho he
  simp only [Sem.runT] at ho ⊢
  by_cases hq:q.forced=true
  ·simp only [hq,if_true] at ho ⊢;exact ih 0 n w es b (hf _) ho he
  ·simp only [hq,if_false,Bool.false_eq_true] at ho ⊢;exact ih _ n _ es b (hf _) ho he
 | sys c k ih=>exact fun n w es b hf ho he=>ih _ n _ _ b (hf.2 _) ho (by rw [dI,he];rfl)
 | program k ih=>exact fun n w es b hf ho he=>ih P n w es b hf ho he
 | mark m k ih =>
  intro n w es b hf ho he
  refine ih _ w _ b hf ho ?_
  rw [dI,he]
  cases m<;>rfl
 | halt h =>
  intro n w es b hf ho he
  rcases hf with hf | hf
  ·exact he.trans hf
  ·simp only [Sem.runT] at ho;cases h<;>first | (simp [fG] at ho;done) | (simp [Ends] at hf;done)
theorem runT_leaf {α:Type} {L:α->Prop} (s:Sem α):∀ (n:Nat) (w:World) (es:Array Event) {a:α} {w':World},Fit P L n s->(s.runT P w es).1=.ok a w'->L a:=by
 induction s with
 | pure a=>intro n w es b w' hf h;simp only [Sem.runT,Result.ok.injEq] at h;exact h.1▸hf.2
 | load m a k ih =>
  intro n w es b w' hf h
  simp only [Sem.runT] at h
  split at h
  ·exact ih _ n _ _ (hf _) h
  ·split at h
   ·exact ih _ n _ _ (hf _) h
   ·cases h
 | store m a v k ih =>
  intro n w es b w' hf h
  cases v with
  | agg x=>cases h
  | tuple x=>cases h
  | _ =>
   simp only [Sem.runT] at h
   split at h
   ·split at h
    ·cases h
    ·exact ih n _ _ hf h
   ·split at h
    ·exact ih n _ _ hf h
    ·cases h
 | new o k ih=>intro n w es b w' hf h;exact ih _ n _ _ (hf _) h
 | shape r k ih=>intro n w es b w' hf h;exact ih _ n _ _ (hf _) h
 | freeze a c k ih=>intro n w es b w' hf h;exact ih n _ _ hf h
 | frozen a k ih=>intro n w es b w' hf h;exact ih _ n _ _ (hf _) h
 | getObj r k ih =>
  intro n w es b w' hf h
  simp only [Sem.runT] at h
  split at h
  ·cases h
  ·exact ih _ n _ _ (hf _) h
  ·cases h
 | setObj r o k ih =>
  intro n w es b w' hf h
  simp only [Sem.runT] at h
  split at h
  ·cases h
  ·exact ih n _ _ hf h
  ·cases h
 | choose q k ih =>
  intro n w es b w' hf h
  simp only [Sem.runT] at h
  split at h
  ·exact ih _ n _ _ (hf _) h
  ·exact ih _ n _ _ (hf _) h
 | sys c k ih=>intro n w es b w' hf h;exact ih _ n _ _ (hf.2 _) h
 | program k ih=>intro n w es b w' hf h;exact ih _ n _ _ hf h
 | mark m k ih=>intro n w es b w' hf h;exact ih _ _ _ hf h
 | halt x=>intro n w es b w' hf h;cases h
def pq (es:Array Event):Prop:=∀ e∈es,(e.loc=.mark .disable\/e.loc=.mark .enable)->e.sync=true
theorem pq.push {es:Array Event} {e:Event} (h:pq es) (he:(e.loc=.mark .disable\/e.loc=.mark .enable)->e.sync=true):pq (es.push e):=by
 intro x hx
 rcases Array.mem_push.1 hx with hx | rfl
 ·exact h x hx
 ·exact he
theorem pq.cells {es:Array Event} (h:pq es) (l:List Addr) (wr at_:Bool):pq (es++l.toArray.map fun a=>(⟨.cell a,wr,at_⟩:Event)):=by
 intro x hx
 rcases Array.mem_append.1 hx with hx | hx
 ·exact h x hx
 ·obtain ⟨a,_,rfl⟩:=Array.mem_map.1 hx
  simp
theorem runT_synced {α:Type} (s:Sem α):∀ (w:World) (es:Array Event),pq es->pq (s.runT P w es).2:=by
 induction s with
 | pure a=>exact fun w es h=>h
 | load m a k ih =>
  intro w es h
  simp only [Sem.runT]
  split
  ·exact ih _ _ _ (h.push (by simp))
  ·split
   ·exact ih _ _ _ (h.cells _ _ _)
   ·exact h
 | store m a v k ih =>
  intro w es h
  cases v with
  | agg x=>exact h
  | tuple x=>exact h
  | _ =>
   simp only [Sem.runT]
   split
   ·split
    ·exact h
    ·exact ih _ _ (h.push (by simp))
   ·split
    ·exact ih _ _ (h.cells _ _ _)
    ·exact h
 | new o k ih=>exact fun w es h=>ih _ _ _ h
 | shape r k ih=>exact fun w es h=>ih _ _ _ h
 | freeze a c k ih=>exact fun w es h=>ih _ _ h
 | frozen a k ih=>exact fun w es h=>ih _ _ _ h
 | getObj r k ih =>
  intro w es h
  simp only [Sem.runT]
  split
  ·exact h
  ·exact ih _ _ _ (h.push (by simp))
  ·exact h
 | setObj r o k ih =>
  intro w es h
  simp only [Sem.runT]
  split
  ·exact h
  ·exact ih _ _ (h.push (by simp))
  ·exact h
 | choose q k ih =>
  intro w es h
  simp only [Sem.runT]
  split<;>exact ih _ _ _ h
 | sys c k ih=>exact fun w es h=>ih _ _ _ (h.push (by simp))
 | program k ih=>exact fun w es h=>ih _ _ _ h
 | mark m k ih=>exact fun w es h=>ih _ _ (h.push (by simp))
 | halt x=>exact fun w es h=>h
theorem seen_even (fn:FuncId) {es:Array Event} (h:pq es) (b:Nat):deafBehind b (seen P fn es)=deafBehind b es:=by
 unfold seen
 obtain ⟨l⟩:=es
 have key:∀ (l:List Event) (q:Bool) (kept:Array Event),(∀ e∈l,(e.loc=.mark .disable\/e.loc=.mark .enable)->e.sync=true)->
   deafBehind b (l.foldl (fun (x:Bool×Array Event) e=>match x with | (q,kept)=>match e.loc with | .mark (.extern f)=>((P.funcs[f]?).any (·.norace),kept) | _=>(q,if q&&!e.sync then kept else kept.push e)) (q,kept)).2=l.foldl rz (deafBehind b kept):=by
  intro l
  induction l with
  | nil=>intro q kept _;rfl
  | cons e l ih =>
   intro q kept hs
   simp only [List.foldl_cons]
   have qp:=fun x hx=>hs x (List.mem_cons_of_mem _ hx)
   have he:=hs e (by simp)
   split
   ·rename_i f hf
    rw [ih _ _ qp]
    congr 1
    simp [rz,hf]
   ·rename_i hne
    rw [ih _ _ qp]
    congr 1
    split
    ·rename_i hq
     have hsy:e.sync=false:=by simp at hq;exact hq.2
     unfold rz
     split
     ·rename_i hm;rw [he (.inl hm)] at hsy;cases hsy
     ·rename_i hm;rw [he (.inr hm)] at hsy;cases hsy
     ·rfl
    ·rw [dI]
 have:=key l ((P.funcs[fn]?).any (·.norace)) #[] (fun e he=>h e (by simpa using he))
 simp only [List.foldl_toArray] at this ⊢
 refine this.trans ?_
 rw [d_,d_]
 simp
end Lf
namespace Lf
open Go Go.Conc
variable {P : Program}
def aR:Item->Prop
 | .extern row _=>row = "runtime.print$piece"
 | .call ..=>False
 | _=>True
def aA (fr:Frame):Prop:=∀ it∈fr.todo,aR it
def lowest (g:Goroutine):Frame:=g.callers.getLast?.getD g.frame
structure kW (g:Goroutine):Prop where
 frame:aA g.frame
 callers:∀ fr∈g.callers,aA fr
 dying:∀ d,g.dying=some d->d.calling=true->(lowest g).kind=.report
def Local (dying:Bool) (F:World->GStep) (w:World):Prop :=
 match F w with
 | .go g w' es=>kW g/\(dying=true->g.dying≠none)/\(∀ t,g.status≠.sleeping t)/\g.status≠.parked/\
   (g.dying=none->g.status=.running->g.offers=none/\deafBehind 0 es=0/\∃ m,w'=re w' w.tape (w.drawn+m)/\∀ τ d,Alike w m τ d->F (re w τ d)=.go g (re w' τ (d+m)) es)
 | .comm g cs b sh w' es=>kW g/\g.status=.running/\(dying=true->g.dying≠none)/\
   (g.dying=none->g.offers=none/\deafBehind 0 es=0/\∃ m,w'=re w' w.tape (w.drawn+m)/\∀ τ d,Alike w m τ d->F (re w τ d)=.comm g cs b sh (re w' τ (d+m)) es)
 | .coroswitch g c x w' es=>kW g/\g.status=.running/\(dying=true->g.dying≠none)/\
   (g.dying=none->g.offers=none/\deafBehind 0 es=0/\∃ m,w'=re w' w.tape (w.drawn+m)/\∀ τ d,Alike w m τ d->F (re w τ d)=.coroswitch g c x (re w' τ (d+m)) es)
 | .spawn ..=>True
 | .ended ..=>True
 | _=>False
theorem cO {fr:Frame} (h:aA fr) (v:Value):aA (fr.finish v):=by
 unfold Frame.finish
 split
 all_goals rename_i heq
 all_goals intro it hit
 ·simp only [List.mem_cons] at hit
  rcases hit with rfl | hit
  ·exact trivial
  ·exact h it (by rw [heq];exact List.mem_cons_of_mem _ hit)
 ·simp only [List.mem_cons] at hit
  rcases hit with rfl | hit
  ·exact trivial
  ·exact h it (by rw [heq];exact List.mem_cons_of_mem _ hit)
 ·exact h it (by rw [heq];exact List.mem_cons_of_mem _ hit)
 ·exact (h (.call _ _ _ _) (by rw [heq];exact List.mem_cons_self):False).elim
 ·exact h it (by rw [heq];exact List.mem_cons_of_mem _ hit)
 ·exact h it hit
theorem jk {fr:Frame} (h:aA fr) {fr':Frame} (hs:∀ it∈fr'.todo,it∈fr.todo\/aR it):aA fr':=fun it hit=>(hs it hit).elim (h it) id
theorem eV (f:FuncId) (args:Array Value) (k:CallKind):aA (Frame.enter P f args k):=by
 intro it hit
 simp only [Frame.enter,List.mem_singleton] at hit
 subst hit;exact trivial
theorem td (l:Nat) (f:FuncId) (t:Array Value) (a b:Code) (k:CallKind):aA (Frame.round l f t a b k):=by
 intro it hit
 simp only [Frame.round,List.mem_cons,List.not_mem_nil,or_false] at hit
 rcases hit with rfl | rfl | rfl<;>exact trivial
theorem okFrame_row (args:Array Value) (k:CallKind):aA (Frame.ofRow P "runtime.print$piece" args k):=by
 intro it hit
 simp only [Frame.ofRow,List.mem_singleton] at hit
 subst hit;rfl
theorem dU {fr:Frame} (h:aA fr) {fr':Frame} (ht:fr'.todo=fr.todo):aA fr':=by unfold aA;rw [ht];exact h
theorem eW {fr:Frame} (h:aA fr) (vs:List PanicEntry):aA (fr.raise vs):=by unfold Frame.raise;split<;>exact dU h rfl
theorem eO (fr:Frame) (v:Value):(fr.finish v).kind=fr.kind:=by unfold Frame.finish;split<;>rfl
theorem iB (fr:Frame) (v:List PanicEntry):(fr.raise v).kind=fr.kind:=by unfold Frame.raise;split<;>rfl
theorem kW.top {g:Goroutine} (h:kW g) {fr:Frame} (hf:aA fr) (hk:fr.kind=g.frame.kind) (st:GoStatus) (off:Option (Array CommCase×CommShape)):kW { frame:=fr,callers:=g.callers,status:=st,dying:=g.dying,offers:=off }:=by
 refine ⟨hf,h.callers,fun d hd hc=>?_⟩
 have:=h.dying d hd hc
 unfold lowest at this ⊢
 cases hl:g.callers.getLast? with
 | none=>rw [hl] at this;simp only [Option.getD_none] at this ⊢;rw [hk];exact this
 | some x=>rw [hl] at this;simp only [Option.getD_some] at this ⊢;exact this
theorem kW.push {g:Goroutine} (h:kW g) {fr fr':Frame} (hf:aA fr) (hf':aA fr') (hk:fr'.kind=g.frame.kind) (st:GoStatus):kW { frame:=fr,callers:=fr'::g.callers,status:=st,dying:=g.dying }:=by
 refine ⟨hf,fun x hx=>?_,fun d hd hc=>?_⟩
 ·rcases List.mem_cons.1 hx with rfl | hx
  ·exact hf'
  ·exact h.callers x hx
 ·have:=h.dying d hd hc
  unfold lowest at this ⊢
  cases hl:g.callers.getLast? with
  | none =>
   have hn:g.callers=[]:=by simpa using hl
   rw [hl] at this
   simp only [hn,List.getLast?_singleton,Option.getD_some,Option.getD_none] at this ⊢
   rw [hk];exact this
  | some x =>
   rw [hl] at this
   have e:(fr'::g.callers).getLast? = some x:=by
    rw [List.getLast?_cons];simp [hl]
   simp only [e,Option.getD_some]
   exact this
theorem kW.pop {g:Goroutine} (h:kW g) {c:Frame} {rest:List Frame} (hc:g.callers=c::rest) {fr:Frame} (hf:aA fr) (hk:fr.kind=c.kind) (st:GoStatus):kW { frame:=fr,callers:=rest,status:=st,dying:=g.dying }:=by
 refine ⟨hf,fun x hx=>h.callers x (by rw [hc];exact List.mem_cons_of_mem _ hx),fun d hd hca=>?_⟩
 have:=h.dying d hd hca
 unfold lowest at this ⊢
 rw [hc,List.getLast?_cons] at this
 cases hl:rest.getLast? with
 | none=>simp only [hl,Option.getD_none,Option.getD_some] at this ⊢;rw [hk];exact this
 | some x=>simp only [hl,Option.getD_some] at this ⊢;exact this
theorem kW.dead {g:Goroutine} {d:Dying} (hd:g.dying=some d) (hc:d.calling=false) (hf:aA g.frame) (bn:∀ fr∈g.callers,aA fr):kW g :=
 ⟨hf,bn,fun e he hce=>by rw [hd] at he;cases he;rw [hc] at hce;cases hce⟩
def Made (dying:Bool) {α:Type} (r:Result α) (K:Result α->GStep) (x:GStep):Prop:=match x with
   | .go g w' es=>es=#[]/\kW g/\(dying=true->g.dying≠none)/\(∀ t,g.status≠.sleeping t)/\g.status≠.parked/\
     (g.dying=none->g.status=.running->g.offers=none/\fG r=true/\∀ τ d,K (reR τ d r)=.go g (re w' τ d) #[])
   | .comm g cs b sh w' es=>es=#[]/\kW g/\g.status=.running/\(dying=true->g.dying≠none)/\
     (g.dying=none->g.offers=none/\fG r=true/\∀ τ d,K (reR τ d r)=.comm g cs b sh (re w' τ d) #[])
   | .coroswitch g c x w' es=>es=#[]/\kW g/\g.status=.running/\(dying=true->g.dying≠none)/\
     (g.dying=none->g.offers=none/\fG r=true/\∀ τ d,K (reR τ d r)=.coroswitch g c x (re w' τ d) #[])
   | .spawn ..=>True
   | .ended ..=>True
   | _=>False
theorem nI {dying:Bool} {F E:World->GStep} {w w':World} {m:Nat} (h0:F w=E w') (h1:w'=re w' w.tape (w.drawn+m)) (h2:∀ τ d,Alike w m τ d->F (re w τ d)=E (re w' τ (d+m))) (h:Local dying E w'):Local dying F w:=by
 have e1:w'.tape=w.tape:=by rw [h1];rfl
 have e2:w'.drawn=w.drawn+m:=by rw [h1];rfl
 have key:∀ m' w'' (X:World->GStep),(w''=re w'' w'.tape (w'.drawn+m')/\∀ τ d,Alike w' m' τ d->E (re w' τ d)=X (re w'' τ (d+m')))->
   ∃ n,w''=re w'' w.tape (w.drawn+n)/\∀ τ d,Alike w n τ d->F (re w τ d)=X (re w'' τ (d+n)):=by
  rintro m' w'' X ⟨a,b⟩
  refine ⟨m+m',by rw [e1,e2] at a;rw [<- Nat.add_assoc];exact a,fun τ d ha=>?_⟩
  rw [h2 τ d fun j hj=>ha j (by omega),<- Nat.add_assoc]
  refine b τ (d+m) fun j hj=>?_
  rw [e1,e2];have:=ha (m+j) (by omega);rw [<- Nat.add_assoc] at this;rw [this,<- Nat.add_assoc]
 unfold Local at h ⊢
 rw [h0]
 generalize E w'=x at h ⊢
 cases x with
 | go g w'' es =>
  obtain ⟨a1,a2,a3,a4,a5⟩:=h
  exact ⟨a1,a2,a3,a4,fun x y=>let ⟨b1,b2,m',b3,b4⟩:=a5 x y;⟨b1,b2,key m' w'' (fun v=>.go g v es) ⟨b3,b4⟩⟩⟩
 | comm g cs b sh w'' es =>
  obtain ⟨a1,a0,a2,a5⟩:=h
  exact ⟨a1,a0,a2,fun x=>let ⟨b1,b2,m',b3,b4⟩:=a5 x;⟨b1,b2,key m' w'' (fun v=>.comm g cs b sh v es) ⟨b3,b4⟩⟩⟩
 | coroswitch g c y w'' es =>
  obtain ⟨a1,a0,a2,a5⟩:=h
  exact ⟨a1,a0,a2,fun x=>let ⟨b1,b2,m',b3,b4⟩:=a5 x;⟨b1,b2,key m' w'' (fun v=>.coroswitch g c y v es) ⟨b3,b4⟩⟩⟩
 | spawn=>exact trivial
 | ended=>exact trivial
 | _=>exact h.elim
theorem oQ {α:Type} {L:α->Prop} {s:Sem α} (hs:Fit P L 0 s) (dying:Bool) (fn:FuncId) (K:Result α->GStep) (w:World) {F:World->GStep}
  (hF:∀ w,∃ es,F w=GStep.after es (K (s.runT P w #[]).1)/\(fG (s.runT P w #[]).1=true->es=seen P fn (s.runT P w #[]).2\/es=#[])/\
   ∀ w',(s.runT P w' #[]).2=(s.runT P w #[]).2->fG (s.runT P w #[]).1=true->fG (s.runT P w' #[]).1=true->F w'=GStep.after es (K (s.runT P w' #[]).1))
  (hK:Made dying (s.runT P w #[]).1 K (K (s.runT P w #[]).1)) :
  Local dying F w:=by
 unfold Local
 obtain ⟨ev,hF1,hF2,hF3⟩:=hF w
 have h0:=hK
 clear hK
 unfold Made at h0
 have js:fG (s.runT P w #[]).1=true->deafBehind 0 ev=0:=fun h=>by
  rcases hF2 h with rfl | rfl
  ·rw [seen_even fn (runT_synced s w #[] (fun e he=>by simp at he))]
   exact runT_even s 0 w #[] 0 hs h rfl
  ·rfl
 have hal:=fun h=>mV P s 0 w #[] hs (resOn_of_go h)
 rw [hF1]
 clear hF1 hF2
 generalize hx:s.runT P w #[]=x at h0 js hal hF3 ⊢
 obtain ⟨r,es⟩:=x
 simp only at h0 js hal hF3 ⊢
 have hgo:∀ τ d,fG (reR τ d r)=fG r:=fun τ d=>by cases r with | ok a w=>rfl | halt x w=>cases x<;>rfl
 generalize hk:K r=k at h0 ⊢
 cases k with
 | go g w' es' =>
  obtain ⟨rfl,h1,h2,h3,h4,h5⟩:=h0
  refine ⟨h1,h2,h3,h4,fun hd hr=>?_⟩
  obtain ⟨h6,h7,h9⟩:=h5 hd hr
  obtain ⟨m,e1,e2⟩:=hal h7
  refine ⟨h6,by simpa [GStep.after] using js h7,m,?_,fun τ d ha=>?_⟩
  ·have:=h9 w.tape (w.drawn+m)
   rw [<- e1,hk] at this
   simp only [GStep.go.injEq,true_and,and_true] at this
   exact this
  ·have hw:=e2 τ d ha
   rw [hF3 (re w τ d) (by rw [hw]) h7 (by rw [hw];simp only [hgo];exact h7),hw]
   simp only [h9,GStep.after]
 | comm g cs b sh w' es' =>
  obtain ⟨rfl,h1,h00,h2,h5⟩:=h0
  refine ⟨h1,h00,h2,fun hd=>?_⟩
  obtain ⟨h6,h7,h9⟩:=h5 hd
  obtain ⟨m,e1,e2⟩:=hal h7
  refine ⟨h6,by simpa [GStep.after] using js h7,m,?_,fun τ d ha=>?_⟩
  ·have:=h9 w.tape (w.drawn+m)
   rw [<- e1,hk] at this
   simp only [GStep.comm.injEq,true_and,and_true] at this
   exact this
  ·have hw:=e2 τ d ha
   rw [hF3 (re w τ d) (by rw [hw]) h7 (by rw [hw];simp only [hgo];exact h7),hw]
   simp only [h9,GStep.after]
 | coroswitch g c y w' es' =>
  obtain ⟨rfl,h1,h00,h2,h5⟩:=h0
  refine ⟨h1,h00,h2,fun hd=>?_⟩
  obtain ⟨h6,h7,h9⟩:=h5 hd
  obtain ⟨m,e1,e2⟩:=hal h7
  refine ⟨h6,by simpa [GStep.after] using js h7,m,?_,fun τ d ha=>?_⟩
  ·have:=h9 w.tape (w.drawn+m)
   rw [<- e1,hk] at this
   simp only [GStep.coroswitch.injEq,true_and,and_true] at this
   exact this
  ·have hw:=e2 τ d ha
   rw [hF3 (re w τ d) (by rw [hw]) h7 (by rw [hw];simp only [hgo];exact h7),hw]
   simp only [h9,GStep.after]
 | spawn=>exact trivial
 | ended=>exact trivial
 | _=>exact h0.elim
def made (P:Program) (fr:Frame) (callers:List Frame) (dying:Option Dying):Result Next->GStep
 | .ok a w=>stepG.apply P false fr callers dying (.pure a) w
 | .halt h w=>stepG.apply P false fr callers dying (.halt h) w
end Lf
namespace Lf
open Go Go.Conc
variable {P : Program}
theorem bA (fn:FuncId):seen P fn #[]=#[]:=by simp [seen]
theorem aZ (x:GStep):GStep.after #[] x=x:=by cases x<;>simp [GStep.after]
theorem qL (fr:Frame) (callers:List Frame) (dying:Option Dying) (s:Sem Next) (w:World) {r:Result Next} {es:Array Event} (h:s.runT P w #[]=(r,es)) (hr:fG r=true) :
  stepG.apply P true fr callers dying s w=GStep.after (seen P fr.fn (if fr.kind==.early then #[] else es)) (made P fr callers dying r):=by
 cases r with
 | ok a w' =>
  simp only [made]
  unfold stepG.apply
  simp only [h,if_true,Bool.false_eq_true,if_false,Sem.run,ite_self,bA,aZ]
 | halt x w' =>
  cases x<;>first | (simp [fG] at hr;done) | skip
  all_goals
   simp only [made]
   unfold stepG.apply
   simp only [h,if_true,Bool.false_eq_true,if_false,Sem.run,ite_self,bA,aZ]
theorem apply_made2 (fr:Frame) (callers:List Frame) (dying:Option Dying) (s:Sem Next) (w:World) {r:Result Next} {es:Array Event} (h:s.runT P w #[]=(r,es)) :
  ∃ es',stepG.apply P true fr callers dying s w=GStep.after es' (made P fr callers dying r):=by
 cases r with
 | ok a w'=>exact ⟨_,qL fr callers dying s w h rfl⟩
 | halt x w' =>
  cases x with
  | unsupported u =>
   cases u<;>first
    | (refine ⟨seen P fr.fn (if fr.kind==.early then #[] else es),?_⟩;simp only [made];unfold stepG.apply;simp only [h,if_true,Bool.false_eq_true,if_false,Sem.run,ite_self,bA,aZ];done)
    | (refine ⟨#[],?_⟩;simp only [made];unfold stepG.apply;simp only [h,if_true,Bool.false_eq_true,if_false,Sem.run,ite_self,bA,aZ];done)
  | _=>first
    | (refine ⟨seen P fr.fn (if fr.kind==.early then #[] else es),?_⟩;simp only [made];unfold stepG.apply;simp only [h,if_true,Bool.false_eq_true,if_false,Sem.run,ite_self,bA,aZ];done)
    | (refine ⟨#[],?_⟩;simp only [made];unfold stepG.apply;simp only [h,if_true,Bool.false_eq_true,if_false,Sem.run,ite_self,bA,aZ];done)
theorem apply_made (fr:Frame) (callers:List Frame) (dying:Option Dying) (s:Sem Next) (w:World) :
  ∃ es,stepG.apply P true fr callers dying s w=GStep.after es (made P fr callers dying (s.runT P w #[]).1)/\(fG (s.runT P w #[]).1=true->es=seen P fr.fn (s.runT P w #[]).2\/es=#[])/\
   ∀ w',(s.runT P w' #[]).2=(s.runT P w #[]).2->fG (s.runT P w #[]).1=true->fG (s.runT P w' #[]).1=true->stepG.apply P true fr callers dying s w'=GStep.after es (made P fr callers dying (s.runT P w' #[]).1):=by
 by_cases hr:fG (s.runT P w #[]).1=true
 ·refine ⟨_,qL fr callers dying s w rfl hr,fun _=>?_,fun w' h1 _ h3=>?_⟩
  ·by_cases hk:(fr.kind==.early)=true
   ·exact .inr (by simp only [hk,if_true,bA])
   ·exact .inl (by simp only [hk,if_false,Bool.false_eq_true])
  ·rw [<- h1];exact qL fr callers dying s w' rfl h3
 ·obtain ⟨es',h⟩:=apply_made2 fr callers dying s w (r:=(s.runT P w #[]).1) (es:=(s.runT P w #[]).2) rfl
  exact ⟨es',h,fun h=>absurd h hr,fun _ _ h=>absurd h hr⟩
theorem kW.here {fr:Frame} {callers:List Frame} {st:GoStatus} {dying:Option Dying} {off:Option (Array CommCase×CommShape)} (h:kW ⟨fr,callers,st,dying,off⟩) {fr':Frame} (hf:aA fr') (hk:fr'.kind=fr.kind) (st':GoStatus):kW { frame:=fr',callers:=callers,status:=st',dying:=dying } :=
 h.top hf hk st' none
theorem dieOf_ok {fr:Frame} (hf:aA fr) (l:List ByteArray) (m:String) (b:Bool) (w:World) (dying:Bool) {α:Type} {r:Result α} (K:Result α->GStep):Made dying r K (dieOf fr l m b w):=by
 unfold dieOf Made
 exact ⟨rfl,kW.dead rfl rfl hf (fun _ h=>by cases h),(fun _ h=>by cases h),(by simp),(by simp),(fun h=>by cases h)⟩
theorem qY {fr:Frame} (hf:aA fr) (m:String) (w:World) (dying:Bool) {α:Type} {r:Result α} (K:Result α->GStep):Made dying r K (endThrow fr m w):=dieOf_ok hf _ _ _ _ _ _
theorem endFatal_ok {fr:Frame} (hf:aA fr) (callers:List Frame) (dy:Option Dying) (m:String) (w:World) (dying:Bool) {α:Type} {r:Result α} (K:Result α->GStep):Made dying r K (endFatal P fr callers dy m w):=by
 unfold endFatal
 simp only
 split
 ·exact dieOf_ok hf _ _ _ _ _ _
 ·exact trivial
 ·exact trivial
def k_ (cs cs':List Frame):Prop:=cs'.map (fun f=>(f.todo,f.kind))=cs.map (fun f=>(f.todo,f.kind))
theorem jq:∀ {callers:List Frame} {fr:Frame} {v:Value} {cs:List Frame},tryRecover fr callers=some (v,cs)->k_ callers cs:=by
 intro callers
 induction callers with
 | nil=>intro fr v cs h;unfold tryRecover at h;split at h<;>simp_all
 | cons c rest ih =>
  intro fr v cs h
  unfold tryRecover at h
  split at h
  ·rename_i heq
   cases heq
   split at h
   ·cases h;simp [k_]
   ·cases h
  ·rename_i heq
   cases heq
   obtain ⟨⟨v',rest'⟩,h1,h2⟩:=Option.map_eq_some_iff.1 h
   cases h2
   have:=ih h1
   simp only [k_,List.map_cons] at this ⊢
   rw [this]
  ·cases h
theorem ub:∀ {callers:List Frame} {l:Nat} {v:Value} {cs:List Frame},tryRecoverLoop l callers=some (v,cs)->k_ callers cs:=by
 intro callers
 induction callers with
 | nil=>intro l v cs h;simp [tryRecoverLoop] at h
 | cons c rest ih =>
  intro l v cs h
  unfold tryRecoverLoop at h
  obtain ⟨⟨v',rest'⟩,h1,h2⟩:=Option.map_eq_some_iff.1 h
  cases h2
  have:k_ rest rest':=by
   split at h1
   ·exact ih h1
   ·split at h1
    ·exact jq h1
    ·exact ih h1
   ·exact ih h1
  simp only [k_,List.map_cons] at this ⊢
  rw [this]
theorem kW.sim {g:Goroutine} (h:kW g) {cs:List Frame} (hs:k_ g.callers cs):kW { g with callers:=cs }:=by
 refine ⟨h.frame,fun fr hfr=>?_,fun d hd hc=>?_⟩
 ·have:(fr.todo,fr.kind)∈g.callers.map (fun f=>(f.todo,f.kind)):=by rw [<- hs];exact List.mem_map.2 ⟨fr,hfr,rfl⟩
  obtain ⟨f,hf,e⟩:=List.mem_map.1 this
  exact dU (h.callers f hf) (by simp only [Prod.mk.injEq] at e;exact e.1.symm)
 ·have h0:=h.dying d hd hc
  have e:(cs.map (fun f=>(f.todo,f.kind))).getLast? = (g.callers.map (fun f=>(f.todo,f.kind))).getLast?:=by rw [hs]
  rw [List.getLast?_map,List.getLast?_map] at e
  unfold lowest at h0 ⊢
  simp only
  cases h1:g.callers.getLast? with
  | none=>rw [h1] at e h0;cases h2:cs.getLast? with
   | none=>exact h0
   | some x=>rw [h2] at e;cases e
  | some y=>rw [h1] at e h0;cases h2:cs.getLast? with
   | none=>rw [h2] at e;cases e
   | some x=>rw [h2] at e;simp only [Option.map_some,Option.some.injEq,Prod.mk.injEq] at e;simp only [Option.getD_some] at h0 ⊢;rw [e.2];exact h0
theorem made_ok {fr:Frame} {callers:List Frame} {dying:Option Dying} (hg:kW ⟨fr,callers,.running,dying,none⟩) (r:Result Next) (hL:∀ a w',r=.ok a w'->cX a)
  (hio:∀ g w',r≠.halt (.unsupported (.initOrder g)) w'):Made dying.isSome r (made P fr callers dying) (made P fr callers dying r):=by
 have n7:∀ g:Goroutine,g.dying=dying->(dying.isSome=true->g.dying≠none):=fun g h h'=>by rw [h];intro h0;rw [h0] at h';cases h'
 cases r with
 | ok n w' =>
  have hn:=hL n w' rfl
  cases n with
  | value v =>
   have e:∀ w,made P fr callers dying (.ok (.value v) w)=.go { frame:=fr.finish v,callers,status:=.running,dying } w:=fun w=>by
    simp only [made,stepG.apply,Bool.false_eq_true,if_false,Sem.run,ite_self,bA,aZ]
   rw [e]
   exact ⟨rfl,hg.here (cO hg.frame v) (eO _ _) _,n7 _ rfl,by simp,by simp,fun _ _=>⟨rfl,rfl,fun _ _=>e _⟩⟩
  | skip =>
   have e:∀ w,made P fr callers dying (.ok .skip w)=.go { frame:=fr.finish undef,callers,status:=.running,dying } w:=fun w=>by
    simp only [made,stepG.apply,Bool.false_eq_true,if_false,Sem.run,ite_self,bA,aZ]
   rw [e]
   exact ⟨rfl,hg.here (cO hg.frame _) (eO _ _) _,n7 _ rfl,by simp,by simp,fun _ _=>⟨rfl,rfl,fun _ _=>e _⟩⟩
  | enter f args =>
   have e:∃ k,∀ w,made P fr callers dying (.ok (.enter f args) w)=.go { frame:=Frame.enter P f args k,callers:=fr::callers,status:=.running,dying } w:=⟨_,fun w=>by
    simp only [made,stepG.apply,Bool.false_eq_true,if_false,Sem.run,ite_self,bA,aZ]
    rfl⟩
   obtain ⟨k,e⟩:=e
   rw [e]
   exact ⟨rfl,hg.push (eV _ _ _) hg.frame rfl _,n7 _ rfl,by simp,by simp,fun _ _=>⟨rfl,rfl,fun _ _=>e _⟩⟩
  | round l f t a b =>
   have e:∀ w,made P fr callers dying (.ok (.round l f t a b) w)=.go { frame:=Frame.round l f t a b .normal,callers:=fr::callers,status:=.running,dying } w:=fun w=>by
    simp only [made,stepG.apply,Bool.false_eq_true,if_false,Sem.run,ite_self,bA,aZ]
   rw [e]
   exact ⟨rfl,hg.push (td _ _ _ _ _ _) hg.frame rfl _,n7 _ rfl,by simp,by simp,fun _ _=>⟨rfl,rfl,fun _ _=>e _⟩⟩
  | defer d =>
   have e:∀ w,made P fr callers dying (.ok (.defer d) w)=.go { frame:=({ fr with defers:=d::fr.defers }:Frame).finish undef,callers,status:=.running,dying } w:=fun w=>by
    simp only [made,stepG.apply,Bool.false_eq_true,if_false,Sem.run,ite_self,bA,aZ]
   rw [e]
   exact ⟨rfl,hg.here (fr':=({ fr with defers:=d::fr.defers }:Frame).finish undef) (cO (fr:={ fr with defers:=d::fr.defers }) (dU (fr:=fr) hg.frame rfl) _) (by rw [eO]) _,n7 _ rfl,by simp,by simp,fun _ _=>⟨rfl,rfl,fun _ _=>e _⟩⟩
  | spawn d =>
   have e:(∃ m,made P fr callers dying (.ok (.spawn d) w')=endThrow fr m w')\/∃ g c,made P fr callers dying (.ok (.spawn d) w')=.spawn g c w':=by
    simp only [made,stepG.apply,Bool.false_eq_true,if_false,Sem.run,ite_self,bA,aZ]
    repeat' split
    all_goals first | exact .inl ⟨_,rfl⟩ | exact .inr ⟨_,_,rfl⟩
   rcases e with ⟨m,e⟩ | ⟨g,c,e⟩
   ·rw [e];exact qY hg.frame m w' _ _
   ·rw [e];exact trivial
  | comm cs b sh =>
   have e:∀ w,made P fr callers dying (.ok (.comm cs b sh) w)=.comm { frame:=fr,callers,status:=.running,dying } cs b sh w:=fun w=>by
    simp only [made,stepG.apply,Bool.false_eq_true,if_false,Sem.run,ite_self,bA,aZ]
   rw [e]
   exact ⟨rfl,hg,rfl,n7 _ rfl,fun _=>⟨rfl,rfl,fun _ _=>e _⟩⟩
  | coroswitch c x =>
   have e:∀ w,made P fr callers dying (.ok (.coroswitch c x) w)=.coroswitch { frame:=fr,callers,status:=.running,dying } c x w:=fun w=>by
    simp only [made,stepG.apply,Bool.false_eq_true,if_false,Sem.run,ite_self,bA,aZ]
   rw [e]
   exact ⟨rfl,hg,rfl,n7 _ rfl,fun _=>⟨rfl,rfl,fun _ _=>e _⟩⟩
  | row row args =>
   obtain rfl:row = "runtime.print$piece":=hn
   by_cases hex:∃ ro ar k,fr.todo=.extern ro ar::k
   ·obtain ⟨ro,ar,k,ht⟩:=hex
    have e:∀ w,made P fr callers dying (.ok (.row "runtime.print$piece" args) w)=.go { frame:={ fr with todo:=.extern "runtime.print$piece" args::k },callers,status:=.running,dying } w:=fun w=>by
     simp only [made,stepG.apply,Bool.false_eq_true,if_false,Sem.run,ite_self,bA,aZ,ht]
    rw [e]
    refine ⟨rfl,hg.here (fr':={ fr with todo:=.extern "runtime.print$piece" args::k }) (fun it hit=>?_) rfl _,n7 _ rfl,by simp,by simp,fun _ _=>⟨rfl,rfl,fun _ _=>e _⟩⟩
    rcases List.mem_cons.1 hit with rfl | hit
    ·rfl
    ·exact hg.frame it (by show it∈fr.todo;rw [ht];exact List.mem_cons_of_mem _ hit)
   ·have e:∃ k,∀ w,made P fr callers dying (.ok (.row "runtime.print$piece" args) w)=.go { frame:=Frame.ofRow P "runtime.print$piece" args k,callers:=fr::callers,status:=.running,dying } w:=by
     refine ⟨.normal,fun w=>?_⟩
     cases htd:fr.todo with
     | nil=>simp only [made,stepG.apply,Bool.false_eq_true,if_false,Sem.run,ite_self,bA,aZ,htd]
     | cons it k =>
      cases it with
      | extern ro ar=>exact (hex ⟨_,_,_,htd⟩).elim
      | call a b c d=>exact (hg.frame (.call a b c d) (by show _∈fr.todo;rw [htd];exact List.mem_cons_self):False).elim
      | _=>simp only [made,stepG.apply,Bool.false_eq_true,if_false,Sem.run,ite_self,bA,aZ,htd]
    obtain ⟨k,e⟩:=e
    rw [e]
    exact ⟨rfl,hg.push (okFrame_row _ _) hg.frame rfl _,n7 _ rfl,by simp,by simp,fun _ _=>⟨rfl,rfl,fun _ _=>e _⟩⟩
  | recover =>
   have e:(∃ v cs,k_ callers cs/\∀ w,made P fr callers dying (.ok .recover w)=.go { frame:=fr.finish v,callers:=cs,status:=.running,dying } w):=by
    simp only [made,stepG.apply,Bool.false_eq_true,if_false,Sem.run,ite_self,bA,aZ]
    split
    ·rename_i v cs h
     refine ⟨v,cs,?_,fun _=>rfl⟩
     split at h
     ·split at h
      ·exact jq h
      ·exact ub h
     ·exact jq h
    ·exact ⟨_,callers,rfl,fun _=>rfl⟩
   obtain ⟨v,cs,hs,e⟩:=e
   rw [e]
   exact ⟨rfl,(hg.here (cO hg.frame v) (eO _ _) .running).sim hs,n7 _ rfl,by simp,by simp,fun _ _=>⟨rfl,rfl,fun _ _=>e _⟩⟩
  | _=>exact hn.elim
 | halt x w' =>
  cases x with
  | panic v =>
   have e:∀ w,made P fr callers dying (.halt (.panic v) w)=.go { frame:=fr.raise [{ v,recovered:=false }],callers,status:=.running,dying } w:=fun w=>by
    simp only [made,stepG.apply,Bool.false_eq_true,if_false,Sem.run,ite_self,bA,aZ]
   rw [e]
   exact ⟨rfl,hg.here (eW hg.frame _) (iB _ _) _,n7 _ rfl,by simp,by simp,fun _ _=>⟨rfl,rfl,fun _ _=>e _⟩⟩
  | goexit =>
   have e:∀ w,made P fr callers dying (.halt .goexit w)=.go { frame:=fr.raise [goexitEntry],callers,status:=.running,dying } w:=fun w=>by
    simp only [made,stepG.apply,Bool.false_eq_true,if_false,Sem.run,ite_self,bA,aZ]
   rw [e]
   exact ⟨rfl,hg.here (eW hg.frame _) (iB _ _) _,n7 _ rfl,by simp,by simp,fun _ _=>⟨rfl,rfl,fun _ _=>e _⟩⟩
  | blocked =>
   have e:made P fr callers dying (.halt .blocked w')=.go { frame:=fr,callers,status:=.blocked,dying } w':=by
    simp only [made,stepG.apply,Bool.false_eq_true,if_false,Sem.run,ite_self,bA,aZ]
   rw [e]
   exact ⟨rfl,hg.here hg.frame rfl _,n7 _ rfl,by simp,by simp,fun _ h=>by cases h⟩
  | waiting =>
   have e:made P fr callers dying (.halt .waiting w')=.go { frame:=fr,callers,status:=.waiting,dying } w':=by
    simp only [made,stepG.apply,Bool.false_eq_true,if_false,Sem.run,ite_self,bA,aZ]
   rw [e]
   exact ⟨rfl,hg.here hg.frame rfl _,n7 _ rfl,by simp,by simp,fun _ h=>by cases h⟩
  | fatal m =>
   have e:made P fr callers dying (.halt (.fatal m) w')=endFatal P fr callers dying m w':=by
    simp only [made,stepG.apply,Bool.false_eq_true,if_false,Sem.run,ite_self,bA,aZ]
   rw [e];exact endFatal_ok hg.frame callers dying m w' _ _
  | throw m =>
   have e:made P fr callers dying (.halt (.throw m) w')=endThrow fr m w':=by
    simp only [made,stepG.apply,Bool.false_eq_true,if_false,Sem.run,ite_self,bA,aZ]
   rw [e];exact qY hg.frame m w' _ _
  | unsupported u =>
   cases u with
   | initOrder g=>exact absurd rfl (hio g w')
   | _ =>
    simp only [made,stepG.apply,Bool.false_eq_true,if_false,Sem.run,ite_self,bA,aZ]
    exact trivial
  | _ =>
   simp only [made,stepG.apply,Bool.false_eq_true,if_false,Sem.run,ite_self,bA,aZ]
   exact trivial
theorem kW.pushes {fr:Frame} {callers:List Frame} {dying:Option Dying} (h:kW ⟨fr,callers,.running,dying,none⟩) {f:Frame} (hf:aA f) {l:List Frame} (hl:∀ x∈l,aA x):kW { frame:=f,callers:=l++fr::callers,status:=.running,dying:=dying }:=by
 refine ⟨hf,fun x hx=>?_,fun d hd hc=>?_⟩
 ·rcases List.mem_append.1 hx with hx | hx
  ·exact hl x hx
  ·rcases List.mem_cons.1 hx with rfl | hx
   ·exact h.frame
   ·exact h.callers x hx
 ·have:=h.dying d hd hc
  unfold lowest at this ⊢
  simp only [List.getLast?_append,List.getLast?_cons] at this ⊢
  cases hl:callers.getLast?<;>simp [hl] at this ⊢<;>exact this
theorem brought_re (w:World) (τ:Tape) (d n:Nat):∀ l s,P.brought (re w τ d) n l s=P.brought w n l s:=by
 induction n with
 | zero=>intro l s;unfold Program.brought;cases l<;>rfl
 | succ n ih =>
  intro l s
  cases l with
  | nil=>rfl
  | cons f l =>
   unfold Program.brought
   simp only [ih]
   rfl
theorem found_re (w:World) (τ:Tape) (d n:Nat):∀ f,P.found (re w τ d) n f=P.found w n f:=by
 induction n with
 | zero=>intro f;rfl
 | succ n ih =>
  intro f
  unfold Program.found
  simp only [ih]
  rfl
theorem local_early {fr:Frame} {callers:List Frame} {dying:Option Dying} (hg:kW ⟨fr,callers,.running,dying,none⟩) (g:Nat) (w:World):Local dying.isSome (fun w=>early P fr callers dying g w) w:=by
 have n7:∀ g:Goroutine,g.dying=dying->(dying.isSome=true->g.dying≠none):=fun g h h'=>by rw [h];intro h0;rw [h0] at h';cases h'
 have hh:∀ w τ d,(re w τ d).heap=w.heap:=fun _ _ _=>rfl
 have hbr:∀ w τ d n l s,P.brought (re w τ d) n l s=P.brought w n l s:=fun w τ d n l s=>brought_re w τ d n l s
 have hfo:∀ w τ d n f,P.found (re w τ d) n f=P.found w n f:=fun w τ d n f=>found_re w τ d n f
 have now:∀ {F:World->GStep} (x:Goroutine) (f:Array Obj->Array Obj) (w:World),kW x->x.dying=dying->x.status=.running->x.offers=none->(∀ τ d,F (re w τ d)=.go x (re { w with heap:=f w.heap } τ d))->Local dying.isSome F w:=by
  intro F x f w hx hd df ho hF
  have h0:=hF w.tape w.drawn
  rw [re_self] at h0
  unfold Local
  rw [h0]
  exact ⟨hx,n7 _ hd,by rw [df];simp,by rw [df];simp,fun _ _=>⟨ho,rfl,0,rfl,fun τ d _=>hF τ d⟩⟩
 have stop:∀ {F:World->GStep} (w:World) {o w' es},F w=.ended o w' es->Local dying.isSome F w:=by
  intro F w o w' es h;unfold Local;rw [h];trivial
 have notYet:∀ {F:World->GStep} (w:World),(∀ τ d,F (re w τ d)=match w.heap[g]? with | some (.pending c elem)=>.go { frame:=fr,callers,status:=.running,dying } (re { w with heap:=w.heap.setIfInBounds g (.cells c elem) } τ d) | _=>.ended (.stuck "early: the variable does not wait" (fr.pos P)) (re w τ d))->Local dying.isSome F w:=by
  intro F w hF
  cases hw:w.heap[g]? with
  | none=>exact stop w (by have:=hF w.tape w.drawn;rw [hw] at this;exact this)
  | some o =>
   cases o with
   | pending c elem=>exact now _ (fun h=>h.setIfInBounds g (.cells c elem)) w (hg.here hg.frame rfl _) rfl rfl rfl (fun τ d=>by rw [hF,hw])
   | _=>exact stop w (by have:=hF w.tape w.drawn;rw [hw] at this;exact this)
 have hsh:∀ w τ d (o:Option Nat),o.bind (re w τ d).shape? = o.bind w.shape?:=fun _ _ _ _=>rfl
 by_cases h1:P.follows .staticDataAhead=true
 ·cases h2:P.stepOf g with
  | none=>exact stop (o:=.unsupported (.initOrder g) (fr.pos P)) (w':=w) (es:=#[]) w (by simp [early,h1,h2])
  | some f =>
   have there:∀ {F:World->GStep} (w:World),(∀ τ d,F (re w τ d)=.go { frame:=Frame.enter P f #[] .early,callers:=(if (P.code? f).any P.plainData then (P.brought w (2*P.funcs.size+1) [f] []).drop 1 else []).map (Frame.enter P · #[] .early)++fr::callers,status:=.running,dying } (re w τ d))->Local dying.isSome F w:=by
    intro F w hF
    refine now _ (fun h=>h) w (hg.pushes (eV _ _ _) fun x hx=>?_) rfl rfl rfl hF
    obtain ⟨y,_,rfl⟩:=List.mem_map.1 hx
    exact eV _ _ _
   by_cases h3:(P.code? f).any P.atRunTime=true
   ·exact notYet w (fun τ d=>by simp only [early,h1,h2,h3,hh,Bool.not_true,Bool.false_eq_true,if_false,if_true];rfl)
   by_cases h4:(((P.code? f).bind fun c=>(readies c).getLast?).bind w.shape?).isSome=true
   ·exact notYet w (fun τ d=>by simp only [early,h1,h2,h3,h4,hh,hsh,Bool.not_true,Bool.false_eq_true,if_false,if_true];rfl)
   cases h5:P.found w P.funcs.size f with
   | unknown=>exact stop (o:=.unsupported (.initOrder g) (fr.pos P)) (w':=w) (es:=#[]) w (by simp only [early,h1,h2,h3,h4,h5,Bool.not_true,Bool.false_eq_true,if_false])
   | notYet =>
    cases h6:(fr.kind==.early) with
    | true=>exact stop (o:=.unsupported (.initOrder g) (fr.pos P)) (w':=w) (es:=#[]) w (by simp only [early,h1,h2,h3,h4,h5,h6,Bool.not_true,Bool.false_eq_true,if_false])
    | false=>exact notYet w (fun τ d=>by simp only [early,h1,h2,h3,h4,h5,h6,hh,hsh,hfo,Bool.not_true,Bool.false_eq_true,if_false];rfl)
   | either =>
    cases h6:(fr.kind==.early) with
    | true=>exact there w (fun τ d=>by simp only [early,h1,h2,h3,h4,h5,h6,hh,hsh,hfo,hbr,Bool.not_true,Bool.false_eq_true,if_false])
    | false =>
     by_cases h7:(P.code? f).any P.plainData=true
     ·exact there w (fun τ d=>by simp only [early,h1,h2,h3,h4,h5,h6,h7,hh,hsh,hfo,hbr,Bool.not_true,Bool.false_eq_true,if_false,if_true])
     by_cases h8:(P.code? f).any P.bareCopy=true
     ·have hch:∀ w,(choose (.early g)).run P w=.ok ((Question.early g).cut (w.tape w.drawn (.early g))) { w with drawn:=w.drawn+1 }:=fun w=>by simp [choose,Sem.run,Question.forced]
      have al:∀ τ d,Alike w 1 τ d->τ d=w.tape w.drawn:=fun τ d h=>by have:=h 0 (by omega);simpa using this
      cases hn:(Question.early g).cut (w.tape w.drawn (.early g)) with
      | zero =>
       refine nI (E:=fun v=>match v.heap[g]? with | some (.pending c elem)=>.go { frame:=fr,callers,status:=.running,dying } { v with heap:=v.heap.setIfInBounds g (.cells c elem) } | _=>.ended (.stuck "early: the variable does not wait" (fr.pos P)) v) (w':={ w with drawn:=w.drawn+1 }) (m:=1) ?_ rfl (fun τ d ha=>?_) (notYet _ (fun τ d=>?_))
       ·simp only [early,h1,h2,h3,h4,h5,h6,h7,h8,hch,hn,Bool.not_true,Bool.false_eq_true,if_false]
        rfl
       ·have e:(Question.early g).cut ((re w τ d).tape (re w τ d).drawn (.early g))=0:=by show (Question.early g).cut (τ d (.early g))=0;rw [al τ d ha];exact hn
        simp only [early,h1,h2,h3,h4,h5,h6,h7,h8,hh,hsh,hfo,hch,e,Bool.not_true,Bool.false_eq_true,if_false]
        rfl
       ·rfl
      | succ k =>
       refine nI (E:=fun v=>.go { frame:=Frame.enter P f #[] .early,callers:=(if (P.code? f).any P.plainData then (P.brought w (2*P.funcs.size+1) [f] []).drop 1 else []).map (Frame.enter P · #[] .early)++fr::callers,status:=.running,dying } v) (w':={ w with drawn:=w.drawn+1 }) (m:=1) ?_ rfl (fun τ d ha=>?_) (there _ (fun τ d=>?_))
       ·simp only [early,h1,h2,h3,h4,h5,h6,h7,h8,hch,hn,Bool.not_true,Bool.false_eq_true,if_false]
       ·have e:(Question.early g).cut ((re w τ d).tape (re w τ d).drawn (.early g))=k+1:=by show (Question.early g).cut (τ d (.early g))=k+1;rw [al τ d ha];exact hn
        simp only [early,h1,h2,h3,h4,h5,h6,h7,h8,hh,hsh,hfo,hch,e,Bool.not_true,Bool.false_eq_true,if_false]
        rfl
       ·simp only [h7,Bool.false_eq_true,if_false]
     ·exact notYet w (fun τ d=>by simp only [early,h1,h2,h3,h4,h5,h6,h7,h8,hh,hsh,hfo,Bool.not_true,Bool.not_false,Bool.false_eq_true,if_false,if_true];rfl)
 ·exact notYet w (fun τ d=>by simp only [early,h1,hh,Bool.not_false,if_true];rfl)
theorem nH {fr:Frame} {callers:List Frame} {dying:Option Dying} (hg:kW ⟨fr,callers,.running,dying,none⟩) {s:Sem Next} (hs:Fit P cX 0 s) (w:World):Local dying.isSome (fun w=>stepG.apply P true fr callers dying s w) w:=by
 by_cases hio:∃ g w',(s.runT P w #[]).1=.halt (.unsupported (.initOrder g)) w'
 ·obtain ⟨g,w',hr⟩:=hio
  obtain ⟨m,e1,e2⟩:=mV P s 0 w #[] hs (by rw [hr];rfl)
  have ea:∀ w w' es,s.runT P w #[]=(.halt (.unsupported (.initOrder g)) w',es)->stepG.apply P true fr callers dying s w=early P fr callers dying g w':=by
   intro w w' es h
   unfold stepG.apply
   simp only [h,if_true,ite_self,bA,aZ]
  refine nI (E:=fun w=>early P fr callers dying g w) (w':=w') (m:=m) (ea w w' _ (Prod.ext hr rfl)) ?_ (fun τ d ha=>?_) (local_early hg g w')
  ·rw [hr] at e1;simp only [reR,Result.halt.injEq,true_and] at e1;exact e1
  ·have:=e2 τ d ha
   rw [hr] at this
   exact ea _ _ _ this
 ·exact oQ hs _ fr.fn (made P fr callers dying) w (fun w=>apply_made fr callers dying s w) (made_ok hg _ (fun a w' h=>runT_leaf s 0 w #[] hs h) (fun g w' h=>hio ⟨g,w',h⟩))
end Lf
namespace Lf
open Go Go.Conc
variable {P : Program}
theorem n7 {dying:Option Dying} (g:Goroutine) (h:g.dying=dying):(dying.isSome=true->g.dying≠none):=fun h'=>by rw [h];intro h0;rw [h0] at h';cases h'
theorem oP {dying:Option Dying} {F:World->GStep} {w:World} (x:Goroutine) (hx:kW x) (hd:dying.isSome=true->x.dying≠none) (hs:∀ t,x.status≠.sleeping t) (hp:x.status≠.parked) (ho:x.offers=none) (hF:∀ τ d,F (re w τ d)=.go x (re w τ d)):Local dying.isSome F w:=by
 have h0:=hF w.tape w.drawn
 rw [re_self] at h0
 unfold Local
 rw [h0]
 exact ⟨hx,hd,hs,hp,fun _ _=>⟨ho,rfl,0,rfl,fun τ d _=>hF τ d⟩⟩
theorem dL {dying:Bool} {F:World->GStep} {w:World} {o:Outcome} {w':World} {es:Array Event} (h:F w=.ended o w' es):Local dying F w:=by
 unfold Local;rw [h];trivial
theorem fe {dying:Bool} {α:Type} {r:Result α} {K:Result α->GStep} {g:Goroutine} {w':World} (h1:kW g) (h2:dying=true->g.dying≠none) (h3:∀ t,g.status≠.sleeping t) (h4:g.status≠.parked) (h5:g.offers=none) (h6:fG r=true) (h7:∀ τ d,K (reR τ d r)=.go g (re w' τ d)):Made dying r K (.go g w') :=
 ⟨rfl,h1,h2,h3,h4,fun _ _=>⟨h5,h6,h7⟩⟩
theorem qW {fr:Frame} {callers:List Frame} {dying:Option Dying} (hg:kW ⟨fr,callers,.running,dying,none⟩) (hc:∀ d,dying=some d->d.calling=true) (v:Value) {α:Type} {r:Result α} {K:Result α->GStep} {w:World} (hr:fG r=true) (hK:∀ τ d,K (reR τ d r)=doReturn P true fr callers dying v (re w τ d)) :
  Made dying.isSome r K (doReturn P true fr callers dying v w):=by
 have go:∀ {x:Goroutine},kW x->(dying.isSome=true->x.dying≠none)->x.status=.running->x.offers=none->(∀ w,doReturn P true fr callers dying v w=.go x w)->Made dying.isSome r K (doReturn P true fr callers dying v w):=by
  intro x h1 h2 h3 h4 h5
  rw [h5]
  exact fe h1 h2 (by rw [h3];simp) (by rw [h3];simp) h4 hr (fun τ d=>by rw [hK,h5])
 cases callers with
 | cons c rest =>
  have hcf:aA c:=hg.callers c List.mem_cons_self
  cases hk:fr.kind with
  | normal=>exact go (hg.pop rfl (cO hcf v) (eO _ _) .running) (n7 _ rfl) rfl rfl (fun w=>by simp only [doReturn,hk])
  | wrapped=>exact go (hg.pop rfl (cO hcf v) (eO _ _) .running) (n7 _ rfl) rfl rfl (fun w=>by simp only [doReturn,hk])
  | early=>exact go (hg.pop rfl hcf rfl .running) (n7 _ rfl) rfl rfl (fun w=>by simp only [doReturn,hk])
  | _ =>
   have e:∃ c':Frame,c'.todo=c.todo/\c'.kind=c.kind/\∀ w,doReturn P true fr (c::rest) dying v w=.go { frame:=c',callers:=rest,status:=.running,dying } w:=by
    simp only [doReturn,hk]
    split
    ·split
     ·exact ⟨{ c with mode:=.returning },rfl,rfl,fun _=>rfl⟩
     ·exact ⟨{ c with mode:=.panicking _ },rfl,rfl,fun _=>rfl⟩
    ·exact ⟨c,rfl,rfl,fun _=>rfl⟩
   obtain ⟨c',e1,e2,e3⟩:=e
   exact go (hg.pop rfl (dU hcf e1) e2 .running) (n7 _ rfl) rfl rfl e3
 | nil =>
  cases hk:fr.kind with
  | report =>
   have e:(∃ d',d'.calling=false/\∀ w,doReturn P true fr [] dying v w=.go { frame:=fr,callers:=[],status:=.running,dying:=some d' } w)\/∃ o,doReturn P true fr [] dying v w=.ended o w:=by
    simp only [doReturn,hk]
    split
    ·exact .inl ⟨_,rfl,fun _=>rfl⟩
    ·exact .inr ⟨_,rfl⟩
    ·rename_i h _;exact absurd rfl h
   rcases e with ⟨d',e1,e2⟩ | ⟨o,e⟩
   ·exact go (x:={ frame:=fr,callers:=[],status:=.running,dying:=some d' }) (kW.dead rfl e1 hg.frame (fun _ h=>by cases h)) (fun _ h=>by cases h) rfl rfl e2
   ·rw [e];exact trivial
  | _ =>
   have hnd:dying=none:=by
    cases hdd:dying with
    | none=>rfl
    | some d =>
     have:=hg.dying d hdd (hc d hdd)
     simp [lowest,hk] at this
   subst hnd
   have e:(∃ f,∀ w,doReturn P true fr [] none v w=.go { frame:=Frame.enter P f #[] .normal,callers:=[],status:=.running,dying:=none } w)\/∃ o,doReturn P true fr [] none v w=.ended o w:=by
    simp only [doReturn,hk,Bool.not_true,Bool.false_eq_true,if_false]
    split
    ·exact .inl ⟨_,fun _=>rfl⟩
    ·exact .inr ⟨_,rfl⟩
   rcases e with ⟨f,e⟩ | ⟨o,e⟩
   ·exact go (x:={ frame:=Frame.enter P f #[] .normal,callers:=[],status:=.running,dying:=none }) ⟨eV _ _ _,(fun _ h=>by cases h),(fun _ h=>by cases h)⟩ (fun h=>by cases h) rfl rfl e
   ·rw [e];exact trivial
theorem results_fit (fn:Func) (tmps:Array Value):Fit P (fun _=>True) 0 (results fn tmps):=by
 unfold results
 refine aQ (fAm (fun x=>?_) _) fun _=>aq P _
 cases x with
 | tmp t=>exact aq P _
 | cell a t=>exact aQ (jS P _) fun _=>fF P _ _
theorem fT (hP:Plain P) {fr:Frame} {callers:List Frame} {dying:Option Dying} (hg:kW ⟨fr,callers,.running,dying,none⟩) (d:Deferred) (w:World):Local dying.isSome (fun w=>callDeferred P fr callers dying d w) w:=by
 by_cases h0:d.target=.nil/\∃ c,fr.mode=.panicking c
 ·obtain ⟨h1,c,h2⟩:=h0
  have:∃ o,callDeferred P fr callers dying d w=.ended o w:=by
   unfold callDeferred
   rw [h1,h2]
   exact ⟨_,rfl⟩
  obtain ⟨o,e⟩:=this
  exact dL e
 ·have e:∃ (φ:Result Next->Array Event->Array Event) (K:Result Next->GStep),(∀ w,callDeferred P fr callers dying d w=GStep.after (φ ((invoke d.target d.args).runT P w #[]).1 ((invoke d.target d.args).runT P w #[]).2) (K ((invoke d.target d.args).runT P w #[]).1))/\
    (∀ r es,fG r=true->φ r es=seen P fr.fn es)/\∀ r:Result Next,(∀ a w',r=.ok a w'->cX a)->Made dying.isSome r K (K r):=by
   refine ⟨fun r es=>seen P fr.fn (match r with | .halt .blocked _ | .halt .waiting _=>#[] | _=>es),?K,?main,?uC,?rest⟩
   case main =>
    intro w
    unfold callDeferred
    refine (if_neg fun h=>h0 ?_).trans ?_
    ·cases h1:d.target<;>rw [h1] at h<;>first | (simp at h;done) | skip
     cases h2:fr.mode<;>rw [h2] at h<;>first | (simp at h;done) | skip
     exact ⟨rfl,_,rfl⟩
    generalize (invoke d.target d.args).runT P w #[]=x
    obtain ⟨r,es⟩:=x
    dsimp only
    exact rfl
   case uC =>
    intro r es hr
    cases r with
    | ok a w=>rfl
    | halt x w=>cases x<;>first | rfl | (simp [fG] at hr;done)
   case rest =>
    intro r hL
    cases r with
    | ok n w' =>
     have hn:=hL n w' rfl
     cases n with
     | enter f args=>exact fe (hg.push (eV _ _ _) hg.frame rfl _) (n7 _ rfl) (by simp) (by simp) rfl rfl (fun _ _=>rfl)
     | round l f t a b=>exact fe (hg.push (td _ _ _ _ _ _) hg.frame rfl _) (n7 _ rfl) (by simp) (by simp) rfl rfl (fun _ _=>rfl)
     | row row args =>
      obtain rfl:row = "runtime.print$piece":=hn
      exact fe (hg.push (okFrame_row _ _) hg.frame rfl _) (n7 _ rfl) (by simp) (by simp) rfl rfl (fun _ _=>rfl)
     | recover =>
      have e:∃ cs,k_ callers cs/\∀ w,(match fr.mode,tryRecover fr callers with | .returning,some (_,callers)=>GStep.go { frame:=fr,callers,status:=.running,dying } w | _,_=>GStep.go { frame:=fr,callers,status:=.running,dying } w)=.go { frame:=fr,callers:=cs,status:=.running,dying } w:=by
       split
       ·rename_i h;exact ⟨_,jq h,fun _=>rfl⟩
       ·exact ⟨callers,rfl,fun _=>rfl⟩
      obtain ⟨cs,h1,h2⟩:=e
      exact Eq.mpr (congrArg (Made dying.isSome (Result.ok Next.recover w') _) (h2 w')) (fe ((hg.here hg.frame rfl .running).sim h1) (n7 _ rfl) (by simp) (by simp) rfl rfl (fun τ d=>h2 (re w' τ d)))
     | coroswitch c x =>
      cases x with
      | true=>exact ⟨rfl,hg,rfl,n7 _ rfl,fun _=>⟨rfl,rfl,fun _ _=>rfl⟩⟩
      | false=>exact trivial
     | value v=>exact fe (hg.here hg.frame rfl _) (n7 _ rfl) (by simp) (by simp) rfl rfl (fun _ _=>rfl)
     | skip=>exact fe (hg.here hg.frame rfl _) (n7 _ rfl) (by simp) (by simp) rfl rfl (fun _ _=>rfl)
     | defer d=>exact fe (hg.here hg.frame rfl _) (n7 _ rfl) (by simp) (by simp) rfl rfl (fun _ _=>rfl)
     | spawn d=>exact fe (hg.here hg.frame rfl _) (n7 _ rfl) (by simp) (by simp) rfl rfl (fun _ _=>rfl)
     | comm a b c=>exact fe (hg.here hg.frame rfl _) (n7 _ rfl) (by simp) (by simp) rfl rfl (fun _ _=>rfl)
     | _=>exact hn.elim
    | halt x w' =>
     cases x with
     | panic v=>exact fe (hg.here (eW hg.frame _) (iB _ _) _) (n7 _ rfl) (by simp) (by simp) rfl rfl (fun _ _=>rfl)
     | goexit=>exact fe (hg.here (eW hg.frame _) (iB _ _) _) (n7 _ rfl) (by simp) (by simp) rfl rfl (fun _ _=>rfl)
     | fatal m=>exact endFatal_ok hg.frame callers dying m w' _ _
     | throw m=>exact qY hg.frame m w' _ _
     | blocked=>exact ⟨rfl,hg.here (fr':={ fr with defers:=d::fr.defers }) (dU (fr:=fr) hg.frame rfl) rfl _,n7 _ rfl,by simp,by simp,fun _ h=>by cases h⟩
     | waiting=>exact ⟨rfl,hg.here (fr':={ fr with defers:=d::fr.defers }) (dU (fr:=fr) hg.frame rfl) rfl _,n7 _ rfl,by simp,by simp,fun _ h=>by cases h⟩
     | _=>exact trivial
  obtain ⟨φ,K,h1,h2,h3⟩:=e
  refine oQ (pQ hP _ _) _ fr.fn K w (fun w=>⟨_,h1 w,fun hr=>.inl (h2 _ _ hr),fun w' ha hr hr'=>?_⟩) (h3 _ fun a w' h=>runT_leaf _ 0 w #[] (pQ hP _ _) h)
  rw [h1 w',h2 _ _ hr,h2 _ _ hr',ha]
end Lf
namespace Lf
open Go Go.Conc
variable {P : Program}
theorem pZ {α:Type} {L:α->Prop} {s:Sem α} (hs:Fit P L 0 s) {dying:Bool} {fn:FuncId} {w:World} {F:World->GStep}
  (h:∃ K:Result α->GStep,(∀ w,F w=GStep.after (seen P fn (s.runT P w #[]).2) (K (s.runT P w #[]).1))/\∀ r,Made dying r K (K r)):Local dying F w:=by
 obtain ⟨K,h1,h2⟩:=h
 refine oQ hs _ fn K w (fun w=>⟨_,h1 w,fun _=>.inl rfl,fun w' ha _ _=>?_⟩) (h2 _)
 rw [h1 w',ha]
theorem local_doReturn {fr:Frame} {callers:List Frame} {dying:Option Dying} (hg:kW ⟨fr,callers,.running,dying,none⟩) (hc:∀ d,dying=some d->d.calling=true) (v:Value) {F:World->GStep} (hF:∀ w,F w=doReturn P true fr callers dying v w) (w:World):Local dying.isSome F w:=by
 refine oQ (L:=fun _=>True) (s:=(pure ():Sem Unit)) (aq P ()) _ fr.fn (fun r=>match r with | .ok _ w=>doReturn P true fr callers dying v w | .halt _ w=>.ended (.stuck "" "") w) w (fun w=>⟨#[],?_,fun _=>.inr rfl,fun w' _ _ _=>?_⟩) ?_
 ·rw [hF,aZ];rfl
 ·rw [hF,aZ];rfl
 ·exact qW hg hc v rfl (fun _ _=>rfl)
theorem local_dead {dying:Bool} {F:World->GStep} {w w':World} {fr:Frame} {d:Dying} (hf:aA fr) (h1:d.calling=false) (h:F w=.go { frame:=fr,callers:=[],status:=.running,dying:=some d } w'):Local dying F w:=by
 unfold Local;rw [h]
 exact ⟨kW.dead rfl h1 hf (fun _ h=>by cases h),(fun _ h=>by cases h),(by simp),(by simp),(fun h=>by cases h)⟩
theorem local_unwind (hP:Plain P) {fr:Frame} {callers:List Frame} {dying:Option Dying} (hg:kW ⟨fr,callers,.running,dying,none⟩) (hc:∀ d,dying=some d->d.calling=true) (w:World):Local dying.isSome (fun w=>unwind P true fr callers dying w) w:=by
 cases hd:fr.defers with
 | cons d ds =>
  have oq:kW ⟨{ fr with defers:=ds },callers,.running,dying,none⟩:=hg.here (fr':={ fr with defers:=ds }) (dU (fr:=fr) hg.frame rfl) rfl _
  obtain ⟨t,args⟩:=d
  cases t with
  | collected block =>
   refine pZ (P:=P) (s:=Instr.takeDeferred block) (pJ P block) (fn:=fr.fn) ⟨?K,?main,?rest⟩
   case main =>
    intro w
    unfold unwind
    rw [hd]
    dsimp only
    generalize (Instr.takeDeferred block).runT P w #[]=x
    obtain ⟨r,es⟩:=x
    dsimp only
    exact rfl
   case rest =>
    intro r
    cases r with
    | ok a w=>exact fe (hg.here (fr':={ fr with defers:=a++ds }) (dU (fr:=fr) hg.frame rfl) rfl _) (n7 _ rfl) (by simp) (by simp) rfl rfl (fun _ _=>rfl)
    | halt x w=>exact trivial
  | fn a b =>
   have e:∀ w,unwind P true fr callers dying w=callDeferred P { fr with defers:=ds } callers dying ⟨.fn a b,args⟩ w:=fun w=>by unfold unwind;rw [hd]
   simp only [e];exact fT hP oq _ w
  | nil =>
   have e:∀ w,unwind P true fr callers dying w=callDeferred P { fr with defers:=ds } callers dying ⟨.nil,args⟩ w:=fun w=>by unfold unwind;rw [hd]
   simp only [e];exact fT hP oq _ w
  | builtin a b c d =>
   have e:∀ w,unwind P true fr callers dying w=callDeferred P { fr with defers:=ds } callers dying ⟨.builtin a b c d,args⟩ w:=fun w=>by unfold unwind;rw [hd]
   simp only [e];exact fT hP oq _ w
  | coroexit c =>
   have e:∀ w,unwind P true fr callers dying w=callDeferred P { fr with defers:=ds } callers dying ⟨.coroexit c,args⟩ w:=fun w=>by unfold unwind;rw [hd]
   simp only [e];exact fT hP oq _ w
 | nil =>
  cases hm:fr.mode with
  | run=>exact dL (o:=.stuck "unwind: the frame is running" (fr.pos P)) (w':=w) (es:=#[]) (by unfold unwind;rw [hd,hm])
  | panicking chain =>
   by_cases hcat:fr.catches P=true
   ·exact dL (o:=.unsupported (.noEntry "a panic or Goexit out of a method that fmt calls behind a cut's door") (fr.pos P)) (w':=w) (es:=#[]) (by unfold unwind;rw [hd,hm];simp only [hcat,if_true])
   ·cases callers with
    | cons c rest =>
     exact oP _ (hg.pop rfl (eW (hg.callers c List.mem_cons_self) chain) (iB _ _) .running) (n7 _ rfl) (by simp) (by simp) rfl (fun τ d=>by unfold unwind;rw [hd,hm];simp only [hcat,if_false,Bool.false_eq_true])
    | nil =>
     cases hdy':dying with
     | none =>
      subst hdy'
      by_cases pg:(chain.head?.any (·.goexit))=true
      ·exact oP (dying:=none) { frame:=fr,callers:=[],status:=.finished,dying:=none } (hg.here hg.frame rfl _) (fun h=>by cases h) (by simp) (by simp) rfl (fun τ d=>by unfold unwind;rw [hd,hm];simp only [hcat,pg,if_false,if_true,Bool.false_eq_true])
      ·have e:(∃ d w',d.calling=false/\unwind P true fr [] none w=.go { frame:=fr,callers:=[],status:=.running,dying:=some d } w')\/∃ o w',unwind P true fr [] none w=.ended o w':=by
        unfold unwind;rw [hd,hm];simp only [hcat,pg,if_false,Bool.false_eq_true]
        split
        ·exact .inl ⟨_,_,rfl,rfl⟩
        ·exact .inr ⟨_,_,rfl⟩
        ·exact .inr ⟨_,_,rfl⟩
       rcases e with ⟨d,w',h1,h2⟩ | ⟨o,w',h⟩
       ·exact local_dead hg.frame h1 h2
       ·exact dL h
     | some d =>
      have e:(∃ d' w',d'.calling=false/\unwind P true fr [] (some d) w=.go { frame:=fr,callers:=[],status:=.running,dying:=some d' } w')\/∃ o w',unwind P true fr [] (some d) w=.ended o w':=by
       unfold unwind;rw [hd,hm];simp only [hcat,if_false,Bool.false_eq_true]
       split
       ·unfold endPrinting
        dsimp only
        split
        ·exact .inl ⟨_,_,rfl,rfl⟩
        ·exact .inr ⟨_,_,rfl⟩
       ·exact .inr ⟨_,_,rfl⟩
      rcases e with ⟨d',w',h1,h⟩ | ⟨o,w',h⟩
      ·exact local_dead hg.frame h1 h
      ·exact dL h
  | returning =>
   cases hf:P.funcs[fr.fn]? with
   | none=>exact local_doReturn (P:=P) hg hc (fr.tmps.getD 0 undef) (fun w=>by unfold unwind;rw [hd,hm];simp only [hf]) w
   | some fn =>
    refine pZ (P:=P) (s:=results fn fr.tmps) (results_fit fn fr.tmps) (fn:=fr.fn) ⟨?K2,?main2,?rest2⟩
    case main2 =>
     intro w
     unfold unwind
     rw [hd,hm]
     simp only [hf]
     generalize (results fn fr.tmps).runT P w #[]=x
     obtain ⟨r,es⟩:=x
     dsimp only
     exact rfl
    case rest2 =>
     intro r
     cases r with
     | ok v w=>exact qW hg hc v rfl (fun _ _=>rfl)
     | halt x w=>cases x<;>exact trivial
end Lf
namespace Lf
open Go Go.Conc
variable {P : Program}
theorem piece_next:Extern.next "runtime.print$piece"=some (Extern.PrintPieces.piece #[] #[]):=by rfl
theorem local_then {α:Type} {L:α->Prop} {s:Sem α} (hs:Fit P L 0 s) {dying:Bool} {fn:FuncId} {w:World} {F:World->GStep} {E:α->World->GStep} {H:Halt->World->GStep}
  (hF:∀ w,F w=match s.runT P w #[] with | (r,es)=>GStep.after (seen P fn es) (match r with | .ok a w=>E a w | .halt x w=>H x w)) (hE:∀ a w,Local dying (E a) w) (hH:∀ x w,∃ o,H x w=.ended o w):Local dying F w:=by
 cases hr:(s.runT P w #[]).1 with
 | halt x w' =>
  obtain ⟨o,ho⟩:=hH x w'
  refine dL (o:=o) (w':=w') (es:=seen P fn (s.runT P w #[]).2) ?_
  rw [hF w]
  show GStep.after (seen P fn (s.runT P w #[]).2) (match (s.runT P w #[]).1 with | .ok a w=>E a w | .halt x w=>H x w)=_
  rw [hr];simp only [ho,GStep.after,Array.append_empty]
 | ok a w' =>
  obtain ⟨m,e1,e2⟩:=mV P s 0 w #[] hs (by rw [hr];rfl)
  have js:deafBehind 0 (seen P fn (s.runT P w #[]).2)=0:=by
   rw [seen_even fn (runT_synced s w #[] (fun e he=>by simp at he))]
   exact runT_even s 0 w #[] 0 hs (by rw [hr];rfl) rfl
  generalize hes:seen P fn (s.runT P w #[]).2=ev at js
  have hFw:F w=GStep.after ev (E a w'):=by
   rw [hF w,<- hes]
   show GStep.after (seen P fn (s.runT P w #[]).2) (match (s.runT P w #[]).1 with | .ok a w=>E a w | .halt x w=>H x w)=_
   rw [hr]
  rw [hr] at e1 e2
  simp only [reR,Result.ok.injEq,true_and] at e1
  refine nI (E:=fun w=>GStep.after ev (E a w)) (w':=w') (m:=m) hFw e1 (fun τ d ha=>?_) ?_
  ·rw [hF,e2 τ d ha]
   simp only [reR,hes]
  ·have h:=hE a w'
   have hev':∀ es,deafBehind 0 es=0->deafBehind 0 (ev++es)=0:=fun es h=>by rw [my,js,h]
   unfold Local at h ⊢
   dsimp only
   cases hx:E a w' with
   | go g w'' es =>
    rw [hx] at h
    obtain ⟨a1,a2,a3,a4,a5⟩:=h
    exact ⟨a1,a2,a3,a4,fun x y=>let ⟨b1,b2,m',b3,b4⟩:=a5 x y;⟨b1,hev' _ b2,m',b3,fun τ d ha=>by rw [b4 τ d ha];rfl⟩⟩
   | comm g cs b sh w'' es =>
    rw [hx] at h
    obtain ⟨a1,a0,a2,a5⟩:=h
    exact ⟨a1,a0,a2,fun x=>let ⟨b1,b2,m',b3,b4⟩:=a5 x;⟨b1,hev' _ b2,m',b3,fun τ d ha=>by rw [b4 τ d ha];rfl⟩⟩
   | coroswitch g c y w'' es =>
    rw [hx] at h
    obtain ⟨a1,a0,a2,a5⟩:=h
    exact ⟨a1,a0,a2,fun x=>let ⟨b1,b2,m',b3,b4⟩:=a5 x;⟨b1,hev' _ b2,m',b3,fun τ d ha=>by rw [b4 τ d ha];rfl⟩⟩
   | spawn=>exact trivial
   | ended=>exact trivial
   | _=>rw [hx] at h;exact h.elim
theorem exitTo_mem {id:Nat}:∀ {k k':List Item},exitTo id k=some k'->∀ x∈k',x∈k:=by
 intro k
 induction k with
 | nil=>intro k' h;simp [exitTo] at h
 | cons a k ih =>
  intro k' h x hx
  unfold exitTo at h
  split at h
  ·rename_i heq
   cases heq
   split at h
   ·cases h;exact List.mem_cons_of_mem _ hx
   ·exact List.mem_cons_of_mem _ (ih h x hx)
  ·rename_i heq
   cases heq
   exact List.mem_cons_of_mem _ (ih h x hx)
  ·cases h
theorem gotoIn_mem {id:Nat}:∀ {k k':List Item},gotoIn id k=some k'->∀ x∈k',x∈k\/aR x:=by
 intro k
 induction k with
 | nil=>intro k' h;simp [gotoIn] at h
 | cons a k ih =>
  intro k' h x hx
  unfold gotoIn at h
  split at h
  ·rename_i heq
   cases heq
   split at h
   ·cases h
    rcases List.mem_cons.1 hx with rfl | hx
    ·exact .inr trivial
    ·exact .inl hx
   ·exact (ih h x hx).imp (List.mem_cons_of_mem _) (fun h=>h)
  ·rename_i heq
   cases heq
   exact (ih h x hx).imp (List.mem_cons_of_mem _) (fun h=>h)
  ·cases h
theorem local_exec (hP:Plain P) {fr:Frame} {callers:List Frame} {dying:Option Dying} (hg:kW ⟨fr,callers,.running,dying,none⟩) (hc:∀ d,dying=some d->d.calling=true) (w:World):Local dying.isSome (fun w=>stepG.exec P true true fr callers dying w) w:=by
 have to:∀ (todo:List Item),(∀ it∈todo,it∈fr.todo\/aR it)->(∀ w,stepG.exec P true true fr callers dying w=.go { frame:={ fr with todo },callers,status:=.running,dying } w)->Local dying.isSome (fun w=>stepG.exec P true true fr callers dying w) w:=by
  intro todo h1 h2
  exact oP _ (hg.here (fr':={ fr with todo }) (jk (fr:=fr) hg.frame h1) rfl .running) (n7 _ rfl) (by simp) (by simp) rfl (fun τ d=>h2 _)
 have leave:∀ (jump:Option Code),(fr.roundOf=none->(∀ w,stepG.exec P true true fr callers dying w=.go { frame:={ fr with mode:=.returning },callers,status:=.running,dying } w)\/∃ o,stepG.exec P true true fr callers dying w=.ended o w)->
   (∀ l,fr.roundOf=some l->∃ K:Result Value->GStep,(∀ w,stepG.exec P true true fr callers dying w=GStep.after (seen P fr.fn ((Instr.endRound l jump).runT P w #[]).2) (K ((Instr.endRound l jump).runT P w #[]).1))/\(∀ v w,K (.ok v w)=doReturn P true fr callers dying v w)/\∀ x w,∃ o,K (.halt x w)=.ended o w)->
   Local dying.isSome (fun w=>stepG.exec P true true fr callers dying w) w:=by
  intro jump h h'
  cases hr:fr.roundOf with
  | none =>
   rcases h hr with h | ⟨o,h⟩
   ·exact oP _ (hg.here (fr':={ fr with mode:=.returning }) (dU (fr:=fr) hg.frame rfl) rfl .running) (n7 _ rfl) (by simp) (by simp) rfl (fun τ d=>h _)
   ·exact dL h
  | some l =>
   obtain ⟨K,h1,h2,h3⟩:=h' l hr
   refine pZ (P:=P) (tH P l jump) (fn:=fr.fn) ⟨K,h1,fun r=>?_⟩
   cases r with
   | ok v w=>rw [h2];exact qW hg hc v rfl (fun _ _=>h2 _ _)
   | halt x w=>obtain ⟨o,h⟩:=h3 x w;rw [h];exact trivial
 have round:∀ (jump:Option Code) (l:Nat),fr.roundOf=some l->(∀ w,stepG.exec P true true fr callers dying w=match (Instr.endRound l jump).runT P w #[] with | (r,es)=>GStep.after (seen P fr.fn es) (match r with | .ok v w=>doReturn P true fr callers dying v w | .halt _ w=>.ended (.stuck "range over a function: no such loop" (fr.pos P)) w))->
   ∃ K:Result Value->GStep,(∀ w,stepG.exec P true true fr callers dying w=GStep.after (seen P fr.fn ((Instr.endRound l jump).runT P w #[]).2) (K ((Instr.endRound l jump).runT P w #[]).1))/\(∀ v w,K (.ok v w)=doReturn P true fr callers dying v w)/\∀ x w,∃ o,K (.halt x w)=.ended o w:=by
  intro jump l hr h
  exact ⟨fun r=>match r with | .ok v w=>doReturn P true fr callers dying v w | .halt _ w=>.ended (.stuck "range over a function: no such loop" (fr.pos P)) w,h,fun _ _=>rfl,fun _ _=>⟨_,rfl⟩⟩
 cases ht:fr.todo with
 | nil=>exact leave none (fun hr=>.inl fun w=>by simp only [stepG.exec,ht,hr,if_true]) (fun l hr=>round none l hr fun w=>by simp only [stepG.exec,ht,hr];rfl)
 | cons it k =>
  have sub:∀ x∈k,x∈fr.todo:=fun x hx=>by rw [ht];exact List.mem_cons_of_mem _ hx
  have sub1:∀ {a:Item},aR a->∀ x∈a::k,x∈fr.todo\/aR x:=fun {a} ha x hx=>by
   rcases List.mem_cons.1 hx with rfl | hx
   ·exact .inr ha
   ·exact .inl (sub x hx)
  have sub2:∀ {a b:Item},aR a->aR b->∀ x∈a::b::k,x∈fr.todo\/aR x:=fun {a b} ha hb x hx=>by
   rcases List.mem_cons.1 hx with rfl | hx
   ·exact .inr ha
   ·exact sub1 hb x hx
  cases it with
  | code c =>
   cases c with
   | skip=>exact to k (fun x hx=>.inl (sub x hx)) (fun w=>by simp only [stepG.exec,ht])
   | label l=>exact to k (fun x hx=>.inl (sub x hx)) (fun w=>by simp only [stepG.exec,ht])
   | seq a b=>exact to (.code a::.code b::k) (sub2 trivial trivial) (fun w=>by simp only [stepG.exec,ht])
   | block id b=>exact to (.code b::.inBlock id::k) (sub2 trivial trivial) (fun w=>by simp only [stepG.exec,ht])
   | loop b=>exact to (.code b::.inLoop b::k) (sub2 trivial trivial) (fun w=>by simp only [stepG.exec,ht])
   | scope b=>exact to (.code b::.inScope b::k) (sub2 trivial trivial) (fun w=>by simp only [stepG.exec,ht])
   | cond c a b =>
    cases he:fr.eval c with
    | bool t=>exact to (.code (if t then a else b)::k) (sub1 trivial) (fun w=>by simp only [stepG.exec,ht,he])
    | _=>exact dL (o:=.stuck "cond: bool expected" (fr.pos P)) (w':=w) (es:=#[]) (by simp only [stepG.exec,ht,he])
   | ret=>exact leave (some .ret) (fun hr=>.inl fun w=>by simp only [stepG.exec,ht,hr,if_true]) (fun l hr=>round (some .ret) l hr fun w=>by simp only [stepG.exec,ht,hr];rfl)
   | exit id =>
    cases he:exitTo id k with
    | some k'=>exact to k' (fun x hx=>.inl (sub x (exitTo_mem he x hx))) (fun w=>by simp only [stepG.exec,ht,he,Option.elim])
    | none=>exact leave (some (.exit id)) (fun hr=>.inr ⟨.stuck "exit, goto: no such block or label" (fr.pos P),by simp only [stepG.exec,ht,hr,he,Option.elim,Bool.false_eq_true,if_false]⟩) (fun l hr=>round (some (.exit id)) l hr fun w=>by simp only [stepG.exec,ht,hr,he,Option.elim];rfl)
   | goto l =>
    cases he:gotoIn l k with
    | some k'=>exact to k' (fun x hx=>(gotoIn_mem he x hx).imp (sub x) id) (fun w=>by simp only [stepG.exec,ht,he,Option.elim])
    | none=>exact leave (some (.goto l)) (fun hr=>.inr ⟨.stuck "exit, goto: no such block or label" (fr.pos P),by simp only [stepG.exec,ht,hr,he,Option.elim,Bool.false_eq_true,if_false]⟩) (fun l' hr=>round (some (.goto l)) l' hr fun w=>by simp only [stepG.exec,ht,hr,he,Option.elim];rfl)
   | refuse why=>exact dL (w':=w) (es:=#[]) (by simp only [stepG.exec,ht];rfl)
   | region id ops draw =>
    cases draw with
    | false=>exact to (.inRegion ops (List.range ops.size)::k) (sub1 trivial) (fun w=>by simp only [stepG.exec,ht,Bool.not_false,if_true])
    | true =>
     refine oQ (L:=fun _=>True) (s:=choose (.order fr.fn id)) (bD P _) _ fr.fn (fun r=>match r with | .ok t w=>.go { frame:={ fr with todo:=.inRegion ops (Region.schedule (P.follows .mixedOrders) ops t)::k },callers,status:=.running,dying } w | .halt _ w=>.ended (.stuck "order" (fr.pos P)) w) w (fun w=>⟨#[],?_,fun _=>.inr rfl,fun w' _ _ _=>?_⟩) ?_
     ·simp only [stepG.exec,ht,Bool.not_true,Bool.false_eq_true,if_false,aZ];rfl
     ·simp only [stepG.exec,ht,Bool.not_true,Bool.false_eq_true,if_false,aZ];rfl
     ·exact fe (hg.here (fr':={ fr with todo:=.inRegion ops _::k }) (jk (fr:=fr) hg.frame (sub1 trivial)) rfl .running) (n7 _ rfl) (by simp) (by simp) rfl rfl (fun _ _=>rfl)
   | rangeFunc f ps a b =>
    refine local_then (P:=P) (s:=Instr.enterLoop fr.fn fr.tmps ps a b fr.roundOf) (sJ P _ _ _ _ _ _) (fn:=fr.fn) (E:=fun x w=>stepG.apply P true { fr with todo:=.inRangeFunc x.1::k,defers:=x.2++fr.defers } callers dying (do let d <- resolve ({ fr with todo:=.inRangeFunc x.1::k,defers:=x.2++fr.defers }:Frame).eval { callee:=.value f,args:=#[.const (.func (.yield x.1) #[] #[])],argTypes:=#[] } 0;invoke d.target d.args) w) (H:=fun _ w=>.ended (.stuck "range over a function: no such loop" (fr.pos P)) w) (fun w=>?_) (fun x w=>?_) (fun _ _=>⟨_,rfl⟩)
    ·simp only [stepG.exec,ht]
     generalize (Instr.enterLoop fr.fn fr.tmps ps a b fr.roundOf).runT P w #[]=x
     obtain ⟨r,es⟩:=x
     cases r with
     | ok y w=>obtain ⟨l,mk⟩:=y;rfl
     | halt y w=>rfl
    ·refine nH (hg.here (fr':={ fr with todo:=.inRangeFunc x.1::k,defers:=x.2++fr.defers }) (jk (fr:=fr) hg.frame (sub1 trivial)) rfl .running) (aQ (nF P _ _ _) fun _=>pQ hP _ _) w
  | inBlock id=>exact to k (fun x hx=>.inl (sub x hx)) (fun w=>by simp only [stepG.exec,ht])
  | inScope b=>exact to k (fun x hx=>.inl (sub x hx)) (fun w=>by simp only [stepG.exec,ht])
  | inLoop b=>exact to (.code b::.inLoop b::k) (sub2 trivial trivial) (fun w=>by simp only [stepG.exec,ht])
  | inRangeFunc l=>exact dL (w':=w) (es:=#[]) (by simp only [stepG.exec,ht];rfl)
  | call a b c d=>exact (hg.frame (.call a b c d) (by show _∈fr.todo;rw [ht];exact List.mem_cons_self):False).elim
  | extern row args =>
   obtain rfl:row = "runtime.print$piece":=hg.frame (.extern row args) (by show _∈fr.todo;rw [ht];exact List.mem_cons_self)
   have e:∀ w,stepG.exec P true true fr callers dying w=stepG.apply P true fr callers dying (Extern.PrintPieces.piece #[] #[] args) w:=fun w=>by simp only [stepG.exec,ht,piece_next,Option.elim]
   simp only [e];exact nH hg (fit_piece _ _ _) w
  | beginRound =>
   have e:∃ s,Fit P cX 0 s/\∀ w,stepG.exec P true true fr callers dying w=stepG.apply P true fr callers dying s w:=by
    refine ⟨_,?_,fun w=>by simp only [stepG.exec,ht];rfl⟩
    refine aQ ?_ fun _=>⟨rfl,trivial⟩
    cases fr.roundOf with
    | none=>exact ag P _
    | some l=>exact ra P l
   obtain ⟨s,h1,h2⟩:=e
   simp only [h2];exact nH hg h1 w
  | endRangeFunc l =>
   refine pZ (P:=P) (s:=Instr.endLoop l) (uJ P l) (fn:=fr.fn) ⟨?K,?main,?rest⟩
   case main =>
    intro w
    simp only [stepG.exec,ht]
    generalize (Instr.endLoop l).runT P w #[]=x
    obtain ⟨r,es⟩:=x
    dsimp only
    exact rfl
   case rest =>
    intro r
    cases r with
    | ok j w =>
     refine fe (hg.here (fr':={ fr with todo:=(j.map Item.code).toList++k }) (jk (fr:=fr) hg.frame fun x hx=>?_) rfl .running) (n7 _ rfl) (by simp) (by simp) rfl rfl (fun _ _=>rfl)
     rcases List.mem_append.1 hx with hx | hx
     ·cases j with
      | none=>cases hx
      | some c=>simp at hx;subst hx;exact .inr trivial
     ·exact .inl (sub x hx)
    | halt x w =>
     cases x with
     | panic v=>exact fe (hg.here (eW hg.frame _) (iB _ _) _) (n7 _ rfl) (by simp) (by simp) rfl rfl (fun _ _=>rfl)
     | _=>exact trivial
  | inRegion ops l =>
   cases l with
   | nil=>exact to k (fun x hx=>.inl (sub x hx)) (fun w=>by simp only [stepG.exec,ht])
   | cons i l =>
    by_cases hw:(((ops[i]?).map (Region.wanted · (yielded ops fr.tmps))).getD false)=true
    ·have e:∀ w,stepG.exec P true true fr callers dying w=stepG.oper P true fr callers dying w:=fun w=>by simp only [stepG.exec,ht,hw,if_true]
     simp only [e]
     cases ho:fr.oper? with
     | none=>exact dL (o:=.stuck "no operation here" (fr.pos P)) (w':=w) (es:=#[]) (by simp only [stepG.oper,ho])
     | some o =>
      have e:∃ s,Fit P cX 0 s/\∀ w,stepG.oper P true fr callers dying w=stepG.apply P true fr callers dying s w:=by
       simp only [stepG.oper,ho]
       split
       ·exact ⟨_,aQ (nF P _ _ _) fun _=>aQ (pI P _ _) fun _=>fit_ok (n:=.skip) trivial,fun _=>rfl⟩
       ·exact ⟨_,fit_execOp hP _ _,fun _=>rfl⟩
      obtain ⟨s,h1,h2⟩:=e
      simp only [h2];exact nH hg h1 w
    ·exact oP _ (hg.here (cO hg.frame undef) (eO _ _) .running) (n7 _ rfl) (by simp) (by simp) rfl (fun τ d=>by simp only [stepG.exec,ht,hw,if_false,Bool.false_eq_true])
theorem die_ok {fr:Frame} (hf:aA fr) {d:Dying} (hcal:d.calling=false) (w:World):(∃ o w' es,die P fr d w=.ended o w' es)\/∃ fr' st d' w' es,die P fr d w=.go { frame:=fr',callers:=[],status:=st,dying:=some d' } w' es/\aA fr'/\(d'.calling=true->fr'.kind=.report)/\(st=.running\/st=.blocked):=by
 have stay:∀ (d':Dying) (st:GoStatus) (w':World) (es:Array Event),d'.calling=false->(st=.running\/st=.blocked)->∃ fr' st' d'' w'' es',GStep.go { frame:=fr,callers:=[],status:=st,dying:=some d' } w' es=.go { frame:=fr',callers:=[],status:=st',dying:=some d'' } w'' es'/\aA fr'/\(d''.calling=true->fr'.kind=.report)/\(st'=.running\/st'=.blocked) :=
  fun d' st w' es h1 h2=>⟨_,_,_,_,_,rfl,hf,fun h=>(by rw [h1] at h;cases h),h2⟩
 unfold die
 split
 ·rename_i f _
  unfold writeOn
  split
  ·exact .inl ⟨_,_,_,rfl⟩
  ·dsimp only
   split
   ·exact .inr (stay _ _ _ _ hcal (.inl rfl))
   ·exact .inr (stay _ _ _ _ hcal (.inr rfl))
   ·exact .inl ⟨_,_,_,rfl⟩
   ·exact .inl ⟨_,_,_,rfl⟩
 ·split
  ·split
   ·exact .inr (stay _ _ _ _ hcal (.inr rfl))
   ·refine .inl ?_
    unfold endWith
    dsimp only
    split
    ·split<;>exact ⟨_,_,_,rfl⟩
    ·exact ⟨_,_,_,rfl⟩
    ·exact ⟨_,_,_,rfl⟩
  ·rename_i v mark rest _
   dsimp only
   split
   ·exact .inr (stay _ _ _ _ hcal (.inl rfl))
   ·split
    ·exact .inr (stay _ _ _ _ hcal (.inl rfl))
    ·exact .inl ⟨_,_,_,rfl⟩
   ·rename_i t recv name _
    generalize (invoke (.fn (.method name) #[]) #[.iface t recv]).runT P w #[]=x
    obtain ⟨r,es⟩:=x
    dsimp only
    split
    ·exact .inr ⟨_,_,_,_,_,rfl,eV _ _ _,fun _=>rfl,.inl rfl⟩
    ·exact .inr (stay _ _ _ _ hcal (.inl rfl))
    ·exact .inl ⟨_,_,_,rfl⟩
    ·unfold endPrinting
     dsimp only
     split
     ·exact .inr (stay _ _ _ _ rfl (.inl rfl))
     ·exact .inl ⟨_,_,_,rfl⟩
    ·exact .inl ⟨_,_,_,rfl⟩
   ·exact .inl ⟨_,_,_,rfl⟩
theorem local_stepG (hP:Plain P) {g:Goroutine} (hg:kW g) (w:World):Local g.dying.isSome (fun w=>stepG P true g w) w:=by
 obtain ⟨fr,callers,st,dying,off⟩:=g
 have oq:kW ⟨fr,callers,.running,dying,none⟩:=hg.top hg.frame rfl _ _
 by_cases hd:∃ d,dying=some d/\d.calling=false
 ·obtain ⟨d,rfl,hcal⟩:=hd
  have e:∀ w,stepG P true ⟨fr,callers,st,some d,off⟩ w=die P fr d w:=fun w=>by
   unfold stepG
   obtain ⟨a,b,c,e,f,g,h⟩:=d;simp only at hcal;subst hcal;rfl
  simp only [e]
  rcases die_ok (P:=P) (fr:=fr) hg.frame hcal w with ⟨o,w',es,h⟩ | ⟨fr',st',d',w',es,h,h1,h2,h3⟩
  ·exact dL h
  ·unfold Local
   dsimp only
   rw [h]
   refine ⟨⟨h1,(fun _ h=>by cases h),fun d'' hd hc=>?_⟩,(fun _ h=>by cases h),?_,?_,(fun h=>by cases h)⟩
   ·cases hd;exact h2 hc
   ·rcases h3 with rfl | rfl<;>simp
   ·rcases h3 with rfl | rfl<;>simp
 ·have hc:∀ d,dying=some d->d.calling=true:=fun d h=>by
   cases hcal:d.calling with
   | true=>rfl
   | false=>exact absurd ⟨d,h,hcal⟩ hd
  cases hm:fr.mode with
  | run =>
   have e:∀ w,stepG P true ⟨fr,callers,st,dying,off⟩ w=stepG.exec P true true fr callers dying w:=fun w=>by
    unfold stepG
    cases hdd:dying with
    | none=>simp only [hm]
    | some d=>have:=hc d hdd;obtain ⟨a,b,c,e,f,g,h⟩:=d;simp only at this;subst this;simp only [hm]
   simp only [e];exact local_exec hP oq hc w
  | _ =>
   have e:∀ w,stepG P true ⟨fr,callers,st,dying,off⟩ w=unwind P true fr callers dying w:=fun w=>by
    unfold stepG
    cases hdd:dying with
    | none=>simp only [hm]
    | some d=>have:=hc d hdd;obtain ⟨a,b,c,e,f,g,h⟩:=d;simp only at this;subst this;simp only [hm]
   simp only [e];exact local_unwind hP oq hc w
end Lf
namespace Lf
open Go Go.Conc
variable {P : Program}
def NoP (gs:Array Goroutine):Prop:=∀ r s,partners gs r s=[]
theorem ways_noP {gs:Array Goroutine} (h:NoP gs) (w:World) (c:CommCase):ways w gs c=ways w #[] c:=by
 have h0:∀ r s,partners #[] r s=[]:=fun r s=>by simp [partners]
 unfold ways
 split
 ·split<;>simp only [h _ _,h0 _ _]
 ·rfl
def rI (gs:Array Goroutine) (rest:Rest):Stepped->Stepped
 | .next m=>.next { world:=m.world,gs:=gs.setIfInBounds 0 (m.gs.getD 0 default),rest }
 | .ended o w=>.ended o w
theorem noP_ph:NoP #[ph]:=fun r s=>by simp [partners,ph]
theorem mX {rest:Rest} (h:rest.timers=#[]) (cases:Array CommCase) (w:World):waitingAt rest cases w=some w:=by
 have h1:timerAhead rest w.os.mono cases=false:=by
  have:=timerAhead_crowd #[] w none w.os.mono cases
  unfold timerAhead at this ⊢
  rw [h];exact this
 unfold waitingAt
 rw [h1];rfl
def mT:Rest:={ timers:=#[],alone:=none,slice:=none }
theorem ways_way {w:World} {c:CommCase} {x:Way} (h:x∈ways w #[] c):∀ a b,x≠.partner a b:=by
 have h0:∀ r s,partners #[] r s=[]:=fun r s=>by simp [partners]
 intro a b e
 subst e
 unfold ways at h
 split at h
 ·split at h
  ·simp only [h0] at h
   split at h<;>first | (simp at h;done) | (split at h<;>simp at h)
  ·simp only [h0] at h
   split at h<;>first | (simp at h;done) | (split at h<;>simp at h)
  ·cases h
 ·cases h
theorem pick_way {w:World} {l:List (Nat×CommCase×List Way)} (hl:∀ x∈l,∀ y∈x.2.2,∀ a b,y≠.partner a b) {k:Nat} {c:CommCase} {y:Way} {w':World}
  (h:(do
   let a <- choose (.select l.length)
   let b <- choose (.extern "which waiting goroutine is the partner" (l.getD a (0,default,[])).2.2.length)
   pure ((l.getD a (0,default,[])).1,(l.getD a (0,default,[])).2.1,(l.getD a (0,default,[])).2.2.getD b .closed):Sem (Nat×CommCase×Way)).run P w=.ok (k,c,y) w'):∀ a b,y≠.partner a b:=by
 refine runT_leaf (P:=P) (L:=fun x=>∀ a b,x.2.2≠.partner a b) _ 0 w #[] ?_ ((Sem.runT_fst P _ w #[]).trans h)
 refine aQ (bD P _) fun a=>aQ (bD P _) fun b=>⟨rfl,?_⟩
 intro x z
 simp only [List.getD_eq_getElem?_getD]
 cases h1:l[a]? with
 | none=>simp
 | some e =>
  cases h2:e.2.2[b]? with
  | none=>simp [h2]
  | some u=>simp only [Option.getD_some,h2];exact hl e (List.mem_of_getElem? h1) u (List.mem_of_getElem? h2) x z
theorem comm_lone {gs:Array Goroutine} {rest:Rest} (hp:NoP gs) (ht:rest.timers=#[]) (g:Goroutine) (cases:Array CommCase) (blocking:Bool) (shape:CommShape) (w:World) :
  communicate P rest gs 0 g cases blocking shape w=(rI gs rest (communicate P mT #[ph] 0 g cases blocking shape w).1,(communicate P mT #[ph] 0 g cases blocking shape w).2):=by
 unfold communicate
 simp only [ways_noP hp,ways_noP noP_ph,hp _ _,noP_ph _ _,mX ht,mX (rest:=mT) rfl]
 split
 ·rfl
 split
 ·split
  ·simp [rI]
  ·simp [rI]
 ·split
  ·rfl
  ·split
   ·split
    ·simp [rI]
    ·rfl
   ·simp [rI]
   ·simp [rI]
   ·simp [rI]
   ·refine absurd rfl (pick_way ?_ ‹Sem.run P _ w=Result.ok _ _› _ _)
    intro x hx y hy
    obtain ⟨⟨c,k⟩,_,rfl⟩:=List.mem_map.1 (List.mem_filter.1 hx).1
    exact ways_way hy
   ·refine absurd rfl (pick_way ?_ ‹Sem.run P _ w=Result.ok _ _› _ _)
    intro x hx y hy
    obtain ⟨⟨c,k⟩,_,rfl⟩:=List.mem_map.1 (List.mem_filter.1 hx).1
    exact ways_way hy
   ·rfl
theorem fit_pick (l:List (Nat×CommCase×List Way)):Fit P (fun _=>True) 0 (do
   let a <- choose (.select l.length)
   let b <- choose (.extern "which waiting goroutine is the partner" (l.getD a (0,default,[])).2.2.length)
   pure ((l.getD a (0,default,[])).1,(l.getD a (0,default,[])).2.1,(l.getD a (0,default,[])).2.2.getD b .closed):Sem (Nat×CommCase×Way)) :=
 aQ (bD P _) fun _=>aQ (bD P _) fun _=>aq P _
theorem comm_local (g:Goroutine) (cases:Array CommCase) (blocking:Bool) (shape:CommShape) (w:World) :
  (∃ o w',(communicate P mT #[ph] 0 g cases blocking shape w).1=.ended o w')\/
  (communicate P mT #[ph] 0 g cases blocking shape w=(.next { world:=w,gs:=#[{ g with status:=.blocked,offers:=some (cases,shape) }],rest:=mT },#[]))\/
  (∃ (g':Goroutine) (w':World) (acts:Array MemAct) (m:Nat),
   g'.callers=g.callers/\g'.dying=g.dying/\(g'.status=.running\/g'.status=g.status)/\(g'.offers=none\/g'.offers=g.offers)/\(∀ a∈acts,∀ m,a≠.mark m)/\((∃ v,g'.frame=g.frame.finish v)\/∃ v,g'.frame=g.frame.raise v)/\
   w'=re w' w.tape (w.drawn+m)/\communicate P mT #[ph] 0 g cases blocking shape w=(.next { world:=w',gs:=#[g'],rest:=mT },acts.map fun a=>{ g:=0,fn:=g.frame.fn,pos:=g.frame.place,act:=a })/\
   ∀ τ d,Alike w m τ d->communicate P mT #[ph] 0 g cases blocking shape (re w τ d)=(.next { world:=re w' τ (d+m),gs:=#[g'],rest:=mT },acts.map fun a=>{ g:=0,fn:=g.frame.fn,pos:=g.frame.place,act:=a })):=by
 have hh:∀ τ d,(re w τ d).heap=w.heap:=fun _ _=>rfl
 have hws:∀ τ d c,ways (re w τ d) #[] c=ways w #[] c:=fun _ _ _=>rfl
 unfold communicate
 simp only [ways_noP noP_ph,noP_ph _ _,mX (rest:=mT) rfl,hh,hws]
 split
 ·exact .inl ⟨_,_,rfl⟩
 rename_i hill
 split
 ·split
  ·exact .inr (.inl (by simp))
  ·refine .inr (.inr ⟨g.finishComm P cases shape (-1) undef false,w,#[],0,rfl,rfl,.inl rfl,.inl rfl,(by simp),.inl ⟨_,rfl⟩,rfl,by simp,fun τ d _=>by simp⟩)
 ·rename_i hne
  generalize hl:(List.filter (fun x=>!x.2.snd.isEmpty) (List.map (fun x=>(x.snd,x.fst,ways w #[] x.fst)) cases.zipIdx.toList))=l
  have hl2:∀ x∈l,∀ y∈x.2.2,∀ a b,y≠.partner a b:=by
   intro x hx y hy
   rw [<- hl] at hx
   obtain ⟨⟨c,k⟩,_,rfl⟩:=List.mem_map.1 (List.mem_filter.1 hx).1
   exact ways_way hy
  have hway:=fun k c y w' h=>pick_way (P:=P) (w:=w) hl2 (k:=k) (c:=c) (y:=y) (w':=w') h
  have hal:=mV P _ 0 w #[] (fit_pick (P:=P) l)
  simp only [Sem.runT_fst] at hal
  generalize hp:(do
   let a <- choose (.select l.length)
   let b <- choose (.extern "which waiting goroutine is the partner" (l.getD a (0,default,[])).2.2.length)
   pure ((l.getD a (0,default,[])).1,(l.getD a (0,default,[])).2.1,(l.getD a (0,default,[])).2.2.getD b .closed):Sem (Nat×CommCase×Way))=pk at hal hway ⊢
  cases hr:pk.run P w with
  | halt x w1=>exact .inl ⟨_,_,rfl⟩
  | ok x w1 =>
   obtain ⟨k,c,way⟩:=x
   have hnp:=hway k c way w1 hr
   obtain ⟨m,e1,e2⟩:=hal (by rw [hr];rfl)
   rw [hr] at e1 e2
   simp only [reR,Result.ok.injEq,true_and] at e1
   have e3:∀ τ d,Alike w m τ d->pk.run P (re w τ d)=.ok (k,c,way) (re w1 τ (d+m)):=fun τ d ha=>by
    have:=congrArg Prod.fst (e2 τ d ha)
    rw [Sem.runT_fst] at this
    exact this
   have hpan:∀ w,(runtimePanic (.plain "send on closed channel"):Sem Unit).run P w=.halt (.panic (.iface P.rt.plainError (strVal "send on closed channel"))) w:=fun w=>rfl
   have hh1:∀ τ d,(re w1 τ d).heap=w1.heap:=fun _ _=>rfl
   dsimp only
   generalize hrr:Goroutine.again.match_3 (fun _=>Nat) c.chan (fun r=>r) (fun _=>0)=rr
   cases way with
   | partner a b=>exact absurd rfl (hnp a b)
   | sendClosed =>
    refine .inr (.inr ⟨{ g with frame:=g.frame.raise [{ v:=.iface P.rt.plainError (strVal "send on closed channel"),recovered:=false }] },w1,#[],m,rfl,rfl,.inr rfl,.inr rfl,by simp,.inr ⟨_,rfl⟩,e1,by simp only [hpan];simp,fun τ d ha=>by simp only [e3 τ d ha,hpan];simp⟩)
   | closed =>
    refine .inr (.inr ⟨g.finishComm P cases shape k c.zero false,w1,#[.recvClosed rr],m,rfl,rfl,.inl rfl,.inl rfl,by simp,.inl ⟨_,rfl⟩,e1,by simp,fun τ d ha=>by simp only [e3 τ d ha,hrr];simp⟩)
   | buffer =>
    cases ho:w1.heap[rr]? with
    | none=>exact .inl ⟨_,_,rfl⟩
    | some o =>
     cases o with
     | chan cap buf closed bV rcvd tm =>
      cases hs:c.send with
      | some v =>
       refine .inr (.inr ⟨g.finishComm P cases shape k undef false,{ w1 with heap:=w1.heap.setIfInBounds rr (.chan cap (buf.push v) closed (bV+1) rcvd tm) },#[.send rr bV,.sendDone rr bV],m,rfl,rfl,.inl rfl,.inl rfl,by simp,.inl ⟨_,rfl⟩,by rw [e1];rfl,by simp,fun τ d ha=>by simp only [e3 τ d ha,hh1,hrr,ho,hs];simp [re]⟩)
      | none =>
       refine .inr (.inr ⟨g.finishComm P cases shape k (buf.getD 0 undef) true,{ w1 with heap:=w1.heap.setIfInBounds rr (.chan cap (buf.extract 1 buf.size) closed bV (rcvd+1) tm) },#[.recv rr rcvd cap,.recvDone rr rcvd],m,rfl,rfl,.inl rfl,.inl rfl,by simp,.inl ⟨_,rfl⟩,by rw [e1];rfl,by simp,fun τ d ha=>by simp only [e3 τ d ha,hh1,hrr,ho,hs];simp [re]⟩)
     | _=>exact .inl ⟨_,_,rfl⟩
end Lf
namespace Lf
open Go Go.Conc
variable {P : Program}
structure dx (g:Goroutine):Prop where
 ok:kW g
 status:g.status=.running
 dying:g.dying=none
 offers:g.offers=none
structure Lost (g:Goroutine):Prop where
 ok:kW g
 awake:∀ t,g.status≠.sleeping t
 lost:g.dying≠none\/g.status≠.running
structure Alone (P:Program) (g:Goroutine) (w:World) (g':Goroutine) (w':World) (ops:Array MemOp):Prop where
 own:∀ op∈ops,op.g=0
 hears:∀ t,Deaf t 0=0->Deaf (t++ops) 0=0
 alike:∃ m,w'=re w' w.tape (w.drawn+m)/\∀ τ d,Alike w m τ d->stepT P (solo g (re w τ d))=(.next (solo g' (re w' τ (d+m))),ops)
 beside:∀ (gs:Array Goroutine) (sl:Option (Nat×Nat)),gs[0]? = some g->(∀ i x,0<i->gs[i]? = some x->x.status=.running\/x.status=.finished)->
  ∃ f:Goroutine->Goroutine,(∀ x,(x.status=.running\/x.status=.finished)->f x=x)/\runT P (crowd gs w sl) 0=(.next (crowd ((gs.map f).setIfInBounds 0 g') w' sl),ops)
theorem noP_stand {gs:Array Goroutine} (h:∀ i x,0<i->gs[i]? = some x->x.status=.running\/x.status=.finished):NoP (gs.setIfInBounds 0 ph):=by
 intro r s
 refine partners_nil fun j x hx=>?_
 rcases getElem?_stand gs 0 j x hx with ⟨_,rfl⟩ | ⟨hj,hx⟩
 ·exact offersAt_ph r s
 ·refine offersAt_of_not_blocked ?_ r s
  rcases h j x (by omega) hx with h | h<;>rw [h]<;>simp
theorem Deaf_acts (t:Trace) (fn:FuncId) (pos:String) (acts:Array MemAct) (h:∀ a∈acts,∀ m,a≠.mark m):Deaf (t++acts.map fun a=>{ g:=0,fn,pos,act:=a }) 0=Deaf t 0:=by
 obtain ⟨l⟩:=acts
 induction l generalizing t with
 | nil=>simp
 | cons a l ih =>
  have h1:=ih (t++#[{ g:=0,fn,pos,act:=a }]) (fun x hx=>h x (by simp at hx ⊢;exact .inr hx))
  have e:(t++(Array.map (fun a=>({ g:=0,fn,pos,act:=a }:MemOp)) ⟨a::l⟩))=t++#[{ g:=0,fn,pos,act:=a }]++Array.map (fun a=>({ g:=0,fn,pos,act:=a }:MemOp)) ⟨l⟩:=by
   rw [Array.append_assoc];simp
  rw [e,h1]
  show Trace.deaf _ 0 _=Trace.deaf t 0 t.size
  have hne:=h a (by simp)
  rw [Array.size_append]
  have hlast:(t++#[({ g:=0,fn,pos,act:=a }:MemOp)])[t.size]? = some { g:=0,fn,pos,act:=a }:=by rw [Array.getElem?_append_right (Nat.le_refl _)];simp
  have hold:∀ n,n<=t.size->Trace.deaf (t++#[({ g:=0,fn,pos,act:=a }:MemOp)]) 0 n=Trace.deaf t 0 n:=by
   intro n
   induction n with
   | zero=>intro _;rfl
   | succ n ihn =>
    intro hn
    unfold Trace.deaf
    rw [getElem?_append_old (by omega),ihn (by omega)]
  rw [<- hold t.size (Nat.le_refl _)]
  show Trace.deaf (t++#[_]) 0 (t.size+1)=_
  rw [Trace.deaf]
  rw [hlast]
  split
  ·rename_i h1;simp only [Option.some.injEq,MemOp.mk.injEq] at h1;exact absurd h1.2.2.2 (hne _)
  ·rename_i h1;simp only [Option.some.injEq,MemOp.mk.injEq] at h1;exact absurd h1.2.2.2 (hne _)
  ·rfl
theorem solo_step (hP:Plain P) {g:Goroutine} (hg:kW g) (hs:g.status=.running) {w:World} {m':Machine} {ops:Array MemOp} (h:stepT P (solo g w)=(.next m',ops)) :
  2<=m'.gs.size\/∃ g' w',m'=solo g' w'/\(Lost g'\/(g.dying=none/\(g.offers=none->dx g'/\Alone P g w g' w' ops))):=by
 rw [stepT_solo hs] at h
 have hl:=local_stepG hP hg w
 unfold Local at hl
 dsimp only at hl
 cases hx:stepG P true g w with
 | go g' w' es =>
  rw [hx] at hl
  obtain ⟨h1,h2,h3,h4,h5⟩:=hl
  rw [runT_solo_go hx] at h
  simp only [Prod.mk.injEq,Stepped.next.injEq] at h
  obtain ⟨rfl,rfl⟩:=h
  refine .inr ⟨g',w',rfl,?_⟩
  by_cases hf:g'.dying=none/\g'.status=.running
  ·obtain ⟨h6,h7,m,h8,h9⟩:=h5 hf.1 hf.2
   refine .inr ⟨?_,fun ho=>⟨⟨h1,hf.2,hf.1,h6⟩,⟨?_,?_,⟨m,h8,fun τ d ha=>?_⟩,?_⟩⟩⟩
   ·cases hd:g.dying with
    | none=>rfl
    | some d=>exact absurd hf.1 (h2 (by rw [hd];rfl))
   ·intro op aN;obtain ⟨e,_,rfl⟩:=Go.Conc.mem_ofEvents aN;rfl
   ·intro t ht;rw [Deaf_own,ht];exact h7
   ·rw [stepT_solo hs,runT_solo_go (h9 τ d ha)]
   ·intro gs sl h0 hq
    refine ⟨woken P g g' w',fun x hx=>?_,runT_crowd_go h0 hx⟩
    unfold woken
    split
    ·exact again_running _ hx
    ·rfl
  ·exact .inl ⟨h1,h3,by
    by_cases hd:g'.dying=none
    ·exact .inr fun e=>hf ⟨hd,e⟩
    ·exact .inl hd⟩
 | comm g₂ cs b sh w₁ es =>
  rw [hx] at hl
  obtain ⟨h1,h6',h2,h5⟩:=hl
  have hp0:(#[g]:Array Goroutine).setIfInBounds 0 ph=#[ph]:=by simp
  have lj:runT P (solo g w) 0=((communicate P mT #[ph] 0 g₂ cs b sh w₁).1,MemOp.ofEvents 0 g.frame.fn g.frame.place es++(communicate P mT #[ph] 0 g₂ cs b sh w₁).2):=by
   rw [solo_eq_crowd,runT_crowd_comm (i:=0) (g:=g) rfl hx,hp0];rfl
  rw [lj] at h
  rcases comm_local (P:=P) g₂ cs b sh w₁ with ⟨o,w',e⟩ | e | ⟨g',w',acts,m2,e1,e2,e3,e4,e5,e6,e7,e8,e9⟩
  ·rw [e] at h;cases h
  ·rw [e] at h
   cases h
   exact .inr ⟨_,w₁,rfl,.inl ⟨h1.top h1.frame rfl _ _,by simp,.inr (by simp)⟩⟩
  ·rw [e8] at h
   cases h
   have hok':kW g':=by
    have hfr:aA g'.frame/\g'.frame.kind=g₂.frame.kind:=by
     rcases e6 with ⟨v,e⟩ | ⟨v,e⟩
     ·rw [e];exact ⟨cO h1.frame v,eO _ _⟩
     ·rw [e];exact ⟨eW h1.frame v,iB _ _⟩
    obtain ⟨f',c',s',d',o'⟩:=g'
    simp only at e1 e2 hfr
    subst e1 e2
    exact h1.top hfr.1 hfr.2 _ _
   have df:g'.status=.running:=e3.elim id fun x=>x.trans h6'
   refine .inr ⟨g',w',rfl,?_⟩
   by_cases hd:g₂.dying=none
   ·obtain ⟨h6,h7,m,h8,h9⟩:=h5 hd
    refine .inr ⟨?_,fun ho=>⟨⟨hok',df,e2.trans hd,e4.elim id fun x=>x.trans h6⟩,⟨?_,?_,⟨m+m2,?_,fun τ d ha=>?_⟩,?_⟩⟩⟩
    ·cases hdd:g.dying with
     | none=>rfl
     | some d=>exact absurd hd (h2 (by rw [hdd];rfl))
    ·intro op aN
     rcases Array.mem_append.1 aN with aN | aN
     ·obtain ⟨e,_,rfl⟩:=Go.Conc.mem_ofEvents aN;rfl
     ·obtain ⟨a,_,rfl⟩:=Array.mem_map.1 aN;rfl
    ·intro t ht
     rw [<- Array.append_assoc,Deaf_acts _ _ _ _ e5,Deaf_own,ht];exact h7
    ·have a1:w₁.tape=w.tape:=by rw [h8];rfl
     have a2:w₁.drawn=w.drawn+m:=by rw [h8];rfl
     rw [a1,a2] at e7;rw [<- Nat.add_assoc];exact e7
    ·have a1:w₁.tape=w.tape:=by rw [h8];rfl
     have a2:w₁.drawn=w.drawn+m:=by rw [h8];rfl
     have hxx:=h9 τ d fun j hj=>ha j (by omega)
     have hcc:runT P (solo g (re w τ d)) 0=((communicate P mT #[ph] 0 g₂ cs b sh (re w₁ τ (d+m))).1,MemOp.ofEvents 0 g.frame.fn g.frame.place es++(communicate P mT #[ph] 0 g₂ cs b sh (re w₁ τ (d+m))).2):=by
      rw [solo_eq_crowd,runT_crowd_comm (i:=0) (g:=g) rfl hxx,hp0];rfl
     rw [stepT_solo hs,hcc,e9 τ (d+m) fun j hj=>by rw [a1,a2];have:=ha (m+j) (by omega);rw [<- Nat.add_assoc] at this;rw [this,<- Nat.add_assoc],<- Nat.add_assoc]
     rfl
    ·intro gs sl h0 hq
     refine ⟨id,fun _ _=>rfl,?_⟩
     rw [runT_crowd_comm (i:=0) h0 hx,comm_lone (noP_stand hq) (rest:=(crowd gs w sl).rest) rfl,e8]
     simp [rI,crowd]
   ·exact .inl ⟨hok',(by rw [df];simp),.inl (by rw [e2];exact hd)⟩
 | coroswitch g₂ c x w₁ es =>
  rw [hx] at hl
  obtain ⟨h1,h6',h2,h5⟩:=hl
  have dQ:∀ (gs:Array Goroutine) (w w₁:World) (sl:Option (Nat×Nat)),gs[0]? = some g->stepG P true g w=.coroswitch g₂ c x w₁ es->runT P (crowd gs w sl) 0=(match w₁.heap[c]? with
    | some (.coro (some h))=>.next (crowd ((gs.setIfInBounds 0 (if x then { g₂ with status:=.finished } else { g₂ with frame:=g₂.frame.finish undef,status:=.parked })).modify h (fun o=>{ o with status:=.running })) { w₁ with heap:=w₁.heap.setIfInBounds c (.coro (if x then none else some 0)) } sl)
    | some (.coro none)=>(match endThrow g₂.frame "coroswitch on exited coro" w₁ with | .go g w _=>.next (crowd (gs.setIfInBounds 0 g) w sl) | _=>.ended (.stuck "" "") w₁)
    | _=>.ended (.stuck "coroswitch: no coroutine" "") w₁,MemOp.ofEvents 0 g.frame.fn g.frame.place es):=by
   intro gs w w₁ sl h0 hx
   obtain ⟨cz,rfl⟩:=Array.getElem?_eq_some_iff.1 h0
   have hsw:=swapAt_of_lt cz { (default:Goroutine) with status:=.finished }
   show runT P { world:=w,gs:=gs,rest:={ timers:=#[],alone:=none,slice:=sl } } 0=_
   unfold runT
   simp only [hsw,beq_self_eq_true,hx,GStep.es,set_setIfInBounds cz,crowd]
   rfl
  rw [solo_eq_crowd,dQ #[g] w w₁ none rfl hx] at h
  cases ho:w₁.heap[c]? with
  | none=>rw [ho] at h;cases h
  | some o =>
   cases o with
   | coro q =>
    cases q with
    | none =>
     rw [ho] at h
     simp only [endThrow,dieOf,Prod.mk.injEq,Stepped.next.injEq] at h
     obtain ⟨rfl,rfl⟩:=h
     exact .inr ⟨_,w₁,rfl,.inl ⟨kW.dead rfl rfl h1.frame (fun _ h=>by cases h),by simp,.inl (by simp)⟩⟩
    | some q =>
     rw [ho] at h
     simp only [Prod.mk.injEq,Stepped.next.injEq] at h
     obtain ⟨rfl,rfl⟩:=h
     generalize hme:(if x then { g₂ with status:=.finished } else { g₂ with frame:=g₂.frame.finish undef,status:=.parked }:Goroutine)=me
     have se:∀ st,kW { me with status:=st }:=fun st=>by
      rw [<- hme]
      cases x
      ·exact h1.top (cO h1.frame undef) (eO _ _) st _
      ·exact h1.top h1.frame rfl st _
     have hmd:me.dying=g₂.dying:=by rw [<- hme];cases x<;>rfl
     have hmo:me.offers=g₂.offers:=by rw [<- hme];cases x<;>rfl
     have hms:me.status≠.running/\∀ t,me.status≠.sleeping t:=by rw [<- hme];cases x<;>simp
     by_cases hq:q=0
     ·subst hq
      have e1:∀ gs:Array Goroutine,(gs.setIfInBounds 0 me).modify 0 (fun o=>{ o with status:=.running })=gs.setIfInBounds 0 { me with status:=.running }:=fun gs=>by
       apply Array.ext_getElem?
       intro j
       rw [Array.getElem?_modify]
       by_cases hj:0=j
       ·subst hj
        by_cases cz:0<gs.size
        ·rw [Array.getElem?_setIfInBounds_self_of_lt cz,Array.getElem?_setIfInBounds_self_of_lt cz];rfl
        ·rw [Array.getElem?_eq_none (by simpa using Nat.le_of_not_lt cz),Array.getElem?_eq_none (by simpa using Nat.le_of_not_lt cz)];rfl
       ·simp [Array.getElem?_setIfInBounds_ne hj,hj]
      rw [e1]
      refine .inr ⟨{ me with status:=.running },{ w₁ with heap:=w₁.heap.setIfInBounds c (.coro (if x then none else some 0)) },by simp [solo,crowd],?_⟩
      by_cases hd:g₂.dying=none
      ·obtain ⟨h6,h7,m,h8,h9⟩:=h5 hd
       refine .inr ⟨?_,fun _=>⟨⟨se _,rfl,hmd.trans hd,hmo.trans h6⟩,⟨?_,?_,⟨m,by rw [h8];rfl,fun τ d ha=>?_⟩,?_⟩⟩⟩
       ·cases hdd:g.dying with
        | none=>rfl
        | some d=>exact absurd hd (h2 (by rw [hdd];rfl))
       ·intro op aN;obtain ⟨e,_,rfl⟩:=Go.Conc.mem_ofEvents aN;rfl
       ·intro t ht;rw [Deaf_own,ht];exact h7
       ·rw [stepT_solo hs,solo_eq_crowd,dQ #[g] _ _ none rfl (h9 τ d ha)]
        have ho':(re w₁ τ (d+m)).heap[c]? = some (.coro (some 0)):=ho
        rw [ho']
        simp only [hme,e1]
        simp [solo,crowd,re]
       ·intro gs sl h0 _
        refine ⟨id,fun _ _=>rfl,?_⟩
        rw [dQ gs w w₁ sl h0 hx,ho]
        simp only [hme,e1,Array.map_id]
      ·exact .inl ⟨se _,by simp,.inl (by show me.dying≠none;rw [hmd];exact hd)⟩
     ·have e1:((#[g]:Array Goroutine).setIfInBounds 0 me).modify q (fun o=>{ o with status:=.running })=#[me]:=by
       apply Array.ext_getElem?
       intro j
       rw [Array.getElem?_modify]
       by_cases hj:q=j
       ·subst hj;simp [hq]
       ·simp [hj]
      rw [e1]
      exact .inr ⟨me,_,rfl,.inl ⟨se me.status,hms.2,.inr hms.1⟩⟩
   | _=>rw [ho] at h;cases h
 | spawn a b c d =>
  rw [runT_solo_spawn hx] at h
  cases h
  exact .inl (by simp [duo])
 | ended o w' es =>
  have:(runT P (solo g w) 0).1=.ended o w':=by rw [solo_eq_crowd,runT_many_ended (i:=0) (g:=g) rfl hx]
  rw [h] at this;cases this
 | _=>rw [hx] at hl;exact hl.elim
end Lf
namespace Lf
open Go Go.Conc
variable {P : Program}
theorem idle_step {g:Goroutine} (h1:g.status≠.running) (h2:∀ t,g.status≠.sleeping t) (w:World):(∃ ops,stepT P (solo g w)=(.next (solo g w),ops))\/∃ o w' ops,stepT P (solo g w)=(.ended o w',ops):=by
 have hc:g.canRun w.os.mono=false:=by
  unfold Goroutine.canRun
  split
  ·rename_i h;exact absurd h h1
  ·rename_i h;exact absurd h (h2 _)
  ·rfl
 have hr:runnable #[g] w.os.mono=[]:=by simp [runnable_eq,List.range_succ,hc]
 have ha:ahead (solo g w) false=none:=by
  unfold ahead solo
  simp only [List.size_toArray,List.length_nil]
  cases hs:g.status with
  | sleeping t=>exact absurd hs (h2 t)
  | _=>simp [hs]
 have hd:due (solo g w).rest.timers w.os.mono=[]:=by simp [due,solo]
 have hrs:runnable (solo g w).gs (solo g w).world.os.mono=[]:=hr
 have e1:move P (solo g w)=askOn P (solo g w):=by simp [move,ask,solo]
 have hd':due (solo g w).rest.timers (solo g w).world.os.mono=[]:=hd
 have ha':ahead { world:=(solo g w).world,gs:=(solo g w).gs,rest:=(solo g w).rest } false=none:=ha
 have hany:(solo g w).gs.any (fun x=>x.status==.waiting)=(g.status==.waiting):=by simp [solo]
 rw [stepT,e1]
 unfold askOn
 simp only [hrs,hd',List.isEmpty_nil,if_true,pure,Sem.run,List.length_nil,Nat.not_lt_zero,if_false,ha',hany]
 by_cases hw:(g.status==.waiting)=true
 ·refine .inl ⟨#[],?_⟩
  simp only [hw,if_true]
 ·refine .inr ?_
  simp only [hw,if_false,Bool.false_eq_true]
  split<;>rename_i heq<;>split at heq<;>cases heq<;>exact ⟨_,_,_,rfl⟩
theorem lost_step (hP:Plain P) {g:Goroutine} (hg:Lost g) {w:World} {m':Machine} (h:step P (solo g w)=.next m'):2<=m'.gs.size\/∃ g' w',m'=solo g' w'/\Lost g':=by
 by_cases hs:g.status=.running
 ·cases hx:stepT P (solo g w) with
  | mk s ops =>
   have:s=.next m':=by have:=h;rw [step,hx] at this;exact this
   subst this
   rcases solo_step hP hg.ok hs hx with h2 | ⟨g',w',rfl,h3 | ⟨h3,_⟩⟩
   ·exact .inl h2
   ·exact .inr ⟨g',w',rfl,h3⟩
   ·exact (hg.lost.elim (fun x=>x h3) (fun x=>x hs)).elim
 ·rcases idle_step (P:=P) hs hg.awake w with ⟨ops,e⟩ | ⟨o,w',ops,e⟩
  ·rw [step,e] at h;cases h;exact .inr ⟨g,w,rfl,hg⟩
  ·rw [step,e] at h;cases h
theorem runN_size {n:Nat} {m m':Machine} (h:runN P n m=.next m'):m.gs.size<=m'.gs.size:=by
 have h1:=runNT_fst P n m #[]
 cases hx:runNT P n m #[] with
 | mk s t =>
  rw [hx] at h1
  have:s=.next m':=h1.trans h
  subst this
  exact runNT_size P n m m' #[] t hx
theorem lost_run (hP:Plain P):∀ {n:Nat} {g:Goroutine} {w:World} {g':Goroutine} {w':World},Lost g->runN P n (solo g w)=.next (solo g' w')->Lost g':=by
 intro n
 induction n with
 | zero=>intro g w g' w' hg h;simp only [runN,Stepped.next.injEq] at h;have:=congrArg (fun m:Machine=>m.gs[0]?) h;simp [solo] at this;exact this▸hg
 | succ n ih =>
  intro g w g' w' hg h
  simp only [runN] at h
  cases hs:step P (solo g w) with
  | ended o x=>rw [hs] at h;cases h
  | next m1 =>
   rw [hs] at h
   rcases lost_step hP hg hs with h2 | ⟨g1,w1,rfl,h3⟩
   ·have:=runN_size h;simp [solo] at this;omega
   ·exact ih h3 h
theorem dx.not_lost {g:Goroutine} (h:dx g):¬ Lost g:=fun x=>x.lost.elim (fun y=>y h.dying) (fun y=>y h.status)
theorem first_step (hP:Plain P) {n:Nat} {g:Goroutine} {w:World} {g':Goroutine} {w':World} (hg:dx g) (oq:dx g') (h:runN P (n+1) (solo g w)=.next (solo g' w')) :
  ∃ g1 w1 ops,stepT P (solo g w)=(.next (solo g1 w1),ops)/\dx g1/\Alone P g w g1 w1 ops/\runN P n (solo g1 w1)=.next (solo g' w'):=by
 simp only [runN] at h
 cases hx:stepT P (solo g w) with
 | mk s ops =>
  have hs:step P (solo g w)=s:=by rw [step,hx]
  rw [hs] at h
  cases s with
  | ended o x=>cases h
  | next m1 =>
   rcases solo_step hP hg.ok hg.status hx with h2 | ⟨g1,w1,rfl,h3 | ⟨_,h4⟩⟩
   ·have:=runN_size h;simp [solo] at this;omega
   ·exact absurd (lost_run hP h3 h) oq.not_lost
   ·exact ⟨g1,w1,ops,rfl,(h4 hg.offers).1,(h4 hg.offers).2,h⟩
end Lf
namespace Lf
open Go Go.Conc
variable {P : Program}
inductive Tree (P:Program) (K:Goroutine->World->Prop):Goroutine->World->Prop
 | stop {g:Goroutine} {w:World}:K g w->Tree P K g w
 | step {g:Goroutine} {w:World} (f:Tape->Nat->Goroutine×World×Array MemOp):dx g->(∀ τ d,dx (f τ d).1/\Alone P g (re w τ d) (f τ d).1 (f τ d).2.1 (f τ d).2.2/\stepT P (solo g (re w τ d))=(.next (solo (f τ d).1 (f τ d).2.1),(f τ d).2.2))->
   (∀ τ d,Tree P K (f τ d).1 (f τ d).2.1)->Tree P K g w
def Comes1 (P:Program) (K:Goroutine->World->Prop) (g:Goroutine) (w:World):Prop:=∃ n g' w',runN P n (solo g w)=.next (solo g' w')/\dx g'/\K g' w'
theorem comes_shift (hP:Plain P) {K:Goroutine->World->Prop} (hK:∀ g w τ d,K g w->K g (re w τ d)) :
  ∀ (n:Nat) {g g':Goroutine} {w w':World} {τ vX:Tape} {a b:Nat},dx g->dx g'->(∀ j,vX (b+j)=τ (a+j))->runN P n (solo g (re w τ a))=.next (solo g' w')->K g' w'->Comes1 P K g (re w vX b):=by
 intro n
 induction n with
 | zero =>
  intro g g' w w' τ vX a b hg oq hj h hk
  simp only [runN,Stepped.next.injEq] at h
  have e1:=congrArg (fun m:Machine=>m.gs[0]?) h
  have e2:=congrArg (fun m:Machine=>m.world) h
  simp [solo] at e1 e2
  subst e1
  refine ⟨0,g,re w vX b,rfl,hg,?_⟩
  rw [<- e2] at hk
  exact hK g (re w τ a) vX b hk
 | succ n ih =>
  intro g g' w w' τ vX a b hg oq hj h hk
  obtain ⟨g1,w1,ops,h1,h2,h3,h4⟩:=first_step hP hg oq h
  obtain ⟨m,e1,e2⟩:=h3.alike
  have hs:=e2 vX b (fun j _=>hj j)
  rw [re_re] at hs
  have e1':w1=re w1 τ (a+m):=e1
  rw [e1'] at h4
  obtain ⟨k,g2,w2,h5,h6,h7⟩:=ih (w:=w1) (τ:=τ) (vX:=vX) (a:=a+m) (b:=b+m) h2 oq (fun j=>by rw [Nat.add_assoc,Nat.add_assoc];exact hj _) h4 hk
  exact ⟨k+1,g2,w2,by simp only [runN,step,hs];exact h5,h6,h7⟩
theorem tree_of_comes (hP:Plain P) {K:Goroutine->World->Prop} (hK:∀ g w τ d,K g w->K g (re w τ d)) {g:Goroutine} {w:World} (hg:dx g) (h:∀ τ d,Comes1 P K g (re w τ d)):Tree P K g w:=by
 apply Classical.byContradiction
 intro hno
 let S:Goroutine×World->Prop:=fun s=>dx s.1/\(∀ τ d,Comes1 P K s.1 (re s.2 τ d))/\¬ Tree P K s.1 s.2
 have next:∀ s:{s // S s},∃ (s':{s // S s}) (τ:Tape) (d m:Nat),∀ τ2 d2,(∀ j,j<m->τ2 (d2+j)=τ (d+j))->stepT P (solo s.1.1 (re s.1.2 τ2 d2))=(.next (solo s'.1.1 (re s'.1.2 τ2 (d2+m))),(stepT P (solo s.1.1 (re s.1.2 τ d))).2):=by
  rintro ⟨⟨g,w⟩,hg,hr,hn⟩
  simp only at hg hr hn
  have hnk:¬ K g w:=fun hk=>hn (.stop hk)
  have one:∀ τ d,∃ g1 w1 ops,stepT P (solo g (re w τ d))=(.next (solo g1 w1),ops)/\dx g1/\Alone P g (re w τ d) g1 w1 ops:=by
   intro τ d
   obtain ⟨n,g',w',h1,h2,h3⟩:=hr τ d
   cases n with
   | zero =>
    simp only [runN,Stepped.next.injEq] at h1
    have e1:=congrArg (fun m:Machine=>m.gs[0]?) h1
    have e2:=congrArg (fun m:Machine=>m.world) h1
    simp [solo] at e1 e2
    subst e1
    rw [<- e2] at h3
    exact absurd (hK g (re w τ d) w.tape w.drawn h3) hnk
   | succ n =>
    obtain ⟨g1,w1,ops,a,b,c,_⟩:=first_step hP hg h2 h1
    exact ⟨g1,w1,ops,a,b,c⟩
  have bad:∃ τ d g1 w1 ops,stepT P (solo g (re w τ d))=(.next (solo g1 w1),ops)/\dx g1/\Alone P g (re w τ d) g1 w1 ops/\¬ Tree P K g1 w1:=by
   apply Classical.byContradiction
   intro nc
   have one':∀ x:Tape×Nat,∃ y:Goroutine×World×Array MemOp,stepT P (solo g (re w x.1 x.2))=(.next (solo y.1 y.2.1),y.2.2)/\dx y.1/\Alone P g (re w x.1 x.2) y.1 y.2.1 y.2.2:=fun x=>let ⟨g1,w1,ops,h⟩:=one x.1 x.2;⟨(g1,w1,ops),h⟩
   refine hn (.step (fun τ d=>Classical.choose (one' (τ,d))) hg (fun τ d=>?_) (fun τ d=>?_))
   ·obtain ⟨a,b,c⟩:=Classical.choose_spec (one' (τ,d))
    exact ⟨b,c,a⟩
   ·obtain ⟨a,b,c⟩:=Classical.choose_spec (one' (τ,d))
    apply Classical.byContradiction
    intro ht
    exact nc ⟨τ,d,_,_,_,a,b,c,ht⟩
  obtain ⟨τ,d,g1,w1,ops,a,b,c,ht⟩:=bad
  obtain ⟨m,e1,e2⟩:=c.alike
  have e1':w1=re w1 τ (d+m):=e1
  refine ⟨⟨(g1,w1),b,fun vX d'=>?_,ht⟩,τ,d,m,fun τ2 d2 h2=>?_⟩
  ·
   let τ2:Tape:=fun p=>if p<d+m then τ p else vX (p-(d+m)+d')
   have hs:=e2 τ2 d (fun j hj=>by show (if d+j<d+m then τ (d+j) else _)=τ (d+j);rw [if_pos (by omega)])
   rw [re_re] at hs
   obtain ⟨n,g',w',h1,h2,h3⟩:=hr τ2 d
   cases n with
   | zero =>
    simp only [runN,Stepped.next.injEq] at h1
    have e3:=congrArg (fun m:Machine=>m.gs[0]?) h1
    have e4:=congrArg (fun m:Machine=>m.world) h1
    simp [solo] at e3 e4
    subst e3
    rw [<- e4] at h3
    exact absurd (hK g (re w τ2 d) w.tape w.drawn h3) hnk
   | succ n =>
    simp only [runN,step,hs] at h1
    refine comes_shift hP hK n (τ:=τ2) (a:=d+m) b h2 (fun j=>?_) h1 h3
    show vX (d'+j)=(if d+m+j<d+m then τ (d+m+j) else vX (d+m+j-(d+m)+d'))
    rw [if_neg (by omega)]
    congr 1;omega
  ·have:=e2 τ2 d2 h2
   rw [re_re] at this
   rw [this,a]
 have next':∀ s:{s // S s},∃ x:{s // S s}×Tape×Nat×Nat,∀ τ2 d2,(∀ j,j<x.2.2.2->τ2 (d2+j)=x.2.1 (x.2.2.1+j))->stepT P (solo s.1.1 (re s.1.2 τ2 d2))=(.next (solo x.1.1.1 (re x.1.1.2 τ2 (d2+x.2.2.2))),(stepT P (solo s.1.1 (re s.1.2 x.2.1 x.2.2.1))).2) :=
  fun s=>let ⟨a,b,c,d,h⟩:=next s;⟨(a,b,c,d),h⟩
 let nx:{s // S s}->{s // S s}:=fun s=>(Classical.choose (next' s)).1
 let tp:{s // S s}->Tape:=fun s=>(Classical.choose (next' s)).2.1
 let pl:{s // S s}->Nat:=fun s=>(Classical.choose (next' s)).2.2.1
 let cnt:{s // S s}->Nat:=fun s=>(Classical.choose (next' s)).2.2.2
 have nh:∀ s τ2 d2,(∀ j,j<cnt s->τ2 (d2+j)=tp s (pl s+j))->stepT P (solo s.1.1 (re s.1.2 τ2 d2))=(.next (solo (nx s).1.1 (re (nx s).1.2 τ2 (d2+cnt s))),(stepT P (solo s.1.1 (re s.1.2 (tp s) (pl s)))).2):=fun s=>Classical.choose_spec (next' s)
 let s0:{s // S s}:=⟨(g,w),hg,h,hno⟩
 let sq:Nat->{s // S s}:=fun n=>Nat.rec s0 (fun _ s=>nx s) n
 let D:Nat->Nat:=fun n=>Nat.rec 0 (fun k a=>a+cnt (sq k)) n
 have hD:∀ n,D (n+1)=D n+cnt (sq n):=fun _=>rfl
 have hmono:∀ a b,a<=b->D a<=D b:=by
  intro a b hab
  induction hab with
  | refl=>exact Nat.le_refl _
  | step _ ih=>exact Nat.le_trans ih (by rw [hD];omega)
 haveI:∀ p,Decidable (∃ n,D n<=p/\p<D (n+1)):=fun _=>Classical.propDecidable _
 let τs:Tape:=fun p=>if hp:∃ n,D n<=p/\p<D (n+1) then tp (sq (Classical.choose hp)) (pl (sq (Classical.choose hp))+(p-D (Classical.choose hp))) else fun _=>0
 have hτ:∀ n j,j<cnt (sq n)->τs (D n+j)=tp (sq n) (pl (sq n)+j):=by
  intro n j hj
  have hp:∃ k,D k<=D n+j/\D n+j<D (k+1):=⟨n,by omega,by rw [hD];omega⟩
  have hc:=Classical.choose_spec hp
  have hk:Classical.choose hp=n:=by
   rcases Nat.lt_trichotomy (Classical.choose hp) n with cz | heq | hgt
   ·have:=hmono _ _ (show Classical.choose hp+1<=n from cz);omega
   ·exact heq
   ·have h1:=hmono _ _ (show n+1<=Classical.choose hp from hgt);rw [hD] at h1;omega
  show (if hp:∃ n',D n'<=D n+j/\D n+j<D (n'+1) then _ else _)=_
  rw [dif_pos hp,hk]
  congr 1;omega
 have run:∀ n,runN P n (solo g (re w τs 0))=.next (solo (sq n).1.1 (re (sq n).1.2 τs (D n))):=by
  intro n
  induction n with
  | zero=>rfl
  | succ n ih =>
   rw [runN_add,ih]
   have:=nh (sq n) τs (D n) (fun j hj=>hτ n j hj)
   simp only [runN,step,this]
   rfl
 obtain ⟨n,g',w',h1,_,h3⟩:=h τs 0
 rw [run n] at h1
 simp only [Stepped.next.injEq] at h1
 have e3:=congrArg (fun m:Machine=>m.gs[0]?) h1
 have e4:=congrArg (fun m:Machine=>m.world) h1
 simp [solo] at e3 e4
 rw [<- e3,<- e4] at h3
 exact (sq n).2.2.2 (.stop (hK _ (re (sq n).1.2 τs (D n)) (sq n).1.2.tape (sq n).1.2.drawn h3))
end Lf
namespace Lf
open Go Go.Conc
open Go.ConcN (sumTo upd sumTo_upd upd_ne upd_same)
variable {P : Program}
structure Fr (P:Program) (gs:Array Goroutine) (t:Trace) (g:Goroutine):Prop where
 zero:gs[0]? = some g
 leave:∃ q,Leavers P t gs q
 past:∃ B,Past (fun _=>False) B t
def kP (P:Program) (K:Goroutine->World->Prop) (g:Goroutine) (w:World):Prop :=
 ∀ gs sl t,Fr P gs t g->∃ N mN g' w' jo t',runNT P N (crowd gs w sl) t=(.next (crowd mN w' jo),t')/\Fr P mN t' g'/\K g' w'
theorem runNT_app {m m' m'':Machine} {t t' t'':Trace} {N M:Nat} (h:runNT P N m t=(.next m',t')) (hk:runNT P M m' t'=(.next m'',t'')):runNT P (N+M) m t=(.next m'',t''):=by
 rw [runNT_add,h];exact hk
theorem kP.here {K:Goroutine->World->Prop} {g:Goroutine} {w:World} (h:K g w):kP P K g w:=fun gs sl t hf=>⟨0,gs,g,w,sl,t,rfl,hf,h⟩
theorem kP.trans {K L:Goroutine->World->Prop} {g:Goroutine} {w:World} (h:kP P K g w) (hk:∀ g' w',K g' w'->kP P L g' w'):kP P L g w:=by
 intro gs sl t hf
 obtain ⟨N,gs1,g1,w1,sl1,t1,h1,h2,h3⟩:=h gs sl t hf
 obtain ⟨M,gs2,g2,w2,sl2,t2,h4,h5,h6⟩:=hk g1 w1 h3 gs1 sl1 t1 h2
 exact ⟨N+M,gs2,g2,w2,sl2,t2,runNT_app h1 h4,h5,h6⟩
theorem kP.mono {K L:Goroutine->World->Prop} {g:Goroutine} {w:World} (h:kP P K g w) (hk:∀ g' w',K g' w'->L g' w'):kP P L g w:=h.trans fun g' w' x=>.here (hk g' w' x)
theorem low_any (act:MemAct):∃ B,act.low B:=by
 cases act with
 | access e =>
  obtain ⟨loc,wr,sy⟩:=e
  cases loc with
  | cell a=>exact ⟨a.block+1,Nat.lt_succ_self _⟩
  | obj r=>exact ⟨r+1,Nat.lt_succ_self _⟩
  | _=>exact ⟨0,trivial⟩
 | mark m =>
  cases m with
  | acquire a=>exact ⟨a.block+1,Nat.lt_succ_self _⟩
  | release a=>exact ⟨a.block+1,Nat.lt_succ_self _⟩
  | releaseMerge a=>exact ⟨a.block+1,Nat.lt_succ_self _⟩
  | read a=>exact ⟨a.block+1,Nat.lt_succ_self _⟩
  | write a=>exact ⟨a.block+1,Nat.lt_succ_self _⟩
  | _=>exact ⟨0,trivial⟩
 | go _=>exact ⟨0,trivial⟩
 | start=>exact ⟨0,trivial⟩
 | send c _=>exact ⟨c+1,Nat.lt_succ_self _⟩
 | sendDone c _=>exact ⟨c+1,Nat.lt_succ_self _⟩
 | recv c _ _=>exact ⟨c+1,Nat.lt_succ_self _⟩
 | recvDone c _=>exact ⟨c+1,Nat.lt_succ_self _⟩
 | close c=>exact ⟨c+1,Nat.lt_succ_self _⟩
 | recvClosed c=>exact ⟨c+1,Nat.lt_succ_self _⟩
theorem vk (ops:Array MemOp) (B:Nat):∃ B',B<=B'/\∀ op∈ops,op.act.low B':=by
 obtain ⟨l⟩:=ops
 induction l with
 | nil=>exact ⟨B,Nat.le_refl _,by simp⟩
 | cons a l ih =>
  obtain ⟨B1,h1,h2⟩:=ih
  obtain ⟨B2,h3⟩:=low_any a.act
  refine ⟨max B1 B2,Nat.le_trans h1 (Nat.le_max_left _ _),fun op aN=>?_⟩
  simp at aN
  rcases aN with rfl | aN
  ·exact MemAct.low_mono (Nat.le_max_right _ _) h3
  ·exact MemAct.low_mono (Nat.le_max_left _ _) (h2 op (by simpa using aN))
theorem Fr.own {gs:Array Goroutine} {t:Trace} {g g':Goroutine} (hf:Fr P gs t g) {ops:Array MemOp} {f:Goroutine->Goroutine} (h1:∀ op∈ops,op.g=0) (h2:Deaf t 0=0->Deaf (t++ops) 0=0) (h3:∀ x,(x.status=.running\/x.status=.finished)->f x=x) :
  Fr P ((gs.map f).setIfInBounds 0 g') (t++ops) g':=by
 obtain ⟨h0,⟨q,hL⟩,⟨B,hB⟩⟩:=hf
 have cz:0<gs.size:=(Array.getElem?_eq_some_iff.1 h0).1
 obtain ⟨B',a_,cB⟩:=vk ops B
 refine ⟨by simp [cz],⟨q,fun j x hj hx=>?_,fun j hj=>?_⟩,⟨B',?_⟩⟩
 ·have hne:0≠j:=by omega
  rw [Array.getElem?_setIfInBounds_ne hne,Array.getElem?_map] at hx
  obtain ⟨y,hy,rfl⟩:=Option.map_eq_some_iff.1 hx
  have hq:=hL.old j y hj hy
  rw [h3 y hq.status,Deaf_other t (by omega) ops h1]
  exact hq
 ·rw [Deaf_other t (g':=0) (by simp at hj;omega) ops h1]
  exact hL.above j (by simpa using hj)
 ·refine (hB.mono a_).app0 h1 (fun _ _ _ _ h=>h.elim) ?_ cB
  rw [h2 hB.hears,hB.hears]
theorem tree_leads {K:Goroutine->World->Prop} {g:Goroutine} {w:World} (h:Tree P K g w):kP P K g w:=by
 induction h with
 | stop hk=>exact .here hk
 | @step g w f hg h1 _ ih =>
  have main:∀ (M:Nat) (gs:Array Goroutine) (d0:Nat) (sl:Option (Nat×Nat)) (t:Trace) (q:Nat->Nat),sumTo gs.size q<=M->gs[0]? = some g->Leavers P t gs q->(∃ B,Past (fun _=>False) B t)->
    ∃ N mN g' w' jo t',runNT P N (crowd gs (w.at d0) sl) t=(.next (crowd mN w' jo),t')/\Fr P mN t' g'/\K g' w':=by
   intro M
   induction M using Nat.strongRecOn with
   | _ M ihM =>
    intro gs d0 sl t q hM h0 hL hB
    have haw:∀ x∈gs,awake x:=by
     intro x hx
     obtain ⟨i,hi,rfl⟩:=Array.mem_iff_getElem.1 hx
     rcases Nat.eq_zero_or_pos i with rfl | fE
     ·have:gs[0]=g:=by simpa [Array.getElem?_eq_getElem hi] using h0
      rw [this];exact awake_of (.inl hg.status)
     ·exact awake_of ((hL.old i _ fE (Array.getElem?_eq_getElem hi)).status.elim .inl fun x=>.inr (.inr x))
    obtain ⟨i,x,d,jo,hi,hx,df⟩:=crowd_pick (P:=P) (w:=w.at d0) (sl:=sl) haw ⟨0,g,h0,hg.status⟩
    have hw:(w.at d0).at d=re w w.tape d:=rfl
    rw [hw] at df
    rcases Nat.eq_zero_or_pos i with rfl | fE
    ·
     obtain rfl:x=g:=by rw [h0] at hi;exact (Option.some.inj hi).symm
     obtain ⟨a1,a2,a3⟩:=h1 w.tape d
     obtain ⟨fw,b1,b2⟩:=a2.beside gs jo h0 (fun j y hj hy=>(hL.old j y hj hy).status)
     have hfr:=Fr.own (P:=P) (g':=(f w.tape d).1) ⟨h0,⟨q,hL⟩,hB⟩ a2.own (a2.hears t) b1
     obtain ⟨N,mN,g',w',sl'',t',c1,c2,c3⟩:=ih w.tape d _ jo _ hfr
     exact ⟨N+1,mN,g',w',sl'',t',by simp only [runNT,df,b2];exact c1,c2,c3⟩
    ·
     have hq:=hL.old i x fE hi
     have ix:(i==0)=false:=by simp;omega
     have cz:i<gs.size:=(Array.getElem?_eq_some_iff.1 hi).1
     cases hqi:q i with
     | zero=>rw [hqi] at hq;rw [hq.1] at hx;cases hx
     | succ k =>
      rw [hqi] at hq
      rcases hq with ⟨bH,_⟩ | ⟨_,x',es,hm,hstp,hq'⟩
      ·rw [bH] at hx;cases hx
      have hrunT:=runT_crowd_go (P:=P) (w:=re w w.tape d) (sl:=jo) (i:=i) hi (by rw [ix];exact hstp (re w w.tape d))
      have oK:((gs.map (woken P x x' (re w w.tape d))).setIfInBounds i x').size=gs.size:=by simp
      have hsum:sumTo gs.size (upd q i k)+(k+1)=sumTo gs.size q+k:=by
       have:=sumTo_upd q k id cz
       simpa [hqi] using this
      obtain ⟨B,hB⟩:=hB
      obtain ⟨N,mN,g',w',sl'',t',c1,c2,c3⟩:=ihM (sumTo gs.size (upd q i k)) (by omega) ((gs.map (woken P x x' (re w w.tape d))).setIfInBounds i x') d jo (t++MemOp.ofEvents i x.frame.fn x.frame.place es) (upd q i k) (by rw [oK];exact Nat.le_refl _)
       (by
        have hne:i≠0:=by omega
        rw [Array.getElem?_setIfInBounds_ne hne,Array.getElem?_map,h0]
        simp [woken_running hg.status])
       ⟨fun j y hj hy=>by
        by_cases mO:i=j
        ·subst mO
         rw [Array.getElem?_setIfInBounds_self_of_lt (by simpa using cz)] at hy
         obtain rfl:=Option.some.inj hy
         rw [upd_same,Deaf_own]
         exact hq'
        ·rw [Array.getElem?_setIfInBounds_ne mO,Array.getElem?_map] at hy
         obtain ⟨z,hz,rfl⟩:=Option.map_eq_some_iff.1 hy
         have hqj:=hL.old j z hj hz
         rw [woken_quitsD hqj,upd_ne q k (Ne.symm mO),Deaf_other t mO _ (fun op aN=>by obtain ⟨e,_,rfl⟩:=Go.Conc.mem_ofEvents aN;rfl)]
         exact hqj,fun j hj=>by
        rw [Deaf_other t (g':=i) (by simp at hj;omega) _ (fun op aN=>by obtain ⟨e,_,rfl⟩:=Go.Conc.mem_ofEvents aN;rfl)]
        exact hL.above j (by simpa using hj)⟩
       ⟨B,hB.mute (by omega) hm⟩
      exact ⟨N+1,mN,g',w',sl'',t',by simp only [runNT,df,hrunT];exact c1,c2,c3⟩
  intro gs sl t hf
  obtain ⟨h0,⟨q,hL⟩,hB⟩:=hf
  exact main _ gs w.drawn sl t q (Nat.le_refl _) h0 hL hB
end Lf
namespace Lf
open Go Go.Conc
open Go.ConcN (sumTo upd sumTo_upd upd_ne upd_same)
variable {P : Program}
theorem gq (t:Trace) {g:Nat} (u:Trace) (hu:∀ op∈u,op.g≠g):Deaf (t++u) g=Deaf t g:=by
 have key:∀ (l:List MemOp) (d:Nat),(∀ op∈l,op.g≠g)->l.foldl (deafStep g) d=d:=by
  intro l
  induction l with
  | nil=>intro d _;rfl
  | cons y l ih =>
   intro d h
   have hy:y.g≠g:=h y (by simp)
   have:deafStep g d y=d:=by
    unfold deafStep
    split<;>simp_all
   rw [List.foldl_cons,this]
   exact ih d fun op aN=>h op (by simp [aN])
 have e:(t++u:Trace)=t++u.toList.toArray:=by simp
 rw [e,Deaf_append]
 exact key _ _ fun op aN=>hu op (by simpa using aN)
structure ot (P:Program) (skip:Nat->Prop) (t:Trace) (gs:Array Goroutine) (q:Nat->Nat):Prop where
 old:∀ i g,0<i->¬ skip i->gs[i]? = some g->QuitsD P (q i) (Deaf t i) g
 above:∀ j,gs.size<=j->Deaf t j=0
theorem ot.of {t:Trace} {gs:Array Goroutine} {q:Nat->Nat} (h:Leavers P t gs q) (skip:Nat->Prop):ot P skip t gs q:=⟨fun i g h0 _ hg=>h.old i g h0 hg,h.above⟩
theorem ot.all {t:Trace} {gs:Array Goroutine} {q:Nat->Nat} (h:ot P (fun _=>False) t gs q):Leavers P t gs q:=⟨fun i g h0 hg=>h.old i g h0 (fun x=>x) hg,h.above⟩
theorem ot.turn {skip:Nat->Prop} {t u:Trace} {gs mN:Array Goroutine} {q:Nat->Nat} (h:ot P skip t gs q) (hs:mN.size=gs.size) (hg:∀ i x,0<i->¬ skip i->mN[i]? = some x->gs[i]? = some x) (hu:∀ op∈u,(op.g=0\/skip op.g)/\op.g<gs.size):ot P skip (t++u) mN q:=by
 refine ⟨fun i x h0 hk hx=>?_,fun j hj=>?_⟩
 ·rw [gq t u fun op aN e=>?_]
  ·exact h.old i x h0 hk (hg i x h0 hk hx)
  ·rcases (hu op aN).1 with h1 | h1
   ·omega
   ·exact hk (e▸h1)
 ·rw [gq t u fun op aN e=>?_]
  ·exact h.above j (by omega)
  ·have:=(hu op aN).2;omega
theorem slip {skip:Nat->Prop} {gs:Array Goroutine} {t:Trace} {q:Nat->Nat} {w:World} {sl:Option (Nat×Nat)} {i:Nat} {x:Goroutine} (hL:ot P skip t gs q) (hi:gs[i]? = some x) (hx:x.status=.running) (fE:0<i) (hsk:¬ skip i) :
  ∃ (mN:Array Goroutine) (u:Trace) (q':Nat->Nat),runT P (crowd gs w sl) i=(.next (crowd mN w sl),u)/\mN.size=gs.size/\sumTo gs.size q'<sumTo gs.size q/\ot P skip (t++u) mN q'/\
   (∀ op∈u,op.g=i/\op.act.touch? = none/\∀ B,op.act.low B)/\∀ j y,(j=0\/skip j)->gs[j]? = some y->(∀ a a',woken P a a' w y=y)->mN[j]? = some y:=by
 have hq:=hL.old i x fE hsk hi
 have ix:(i==0)=false:=by simp;omega
 have cz:i<gs.size:=(Array.getElem?_eq_some_iff.1 hi).1
 cases hqi:q i with
 | zero=>rw [hqi] at hq;rw [hq.1] at hx;cases hx
 | succ k =>
  rw [hqi] at hq
  rcases hq with ⟨bH,_⟩ | ⟨_,x',es,hm,hstp,hq'⟩
  ·rw [bH] at hx;cases hx
  have hrunT:=runT_crowd_go (P:=P) (w:=w) (sl:=sl) (i:=i) hi (by rw [ix];exact hstp w)
  have cE:∀ op∈MemOp.ofEvents i x.frame.fn x.frame.place es,op.g=i:=fun op aN=>by obtain ⟨e,_,rfl⟩:=Go.Conc.mem_ofEvents aN;rfl
  refine ⟨(gs.map (woken P x x' w)).setIfInBounds i x',MemOp.ofEvents i x.frame.fn x.frame.place es,upd q i k,hrunT,by simp,?_,⟨fun j y hj hjs hy=>?_,fun j hj=>?_⟩,fun op aN=>?_,fun j y hj hy hw=>?_⟩
  ·have hsum:sumTo gs.size (upd q i k)+(k+1)=sumTo gs.size q+k:=by
    have:=sumTo_upd q k id cz
    simpa [hqi] using this
   omega
  ·by_cases mO:i=j
   ·subst mO
    rw [Array.getElem?_setIfInBounds_self_of_lt (by simpa using cz)] at hy
    obtain rfl:=Option.some.inj hy
    rw [upd_same,Deaf_own]
    exact hq'
   ·rw [Array.getElem?_setIfInBounds_ne mO,Array.getElem?_map] at hy
    obtain ⟨z,hz,rfl⟩:=Option.map_eq_some_iff.1 hy
    have hqj:=hL.old j z hj hjs hz
    rw [woken_quitsD hqj,upd_ne q k (Ne.symm mO),gq t _ (fun op aN e=>mO ((cE op aN).symm.trans e))]
    exact hqj
  ·rw [gq t _ (fun op aN e=>by have:=cE op aN;simp at hj;omega)]
   exact hL.above j (by simpa using hj)
  ·obtain ⟨e,he,rfl⟩:=Go.Conc.mem_ofEvents aN
   exact ⟨rfl,touch_mute (hm e he),low_mute (hm e he)⟩
  ·have hne:i≠j:=by
    rintro rfl
    rcases hj with h | h
    ·omega
    ·exact hsk h
   rw [Array.getElem?_setIfInBounds_ne hne,Array.getElem?_map,hy]
   simp [hw]
def EvK (C:Touch->Prop) (e:Event):Prop:=(∀ x,(MemAct.ofEvent e).touch? = some x->x.loc.isMemory=true->C x)/\e.loc≠.mark .disable/\e.loc≠.mark .enable
structure Apt (B:Nat) (S T:Nat->Prop) (w:World):Prop where
 s:∀ b,S b->B<=b/\b<w.heap.size
 t:∀ b,T b->B<=b/\b<w.heap.size
 st:∀ b,S b->¬ T b
 low:B<=w.heap.size
theorem Apt.same {B:Nat} {S T:Nat->Prop} {w w':World} (h:Apt B S T w) (e:w'.heap.size=w.heap.size):Apt B S T w':=⟨fun b x=>by rw [e];exact h.s b x,fun b x=>by rw [e];exact h.t b x,h.st,by rw [e];exact h.low⟩
theorem Apt.grow0 {B:Nat} {S T:Nat->Prop} {w w':World} (h:Apt B S T w) (e:w.heap.size<=w'.heap.size):Apt B (grow S w w') T w' :=
 ⟨fun b x=>by
  rcases x with x | x
  ·have:=h.s b x;omega
  ·have:=h.low;omega,fun b x=>by have:=h.t b x;omega,fun b x y=>by
  rcases x with x | x
  ·exact h.st b x y
  ·have:=h.t b y;omega,by have:=h.low;omega⟩
theorem Apt.growC {B:Nat} {S T:Nat->Prop} {w w':World} (h:Apt B S T w) (e:w.heap.size<=w'.heap.size):Apt B S (grow T w w') w' :=
 ⟨fun b x=>by have:=h.s b x;omega,fun b x=>by
  rcases x with x | x
  ·have:=h.t b x;omega
  ·have:=h.low;omega,fun b x y=>by
  rcases y with y | y
  ·exact h.st b x y
  ·have:=h.s b x;omega,by have:=h.low;omega⟩
structure Pair (c B:Nat) (R0:(Nat->Prop)->World->World->Prop) (D0:(Nat->Prop)->World->World->Array Event->Prop) (RB:(Nat->Prop)->World->World->Prop) (DB:(Nat->Prop)->World->World->Array Event->Prop) (CA CB:(Nat->Prop)->Touch->Prop):Prop where
 t0:dh R0 D0
 tB:dh RB DB
 refl0:∀ S w,R0 S w w
 reflB:∀ S w,RB S w w
 at0:∀ S (w:World) (d:Nat),R0 S w (w.at d)
 atB:∀ S (w:World) (d:Nat),RB S w (w.at d)
 put0:∀ S (w:World) n buf cl s r tm,R0 S w (w.setChan c n buf cl s r tm)
 putB:∀ S (w:World) n buf cl s r tm,RB S w (w.setChan c n buf cl s r tm)
 d0:∀ S T w w' es,Apt B S T w->D0 S w w' es->RB T w w'/\w'.heap[c]? = w.heap[c]?/\(∀ e∈es,EvK (CA (grow S w w')) e)/\w.heap.size<=w'.heap.size
 dB:∀ S T w w' es,Apt B S T w->DB T w w' es->R0 S w w'/\w'.heap[c]? = w.heap[c]?/\(∀ e∈es,EvK (CB (grow T w w')) e)/\w.heap.size<=w'.heap.size
 mono:∀ S S',(∀ b,S b->S' b)->(∀ a,CA S a->CA S' a)/\(∀ a,CB S a->CB S' a)
 apart:∀ S T w,Apt B S T w->ApartT (CA S) (CB T)
theorem grow_sub (S:Nat->Prop) (w w':World):∀ b,S b->grow S w w' b:=fun _ h=>.inl h
theorem fV (w:World) (c n:Nat) (buf:Array Value) (cl:Bool) (s r:Nat) (tm:Bool):(w.setChan c n buf cl s r tm).heap.size=w.heap.size:=by simp [World.setChan]
section
theorem ops_own {C:Touch->Prop} {g:Nat} {fn:FuncId} {pos:String} {es:Array Event} (h:∀ e∈es,EvK C e):(∀ op∈MemOp.ofEvents g fn pos es,op.g=g)/\(∀ op∈MemOp.ofEvents g fn pos es,∀ b,op.act.touch? = some b->b.loc.isMemory=true->C b)/\∀ t:Trace,Deaf (t++MemOp.ofEvents g fn pos es) g=Deaf t g :=
 ⟨fun op aN=>by obtain ⟨e,_,rfl⟩:=Go.Conc.mem_ofEvents aN;rfl,fun op aN b hb hm=>by obtain ⟨e,he,rfl⟩:=Go.Conc.mem_ofEvents aN;exact (h e he).1 b hb hm,fun t=>by rw [Deaf_own];exact deafBehind_still (fun e he=>(h e he).2) _⟩
theorem TI.evs0 {hc:Prop} {κ B:Nat} {A C:Touch->Prop} {t:Trace} (oL:κ≠0) (hA:ApartT A C) (h:TI hc κ B A C t) {fn:FuncId} {pos:String} {es:Array Event} (hes:∀ e∈es,EvK A e):∃ B',B<=B'/\TI hc κ B' A C (t++MemOp.ofEvents 0 fn pos es):=by
 obtain ⟨h1,h2,h3⟩:=ops_own (g:=0) (fn:=fn) (pos:=pos) hes
 obtain ⟨B',hb,hl⟩:=vk (MemOp.ofEvents 0 fn pos es) B
 exact ⟨B',hb,(h.mono hb (fun _ x=>x) (fun _ x=>x)).app0 oL hA h1 h2 ((h3 t).trans h.hears) hl⟩
theorem TI.evsC {hc:Prop} {κ B:Nat} {A C:Touch->Prop} {t:Trace} (oL:κ≠0) (hA:ApartT A C) (h:TI hc κ B A C t) {fn:FuncId} {pos:String} {es:Array Event} (hes:∀ e∈es,EvK C e):∃ B',B<=B'/\TI hc κ B' A C (t++MemOp.ofEvents κ fn pos es):=by
 obtain ⟨h1,h2,h3⟩:=ops_own (g:=κ) (fn:=fn) (pos:=pos) hes
 obtain ⟨B',hb,hl⟩:=vk (MemOp.ofEvents κ fn pos es) B
 exact ⟨B',hb,(h.mono hb (fun _ x=>x) (fun _ x=>x)).appC oL hA h1 h2 (fun x=>(h3 t).trans (h.rA x)) hl⟩
theorem TI.still {hc:Prop} {κ B:Nat} {A C:Touch->Prop} {t u:Trace} (h:TI hc κ B A C t) (hn:∀ op∈u,op.act.touch? = none) (hd:∀ op∈u,(op.g≠0\/(op.act≠.mark .disable/\op.act≠.mark .enable))/\(op.g≠κ\/(op.act≠.mark .disable/\op.act≠.mark .enable)\/¬ hc)):∃ B',B<=B'/\TI hc κ B' A C (t++u):=by
 have still:∀ g,(∀ op∈u,op.g≠g\/(op.act≠.mark .disable/\op.act≠.mark .enable))->Deaf (t++u) g=Deaf t g:=by
  intro g hg
  have key:∀ (l:List MemOp) (d:Nat),(∀ op∈l,op.g≠g\/(op.act≠.mark .disable/\op.act≠.mark .enable))->l.foldl (deafStep g) d=d:=by
   intro l
   induction l with
   | nil=>intro d _;rfl
   | cons y l ih =>
    intro d h
    have hy:=h y (by simp)
    have:deafStep g d y=d:=by
     unfold deafStep
     split<;>simp_all
    rw [List.foldl_cons,this]
    exact ih d fun op aN=>h op (by simp [aN])
  have e:(t++u:Trace)=t++u.toList.toArray:=by simp
  rw [e,Deaf_append]
  exact key _ _ fun op aN=>hg op (by simpa using aN)
 obtain ⟨B',hb,hl⟩:=vk u B
 refine ⟨B',hb,(h.mono hb (fun _ x=>x) (fun _ x=>x)).appMute hn ((still 0 fun op aN=>(hd op aN).1).trans h.hears) (fun x=>(still κ fun op aN=>?_).trans (h.rA x)) hl⟩
 rcases (hd op aN).2 with y | y | y
 ·exact .inl y
 ·exact .inr y
 ·exact absurd x y
end
end Lf
namespace Lf
open Go Go.Conc
open Go.ConcN (sumTo upd sumTo_upd upd_ne upd_same)
variable {P : Program}
section
variable (P : Program) (c : Nat) (z : Value) (R0 : (Nat → Prop) → World → World → Prop) (D0 : (Nat → Prop) → World → World → Array Event → Prop) (RB : (Nat → Prop) → World → World → Prop) (DB : (Nat → Prop) → World → World → Array Event → Prop) (CA CB : (Nat → Prop) → Touch → Prop) (n : Nat)
def AtR (S:Nat->Prop) (g:Goroutine) (w:World):Prop:=∀ w₁,R0 S w w₁->∃ es,stepG P true g w₁=.comm g #[rcase c z] true (.recv true) w₁ es/\∀ e∈es,EvK (CA S) e
inductive SA (K:Goroutine->World->Prop):List Value->(Nat->Prop)->Goroutine->World->Prop
 | own {L:List Value} {S:Nat->Prop} {g:Goroutine} {w:World} (f:World->Goroutine×World×Array Event):g.status=.running->(∀ w₁,R0 S w w₁->stepG P true g w₁=.go (f w₁).1 (f w₁).2.1 (f w₁).2.2/\D0 S w₁ (f w₁).2.1 (f w₁).2.2)->(∀ w₁,R0 S w w₁->SA K L (grow S w₁ (f w₁).2.1) (f w₁).1 (f w₁).2.1)->SA K L S g w
 | recv {v:Value} {L:List Value} {S:Nat->Prop} {g:Goroutine} {w:World}:g.status=.running->AtR P c z R0 CA S g w->(∀ w₁,R0 S w w₁->SA K L S (Go.Conc.served g (recvd true v true)) w₁)->SA K (v::L) S g w
 | fin {S:Nat->Prop} {g:Goroutine} {w:World}:g.status=.running->AtR P c z R0 CA S g w->(∀ w₁,R0 S w w₁->K (Go.Conc.served g (recvd true z false)) w₁)->SA K [] S g w
inductive SB:List Value->(Nat->Prop)->Goroutine->World->Prop
 | own {L:List Value} {T:Nat->Prop} {g:Goroutine} {w:World} (f:World->Goroutine×World×Array Event):g.status=.running->(∀ w₁,RB T w w₁->stepG P false g w₁=.go (f w₁).1 (f w₁).2.1 (f w₁).2.2/\DB T w₁ (f w₁).2.1 (f w₁).2.2)->(∀ w₁,RB T w w₁->SB L (grow T w₁ (f w₁).2.1) (f w₁).1 (f w₁).2.1)->SB L T g w
 | send {v y:Value} {L:List Value} {T:Nat->Prop} {g:Goroutine} {w:World}:g.status=.running->(∀ w₁,RB T w w₁->∃ es,stepG P false g w₁=.comm g #[scase c v y] true .send w₁ es/\∀ e∈es,EvK (CB T) e)->(∀ w₁,RB T w w₁->SB L T (Go.Conc.served g undef) w₁)->SB (v::L) T g w
 | close {T:Nat->Prop} {g g':Goroutine} {w:World} {q:Nat}:g.status=.running->mayWake P g=true->(∀ w₁ buf s r,RB T w w₁->w₁.heap[c]? = some (.chan n buf false s r false)->∃ es:Array Event,stepG P false g w₁=.go g' (w₁.setChan c n buf true s r false) (es.push ⟨.obj c,true,true⟩)/\∀ e∈es,EvK (CB T) e)->QuitsD P q 0 g'->SB [] T g w
end
section
variable {c : Nat} {z : Value} {iN : Nat} {R0 : (Nat → Prop) → World → World → Prop} {D0 : (Nat → Prop) → World → World → Array Event → Prop} {RB : (Nat → Prop) → World → World → Prop} {DB : (Nat → Prop) → World → World → Array Event → Prop} {CA CB : (Nat → Prop) → Touch → Prop} {n : Nat} {K : Goroutine → World → Prop}
theorem SA.running {L:List Value} {S:Nat->Prop} {g:Goroutine} {w:World} (h:SA P c z R0 D0 CA K L S g w):g.status=.running:=by cases h<;>assumption
theorem SA.rely (H:Pair c iN R0 D0 RB DB CA CB) {L:List Value} {S:Nat->Prop} {g:Goroutine} {w w':World} (h:SA P c z R0 D0 CA K L S g w) (hr:R0 S w w'):SA P c z R0 D0 CA K L S g w':=by
 cases h with
 | own f h1 h2 h3=>exact .own f h1 (fun w₁ h₁=>h2 w₁ (H.t0.trans _ _ _ _ hr h₁)) (fun w₁ h₁=>h3 w₁ (H.t0.trans _ _ _ _ hr h₁))
 | recv h1 h2 h3=>exact .recv h1 (fun w₁ h₁=>h2 w₁ (H.t0.trans _ _ _ _ hr h₁)) (fun w₁ h₁=>h3 w₁ (H.t0.trans _ _ _ _ hr h₁))
 | fin h1 h2 h3=>exact .fin h1 (fun w₁ h₁=>h2 w₁ (H.t0.trans _ _ _ _ hr h₁)) (fun w₁ h₁=>h3 w₁ (H.t0.trans _ _ _ _ hr h₁))
structure kZ (x g:Goroutine):Prop where
 status:x.status=.running
 frame:x.frame=g.frame
 callers:x.callers=g.callers
 dying:x.dying=g.dying
theorem kZ.step {x g:Goroutine} (h:kZ x g) (main:Bool) (w:World):stepG P main x w=stepG P main g w:=stepG_same h.frame h.callers h.dying w
theorem kZ.self {g:Goroutine} (h:g.status=.running):kZ g g:=⟨h,rfl,rfl,rfl⟩
def eN (P:Program) (K:Goroutine->World->Prop) (m:Machine) (t:Trace):Prop:=∃ N mN g' w' jo t',runNT P N m t=(.next (crowd mN w' jo),t')/\Fr P mN t' g'/\K g' w'
theorem eN.step {m m':Machine} {t:Trace} {u:Trace} (h:stepT P m=(.next m',u)) (h':eN P K m' (t++u)):eN P K m t:=by
 obtain ⟨N,mN,g',w',jo,t',h1,h2⟩:=h'
 exact ⟨N+1,mN,g',w',jo,t',by simp only [runNT,h];exact h1,h2⟩
theorem iH {gs:Array Goroutine} {i r:Nat} {send:Bool} (h:∀ (j:Nat) (g:Goroutine),j≠i->gs[j]? = some g->g.status≠.blocked):partners (gs.setIfInBounds i ph) r send=[]:=by
 refine partners_nil fun j g hg=>?_
 rcases getElem?_stand gs i j g hg with ⟨_,rfl⟩ | ⟨hne,oq⟩
 ·exact offersAt_ph r send
 ·exact offersAt_of_not_blocked (h j g hne oq) r send
theorem gN {w:World} {c cap s r mq s' r':Nat} {buf buf':Array Value} {cl cl' tm tm':Bool} (h:w.heap[c]? = some (.chan mq buf' cl' s' r' tm')):(w.setChan c cap buf cl s r tm).heap[c]? = some (.chan cap buf cl s r tm):=heap_put h
theorem take_head {buf:Array Value} {v:Value} {L:List Value} (hl:v::L=buf.toList):0<buf.size/\buf.getD 0 undef=v/\(buf.extract 1 buf.size).toList=L:=by
 obtain ⟨l⟩:=buf
 simp only at hl
 subst hl
 simp [Array.getD_eq_getD_getElem?]
theorem phase_shut (H:Pair c iN R0 D0 RB DB CA CB) {κ:Nat} (oL:κ≠0) {L:List Value} {S:Nat->Prop} {g:Goroutine} {w:World} (hA:SA P c z R0 D0 CA K L S g w) :
  ∀ (M:Nat) (T:Nat->Prop) (gs:Array Goroutine) (x:Goroutine) (bF:World) (sl:Option (Nat×Nat)) (t:Trace) (q:Nat->Nat) (buf:Array Value) (s r:Nat),sumTo gs.size q<=M->Apt iN S T bF->R0 S w bF->kZ x g->gs[0]? = some x->κ<gs.size->
   ot P (fun _=>False) t gs q->(∃ B,TI False κ B (CA S) (CB T) t)->Shut κ c t->bF.heap[c]? = some (.chan n buf true s r false)->L=buf.toList->eN P K (crowd gs bF sl) t:=by
 induction hA with
 | @own L S g w f hs h1 h2 ih =>
  intro M
  induction M using Nat.strongRecOn with
  | _ M ihM =>
   intro T gs x bF sl t q buf s r hM hAp hR hx h0 hk hL hT hS hc hl
   have haw:∀ y∈gs,awake y:=by
    intro y hy
    obtain ⟨i,hi,rfl⟩:=Array.mem_iff_getElem.1 hy
    rcases Nat.eq_zero_or_pos i with rfl | fE
    ·have:gs[0]=x:=by simpa [Array.getElem?_eq_getElem hi] using h0
     rw [this];exact awake_of (.inl hx.status)
    ·exact awake_of ((hL.old i _ fE (fun x=>x) (Array.getElem?_eq_getElem hi)).status.elim .inl fun x=>.inr (.inr x))
   obtain ⟨i,y,d,jo,hi,hy,df⟩:=crowd_pick (P:=P) (w:=bF) (sl:=sl) haw ⟨0,x,h0,hx.status⟩
   have hR':=H.t0.trans _ _ _ _ hR (H.at0 _ bF d)
   obtain ⟨B,hT⟩:=hT
   have hT':=hT
   have hAp':Apt iN S T (bF.at d):=hAp.same rfl
   rcases Nat.eq_zero_or_pos i with rfl | fE
   ·obtain rfl:y=x:=by rw [h0] at hi;exact (Option.some.inj hi).symm
    obtain ⟨a1,a2⟩:=h1 _ hR'
    have hgo:=(hx.step (P:=P) true (bF.at d)).trans a1
    obtain ⟨b1,b2,b3,b4⟩:=H.d0 _ _ _ _ _ hAp' a2
    have dQ:=runT_crowd_go (P:=P) (w:=bF.at d) (sl:=jo) (i:=0) hi (show stepG P (0==0) y (bF.at d)=_ from hgo)
    have cz:0<gs.size:=(Array.getElem?_eq_some_iff.1 h0).1
    have hmn:=H.mono _ _ (grow_sub S (bF.at d) (f (bF.at d)).2.1)
    obtain ⟨B',_,rZ⟩:=(hT'.mono (Nat.le_refl B) hmn.1 (fun _ x=>x)).evs0 oL (H.apart _ _ _ (hAp'.grow0 b4)) (fn:=y.frame.fn) (pos:=y.frame.place) b3
    refine eN.step (df.trans dQ) (ih _ hR' _ T _ _ _ jo _ q buf s r (Nat.le_refl _) (hAp'.grow0 b4) (H.refl0 _ _) (kZ.self (h2 _ hR').running) (by simp [cz]) (by simpa using hk) ?_ ⟨B',rZ⟩ ?_ (b2.trans hc) hl)
    ·refine hL.turn (by simp) (fun j v hj _ hv=>?_) (fun op aN=>by obtain ⟨e,_,rfl⟩:=Go.Conc.mem_ofEvents aN;exact ⟨.inl rfl,cz⟩)
     rw [Array.getElem?_setIfInBounds_ne (by omega),Array.getElem?_map] at hv
     obtain ⟨z',hz,rfl⟩:=Option.map_eq_some_iff.1 hv
     rw [woken_quitsD (hL.old j z' hj (fun x=>x) hz)]
     exact hz
    ·exact hS.app fun op aN e=>by obtain ⟨e',_,rfl⟩:=Go.Conc.mem_ofEvents aN;exact absurd e.symm oL
   ·obtain ⟨mN,u,q',e1,e2,e3,e4,e5,e6⟩:=slip (w:=bF.at d) (sl:=jo) hL hi hy fE (fun x=>x)
    obtain ⟨B',_,rZ⟩:=hT'.still (fun op aN=>(e5 op aN).2.1) (fun op aN=>⟨.inl (by rw [(e5 op aN).1];omega),.inr (.inr (fun x=>x))⟩)
    exact eN.step (df.trans e1) (ihM _ (Nat.lt_of_lt_of_le e3 hM) T mN x _ jo _ q' buf s r (by rw [e2];exact Nat.le_refl _) hAp' hR' hx (e6 0 x (.inl rfl) h0 fun a a'=>woken_running hx.status) (by rw [e2];exact hk) e4 ⟨B',rZ⟩ (hS.app fun op aN _=>(e5 op aN).2.1) hc hl)
 | @recv v L S g w hs h1 h2 ih =>
  intro M
  induction M using Nat.strongRecOn with
  | _ M ihM =>
   intro T gs x bF sl t q buf s r hM hAp hR hx h0 hk hL hT hS hc hl
   have haw:∀ y∈gs,awake y:=by
    intro y hy
    obtain ⟨i,hi,rfl⟩:=Array.mem_iff_getElem.1 hy
    rcases Nat.eq_zero_or_pos i with rfl | fE
    ·have:gs[0]=x:=by simpa [Array.getElem?_eq_getElem hi] using h0
     rw [this];exact awake_of (.inl hx.status)
    ·exact awake_of ((hL.old i _ fE (fun x=>x) (Array.getElem?_eq_getElem hi)).status.elim .inl fun x=>.inr (.inr x))
   obtain ⟨i,y,d,jo,hi,hy,df⟩:=crowd_pick (P:=P) (w:=bF) (sl:=sl) haw ⟨0,x,h0,hx.status⟩
   have hR':=H.t0.trans _ _ _ _ hR (H.at0 _ bF d)
   obtain ⟨B,hT⟩:=hT
   have hT':=hT
   have hAp':Apt iN S T (bF.at d):=hAp.same rfl
   rcases Nat.eq_zero_or_pos i with rfl | fE
   ·obtain rfl:y=x:=by rw [h0] at hi;exact (Option.some.inj hi).symm
    obtain ⟨es,a1,a2⟩:=h1 _ hR'
    have sa:=(hx.step (P:=P) true (bF.at d)).trans a1
    obtain ⟨oK,hhd,htl⟩:=take_head hl
    have cz:0<gs.size:=(Array.getElem?_eq_some_iff.1 h0).1
    have dQ:=crowd_recv_buf (P:=P) (gs:=gs) (w:=bF.at d) (sl:=jo) (i:=0) hi (show stepG P (0==0) y (bF.at d)=_ from sa) (show (bF.at d).heap[c]? = _ from hc) oK
     (iH fun j g' hj oq=>by have:=(hL.old j g' (by omega) (fun x=>x) oq).status;rcases this with e | e<;>rw [e]<;>simp)
    rw [finishComm_recv,hhd] at dQ
    have tQ:=H.put0 S (bF.at d) n (buf.extract 1 buf.size) true s (r+1) false
    obtain ⟨B',_,rZ⟩:=hT'.evs0 oL (H.apart _ _ _ hAp') (fn:=y.frame.fn) (pos:=y.frame.place) a2
    obtain ⟨B'',_,hT3⟩:=rZ.still (u:=#[{ g:=0,fn:=g.frame.fn,pos:=g.frame.place,act:=.recv c r n },{ g:=0,fn:=g.frame.fn,pos:=g.frame.place,act:=.recvDone c r }]) (fun op aN=>by simp at aN;rcases aN with rfl | rfl<;>rfl) (fun op aN=>by simp at aN;rcases aN with rfl | rfl<;>simp)
    have hR3:=H.t0.trans _ _ _ _ hR' tQ
    refine eN.step (df.trans dQ) (ih _ hR3 _ T _ _ _ jo _ q (buf.extract 1 buf.size) s (r+1) (Nat.le_refl _) (hAp'.same (fV _ _ _ _ _ _ _ _)) (H.refl0 _ _) (kZ.self rfl) (by simp [cz]) (by simpa using hk) ?_ ⟨B'',by rw [<- Array.append_assoc];exact hT3⟩ ?_ (gN hc) htl.symm)
    ·refine hL.turn (by simp) (fun j v hj _ hv=>?_) (fun op aN=>?_)
     ·rw [Array.getElem?_setIfInBounds_ne (by omega)] at hv;exact hv
     ·rcases Array.mem_append.1 aN with aN | aN
      ·obtain ⟨e,_,rfl⟩:=Go.Conc.mem_ofEvents aN;exact ⟨.inl rfl,cz⟩
      ·simp at aN;rcases aN with rfl | rfl<;>exact ⟨.inl rfl,cz⟩
    ·refine hS.app fun op aN e=>?_
     rcases Array.mem_append.1 aN with aN | aN
     ·obtain ⟨e',_,rfl⟩:=Go.Conc.mem_ofEvents aN;exact absurd e.symm oL
     ·simp at aN;rcases aN with rfl | rfl<;>rfl
   ·obtain ⟨mN,u,q',e1,e2,e3,e4,e5,e6⟩:=slip (w:=bF.at d) (sl:=jo) hL hi hy fE (fun x=>x)
    obtain ⟨B',_,rZ⟩:=hT'.still (fun op aN=>(e5 op aN).2.1) (fun op aN=>⟨.inl (by rw [(e5 op aN).1];omega),.inr (.inr (fun x=>x))⟩)
    exact eN.step (df.trans e1) (ihM _ (Nat.lt_of_lt_of_le e3 hM) T mN x _ jo _ q' buf s r (by rw [e2];exact Nat.le_refl _) hAp' hR' hx (e6 0 x (.inl rfl) h0 fun a a'=>woken_running hx.status) (by rw [e2];exact hk) e4 ⟨B',rZ⟩ (hS.app fun op aN _=>(e5 op aN).2.1) hc hl)
 | @fin S g w hs h1 h2 =>
  intro M
  induction M using Nat.strongRecOn with
  | _ M ihM =>
   intro T gs x bF sl t q buf s r hM hAp hR hx h0 hk hL hT hS hc hl
   have haw:∀ y∈gs,awake y:=by
    intro y hy
    obtain ⟨i,hi,rfl⟩:=Array.mem_iff_getElem.1 hy
    rcases Nat.eq_zero_or_pos i with rfl | fE
    ·have:gs[0]=x:=by simpa [Array.getElem?_eq_getElem hi] using h0
     rw [this];exact awake_of (.inl hx.status)
    ·exact awake_of ((hL.old i _ fE (fun x=>x) (Array.getElem?_eq_getElem hi)).status.elim .inl fun x=>.inr (.inr x))
   obtain ⟨i,y,d,jo,hi,hy,df⟩:=crowd_pick (P:=P) (w:=bF) (sl:=sl) haw ⟨0,x,h0,hx.status⟩
   have hR':=H.t0.trans _ _ _ _ hR (H.at0 _ bF d)
   obtain ⟨B,hT⟩:=hT
   have hT':=hT
   have hAp':Apt iN S T (bF.at d):=hAp.same rfl
   rcases Nat.eq_zero_or_pos i with rfl | fE
   ·obtain rfl:y=x:=by rw [h0] at hi;exact (Option.some.inj hi).symm
    obtain ⟨es,a1,a2⟩:=h1 _ hR'
    have sa:=(hx.step (P:=P) true (bF.at d)).trans a1
    obtain rfl:buf=#[]:=by
     have:buf.toList=[]:=hl.symm
     simpa using this
    have cz:0<gs.size:=(Array.getElem?_eq_some_iff.1 h0).1
    have dQ:=crowd_recv_closed (P:=P) (gs:=gs) (w:=bF.at d) (sl:=jo) (i:=0) hi (show stepG P (0==0) y (bF.at d)=_ from sa) (show (bF.at d).heap[c]? = _ from hc)
     (iH fun j g' hj oq=>by have:=(hL.old j g' (by omega) (fun x=>x) oq).status;rcases this with e | e<;>rw [e]<;>simp)
    rw [finishComm_recv] at dQ
    obtain ⟨B',hb',rZ⟩:=hT'.evs0 oL (H.apart _ _ _ hAp') (fn:=y.frame.fn) (pos:=y.frame.place) a2
    have hS2:Shut κ c (t++MemOp.ofEvents 0 y.frame.fn y.frame.place es):=hS.app fun op aN e=>by obtain ⟨e',_,rfl⟩:=Go.Conc.mem_ofEvents aN;exact absurd e.symm oL
    have hP:=(rZ.mono (Nat.le_max_left B' (c+1)) (fun _ x=>x) (fun _ x=>x)).join oL hS2 (y:={ g:=0,fn:=g.frame.fn,pos:=g.frame.place,act:=.recvClosed c }) ⟨rfl,rfl⟩ (Nat.lt_of_lt_of_le (Nat.lt_succ_self c) (Nat.le_max_right _ _))
    refine eN.step (df.trans dQ) ⟨0,_,_,_,jo,_,rfl,⟨by simp [cz],⟨q,?_⟩,⟨_,by rw [<- Array.append_assoc];exact hP⟩⟩,h2 _ hR'⟩
    refine (hL.turn (by simp) (fun j v hj _ hv=>?_) (fun op aN=>?_)).all
    ·rw [Array.getElem?_setIfInBounds_ne (by omega)] at hv;exact hv
    ·rcases Array.mem_append.1 aN with aN | aN
     ·obtain ⟨e,_,rfl⟩:=Go.Conc.mem_ofEvents aN;exact ⟨.inl rfl,cz⟩
     ·simp at aN;rcases aN with rfl;exact ⟨.inl rfl,cz⟩
   ·obtain ⟨mN,u,q',e1,e2,e3,e4,e5,e6⟩:=slip (w:=bF.at d) (sl:=jo) hL hi hy fE (fun x=>x)
    obtain ⟨B',_,rZ⟩:=hT'.still (fun op aN=>(e5 op aN).2.1) (fun op aN=>⟨.inl (by rw [(e5 op aN).1];omega),.inr (.inr (fun x=>x))⟩)
    exact eN.step (df.trans e1) (ihM _ (Nat.lt_of_lt_of_le e3 hM) T mN x _ jo _ q' buf s r (by rw [e2];exact Nat.le_refl _) hAp' hR' hx (e6 0 x (.inl rfl) h0 fun a a'=>woken_running hx.status) (by rw [e2];exact hk) e4 ⟨B',rZ⟩ (hS.app fun op aN _=>(e5 op aN).2.1) hc hl)
end
end Lf
namespace Lf
open Go Go.Conc
open Go.ConcN (sumTo upd sumTo_upd upd_ne upd_same)
variable {P : Program}
section
variable {c : Nat} {z : Value} {iN : Nat} {R0 : (Nat → Prop) → World → World → Prop} {D0 : (Nat → Prop) → World → World → Array Event → Prop} {RB : (Nat → Prop) → World → World → Prop} {DB : (Nat → Prop) → World → World → Array Event → Prop} {CA CB : (Nat → Prop) → Touch → Prop} {n κ : Nat} {K : Goroutine → World → Prop}
structure St (P:Program) (c iN:Nat) (z:Value) (R0 RB:(Nat->Prop)->World->World->Prop) (CA CB:(Nat->Prop)->Touch->Prop) (n κ:Nat) (LB:List Value) (T:Nat->Prop) (b:Goroutine) (wb:World) (LA:List Value) (S:Nat->Prop) (g:Goroutine) (wa:World) (gs:Array Goroutine) (x:Goroutine) (w:World) (t:Trace) (q:Nat->Nat) (buf:Array Value) (s r:Nat):Prop where
 r0:R0 S wa w
 rB:RB T wb w
 apt:Apt iN S T w
 zero:gs[0]? = some x
 child:gs[κ]? = some b
 sit:kZ x g\/(x=parked g #[rcase c z] (.recv true)/\AtR P c z R0 CA S g wa/\buf=#[])
 leave:ot P (fun j=>j=κ) t gs q
 trace:∃ B,TI True κ B (CA S) (CB T) t
 chan:w.heap[c]? = some (.chan n buf false s r false)
 list:LA=buf.toList++LB
 room:buf.size+LB.length<=n
section
variable {LB LA : List Value} {S T : Nat → Prop} {b g x : Goroutine} {wb wa w : World} {gs : Array Goroutine} {t : Trace} {q : Nat → Nat} {buf : Array Value} {s r : Nat}
theorem St.at (H:Pair c iN R0 D0 RB DB CA CB) (h:St P c iN z R0 RB CA CB n κ LB T b wb LA S g wa gs x w t q buf s r) (d:Nat):St P c iN z R0 RB CA CB n κ LB T b wb LA S g wa gs x (w.at d) t q buf s r:=by
 exact ⟨H.t0.trans _ _ _ _ h.r0 (H.at0 _ w d),H.tB.trans _ _ _ _ h.rB (H.atB _ w d),h.apt.same rfl,h.zero,h.child,h.sit,h.leave,h.trace,h.chan,h.list,h.room⟩
theorem St.stays (h:St P c iN z R0 RB CA CB n κ LB T b wb LA S g wa gs x w t q buf s r) (a a':Goroutine):woken P a a' w x=x:=by
 rcases h.sit with h1 | ⟨rfl,_,_⟩
 ·exact woken_running h1.status
 ·exact woken_recv_open a a' h.chan
theorem St.awake (h:St P c iN z R0 RB CA CB n κ LB T b wb LA S g wa gs x w t q buf s r) (hb:b.status=.running):∀ y∈gs,awake y:=by
 intro y hy
 obtain ⟨i,hi,rfl⟩:=Array.mem_iff_getElem.1 hy
 rcases Nat.eq_zero_or_pos i with rfl | fE
 ·have:gs[0]=x:=by simpa [Array.getElem?_eq_getElem hi] using h.zero
  rw [this]
  rcases h.sit with h1 | ⟨h1,_,_⟩
  ·exact awake_of (.inl h1.status)
  ·exact awake_of (.inr (.inl (by rw [h1];rfl)))
 ·by_cases hk:i=κ
  ·subst hk
   have:gs[i]=b:=by simpa [Array.getElem?_eq_getElem hi] using h.child
   rw [this];exact awake_of (.inl hb)
  ·exact awake_of ((h.leave.old i _ fE hk (Array.getElem?_eq_getElem hi)).status.elim .inl fun x=>.inr (.inr x))
theorem St.slip (hb:b.status=.running) (h:St P c iN z R0 RB CA CB n κ LB T b wb LA S g wa gs x w t q buf s r) {i:Nat} {y:Goroutine} {sl:Option (Nat×Nat)} (hi:gs[i]? = some y) (hy:y.status=.running) (fE:0<i) (hk:i≠κ) :
  ∃ mN u q',runT P (crowd gs w sl) i=(.next (crowd mN w sl),u)/\mN.size=gs.size/\sumTo gs.size q'<sumTo gs.size q/\St P c iN z R0 RB CA CB n κ LB T b wb LA S g wa mN x w (t++u) q' buf s r:=by
 obtain ⟨mN,u,q',e1,e2,e3,e4,e5,e6⟩:=Go.Proofs.YtpbbmagjhkakgaaGreatDoor.Lf.slip (w:=w) (sl:=sl) h.leave hi hy fE hk
 obtain ⟨B,hT⟩:=h.trace
 obtain ⟨B',_,rZ⟩:=hT.still (fun op aN=>(e5 op aN).2.1) (fun op aN=>⟨.inl (by rw [(e5 op aN).1];omega),.inl (by rw [(e5 op aN).1];exact hk)⟩)
 exact ⟨mN,u,q',e1,e2,e3,h.r0,h.rB,h.apt,e6 0 x (.inl rfl) h.zero h.stays,e6 κ b (.inr rfl) h.child (fun a a'=>woken_running hb),h.sit,e4,⟨B',rZ⟩,h.chan,h.list,h.room⟩
end
theorem tX (H:Pair c iN R0 D0 RB DB CA CB) (oL:κ≠0) {LB:List Value} {T:Nat->Prop} {b:Goroutine} {wb:World} (hb:b.status=.running)
  (mv:∀ {LA:List Value} {S:Nat->Prop} {g:Goroutine} {wa:World},SA P c z R0 D0 CA K LA S g wa->∀ gs x w sl t q buf s r,St P c iN z R0 RB CA CB n κ LB T b wb LA S g wa gs x w t q buf s r->∃ m' u,runT P (crowd gs w sl) κ=(.next m',u)/\eN P K m' (t++u))
  {LA:List Value} {S:Nat->Prop} {g:Goroutine} {wa:World} (hA:SA P c z R0 D0 CA K LA S g wa) :
  ∀ (M:Nat) (gs:Array Goroutine) (x:Goroutine) (w:World) (sl:Option (Nat×Nat)) (t:Trace) (q:Nat->Nat) (buf:Array Value) (s r:Nat),sumTo gs.size q<=M->St P c iN z R0 RB CA CB n κ LB T b wb LA S g wa gs x w t q buf s r->eN P K (crowd gs w sl) t:=by
 have u6:∀ {LA:List Value} {S:Nat->Prop} {g:Goroutine} {wa:World},SA P c z R0 D0 CA K LA S g wa->∀ (M:Nat) (gs:Array Goroutine) (x:Goroutine) (w:World) (sl:Option (Nat×Nat)) (t:Trace) (q:Nat->Nat) (buf:Array Value) (s r:Nat),sumTo gs.size q<=M->x.status=.blocked->
   St P c iN z R0 RB CA CB n κ LB T b wb LA S g wa gs x w t q buf s r->eN P K (crowd gs w sl) t:=by
  intro LA S g wa hA M
  induction M using Nat.strongRecOn with
  | _ M ihM =>
   intro gs x w sl t q buf s r hM hx hS
   obtain ⟨i,y,d,jo,hi,hy,df⟩:=crowd_pick (P:=P) (w:=w) (sl:=sl) (hS.awake hb) ⟨κ,b,hS.child,hb⟩
   have ko:=hS.at H d
   rcases Nat.eq_zero_or_pos i with rfl | fE
   ·rw [hS.zero] at hi
    obtain rfl:=Option.some.inj hi
    rw [hx] at hy;cases hy
   ·by_cases hk:i=κ
    ·subst hk
     obtain ⟨m',u,e1,e2⟩:=mv hA gs x (w.at d) jo t q buf s r ko
     exact eN.step (df.trans e1) e2
    ·obtain ⟨mN,u,q',e1,e2,e3,e4⟩:=ko.slip hb (sl:=jo) hi hy fE hk
     exact eN.step (df.trans e1) (ihM _ (Nat.lt_of_lt_of_le e3 hM) mN x _ jo _ q' buf s r (by rw [e2];exact Nat.le_refl _) hx e4)
 induction hA with
 | @own LA S g wa f hs h1 h2 ih =>
  intro M
  induction M using Nat.strongRecOn with
  | _ M ihM =>
   intro gs x w sl t q buf s r hM hS
   rcases hS.sit with hx | ⟨hx,_,_⟩
   case inr=>exact u6 (.own f hs h1 h2) M gs x w sl t q buf s r hM (by rw [hx];rfl) hS
   obtain ⟨i,y,d,jo,hi,hy,df⟩:=crowd_pick (P:=P) (w:=w) (sl:=sl) (hS.awake hb) ⟨κ,b,hS.child,hb⟩
   have ko:=hS.at H d
   rcases Nat.eq_zero_or_pos i with rfl | fE
   ·obtain rfl:y=x:=by rw [hS.zero] at hi;exact (Option.some.inj hi).symm
    obtain ⟨a1,a2⟩:=h1 _ ko.r0
    have hgo:=(hx.step (P:=P) true (w.at d)).trans a1
    obtain ⟨b1,b2,b3,b4⟩:=H.d0 _ _ _ _ _ ko.apt a2
    have dQ:=runT_crowd_go (P:=P) (w:=w.at d) (sl:=jo) (i:=0) hi (show stepG P (0==0) y (w.at d)=_ from hgo)
    have cz:0<gs.size:=(Array.getElem?_eq_some_iff.1 hi).1
    have hmn:=H.mono _ _ (grow_sub S (w.at d) (f (w.at d)).2.1)
    obtain ⟨B,hT⟩:=ko.trace
    obtain ⟨B',_,rZ⟩:=(hT.mono (Nat.le_refl B) hmn.1 (fun _ x=>x)).evs0 oL (H.apart _ _ _ (ko.apt.grow0 b4)) (fn:=y.frame.fn) (pos:=y.frame.place) b3
    refine eN.step (df.trans dQ) (ih _ ko.r0 _ _ _ _ jo _ q buf s r (Nat.le_refl _) ⟨H.refl0 _ _,H.tB.trans _ _ _ _ ko.rB b1,ko.apt.grow0 b4,by simp [cz],?_,.inl (.self (h2 _ ko.r0).running),?_,⟨B',rZ⟩,b2.trans ko.chan,hS.list,hS.room⟩)
    ·rw [Array.getElem?_setIfInBounds_ne (Ne.symm oL),Array.getElem?_map,hS.child]
     simp [woken_running hb]
    ·refine hS.leave.turn (by simp) (fun j v hj n9 hv=>?_) (fun op aN=>by obtain ⟨e,_,rfl⟩:=Go.Conc.mem_ofEvents aN;exact ⟨.inl rfl,cz⟩)
     rw [Array.getElem?_setIfInBounds_ne (by omega),Array.getElem?_map] at hv
     obtain ⟨z',hz,rfl⟩:=Option.map_eq_some_iff.1 hv
     rw [woken_quitsD (hS.leave.old j z' hj n9 hz)]
     exact hz
   ·by_cases hk:i=κ
    ·subst hk
     obtain ⟨m',u,e1,e2⟩:=mv (.own f hs h1 h2) gs x (w.at d) jo t q buf s r ko
     exact eN.step (df.trans e1) e2
    ·obtain ⟨mN,u,q',e1,e2,e3,e4⟩:=ko.slip hb (sl:=jo) hi hy fE hk
     exact eN.step (df.trans e1) (ihM _ (Nat.lt_of_lt_of_le e3 hM) mN x _ jo _ q' buf s r (by rw [e2];exact Nat.le_refl _) e4)
 | @recv v LA S g wa hs h1 h2 ih =>
  intro M
  induction M using Nat.strongRecOn with
  | _ M ihM =>
   intro gs x w sl t q buf s r hM hS
   rcases hS.sit with hx | ⟨hx,_,_⟩
   case inr=>exact u6 (.recv hs h1 h2) M gs x w sl t q buf s r hM (by rw [hx];rfl) hS
   obtain ⟨i,y,d,jo,hi,hy,df⟩:=crowd_pick (P:=P) (w:=w) (sl:=sl) (hS.awake hb) ⟨κ,b,hS.child,hb⟩
   have ko:=hS.at H d
   rcases Nat.eq_zero_or_pos i with rfl | fE
   ·obtain rfl:y=x:=by rw [hS.zero] at hi;exact (Option.some.inj hi).symm
    obtain ⟨es,a1,a2⟩:=h1 _ ko.r0
    have sa:=(hx.step (P:=P) true (w.at d)).trans a1
    have cz:0<gs.size:=(Array.getElem?_eq_some_iff.1 hi).1
    obtain ⟨B,hT⟩:=ko.trace
    obtain ⟨B',_,rZ⟩:=hT.evs0 oL (H.apart _ _ _ ko.apt) (fn:=y.frame.fn) (pos:=y.frame.place) a2
    have hnb:∀ (j:Nat) (g':Goroutine),j≠0->gs[j]? = some g'->g'.status≠.blocked:=fun j g' hj oq=>by
     by_cases hk:j=κ
     ·subst hk;rw [hS.child] at oq;obtain rfl:=Option.some.inj oq;rw [hb];simp
     ·rcases (hS.leave.old j g' (by omega) hk oq).status with e | e<;>rw [e]<;>simp
    by_cases oK:buf=#[]
    ·
     subst oK
     have dQ:=crowd_waits (P:=P) (gs:=gs) (w:=w.at d) (sl:=jo) (i:=0) hi (show stepG P (0==0) y (w.at d)=_ from sa) (fun cc hcc=>by
      simp at hcc;subst hcc
      exact ways_recv_none ko.chan (iH hnb))
     refine eN.step (df.trans dQ) (u6 (.recv hs h1 h2) _ _ (parked g #[rcase c z] (.recv true)) _ jo _ q #[] s r (Nat.le_refl _) rfl ⟨ko.r0,ko.rB,ko.apt,by simp [cz],?_,.inr ⟨rfl,h1,rfl⟩,?_,⟨B',rZ⟩,ko.chan,hS.list,hS.room⟩)
     ·rw [Array.getElem?_setIfInBounds_ne (Ne.symm oL)];exact hS.child
     ·refine hS.leave.turn (by simp) (fun j v hj n9 hv=>?_) (fun op aN=>by obtain ⟨e,_,rfl⟩:=Go.Conc.mem_ofEvents aN;exact ⟨.inl rfl,cz⟩)
      rw [Array.getElem?_setIfInBounds_ne (by omega)] at hv;exact hv
    ·
     obtain ⟨l0,hl0⟩:∃ l0,buf.toList=v::l0:=by
      have:=hS.list
      cases hbl:buf.toList with
      | nil=>exact absurd (by simpa using hbl) oK
      | cons a l=>rw [hbl] at this;simp at this;exact ⟨l,by rw [this.1]⟩
     obtain ⟨hsz',hhd,htl⟩:=take_head hl0.symm
     have dQ:=crowd_recv_buf (P:=P) (gs:=gs) (w:=w.at d) (sl:=jo) (i:=0) hi (show stepG P (0==0) y (w.at d)=_ from sa) ko.chan hsz' (iH hnb)
     rw [finishComm_recv,hhd] at dQ
     have tQ:=H.put0 S (w.at d) n (buf.extract 1 buf.size) false s (r+1) false
     have hputB:=H.putB T (w.at d) n (buf.extract 1 buf.size) false s (r+1) false
     obtain ⟨B'',_,hT3⟩:=rZ.still (u:=#[{ g:=0,fn:=g.frame.fn,pos:=g.frame.place,act:=.recv c r n },{ g:=0,fn:=g.frame.fn,pos:=g.frame.place,act:=.recvDone c r }]) (fun op aN=>by simp at aN;rcases aN with rfl | rfl<;>rfl) (fun op aN=>by simp at aN;rcases aN with rfl | rfl<;>simp)
     refine eN.step (df.trans dQ) (ih _ (H.t0.trans _ _ _ _ ko.r0 tQ) _ _ _ _ jo _ q (buf.extract 1 buf.size) s (r+1) (Nat.le_refl _) ⟨H.refl0 _ _,H.tB.trans _ _ _ _ ko.rB hputB,ko.apt.same (fV _ _ _ _ _ _ _ _),by simp [cz],?_,.inl (.self rfl),?_,⟨B'',by rw [<- Array.append_assoc];exact hT3⟩,gN ko.chan,?_,?_⟩)
     ·rw [Array.getElem?_setIfInBounds_ne (Ne.symm oL)];exact hS.child
     ·refine hS.leave.turn (by simp) (fun j v hj n9 hv=>?_) (fun op aN=>?_)
      ·rw [Array.getElem?_setIfInBounds_ne (by omega)] at hv;exact hv
      ·rcases Array.mem_append.1 aN with aN | aN
       ·obtain ⟨e,_,rfl⟩:=Go.Conc.mem_ofEvents aN;exact ⟨.inl rfl,cz⟩
       ·simp at aN;rcases aN with rfl | rfl<;>exact ⟨.inl rfl,cz⟩
     ·have:=hS.list
      rw [hl0] at this
      simp at this
      rw [htl];exact this
     ·have:=hS.room
      simp
      omega
   ·by_cases hk:i=κ
    ·subst hk
     obtain ⟨m',u,e1,e2⟩:=mv (.recv hs h1 h2) gs x (w.at d) jo t q buf s r ko
     exact eN.step (df.trans e1) e2
    ·obtain ⟨mN,u,q',e1,e2,e3,e4⟩:=ko.slip hb (sl:=jo) hi hy fE hk
     exact eN.step (df.trans e1) (ihM _ (Nat.lt_of_lt_of_le e3 hM) mN x _ jo _ q' buf s r (by rw [e2];exact Nat.le_refl _) e4)
 | @fin S g wa hs h1 h2 =>
  intro M
  induction M using Nat.strongRecOn with
  | _ M ihM =>
   intro gs x w sl t q buf s r hM hS
   rcases hS.sit with hx | ⟨hx,_,_⟩
   case inr=>exact u6 (.fin hs h1 h2) M gs x w sl t q buf s r hM (by rw [hx];rfl) hS
   obtain ⟨i,y,d,jo,hi,hy,df⟩:=crowd_pick (P:=P) (w:=w) (sl:=sl) (hS.awake hb) ⟨κ,b,hS.child,hb⟩
   have ko:=hS.at H d
   rcases Nat.eq_zero_or_pos i with rfl | fE
   ·obtain rfl:y=x:=by rw [hS.zero] at hi;exact (Option.some.inj hi).symm
    obtain ⟨es,a1,a2⟩:=h1 _ ko.r0
    have sa:=(hx.step (P:=P) true (w.at d)).trans a1
    have cz:0<gs.size:=(Array.getElem?_eq_some_iff.1 hi).1
    obtain ⟨B,hT⟩:=ko.trace
    obtain ⟨B',_,rZ⟩:=hT.evs0 oL (H.apart _ _ _ ko.apt) (fn:=y.frame.fn) (pos:=y.frame.place) a2
    have hnb:∀ (j:Nat) (g':Goroutine),j≠0->gs[j]? = some g'->g'.status≠.blocked:=fun j g' hj oq=>by
     by_cases hk:j=κ
     ·subst hk;rw [hS.child] at oq;obtain rfl:=Option.some.inj oq;rw [hb];simp
     ·rcases (hS.leave.old j g' (by omega) hk oq).status with e | e<;>rw [e]<;>simp
    obtain rfl:buf=#[]:=by
     have:=hS.list
     simp at this
     exact this.1
    have dQ:=crowd_waits (P:=P) (gs:=gs) (w:=w.at d) (sl:=jo) (i:=0) hi (show stepG P (0==0) y (w.at d)=_ from sa) (fun cc hcc=>by
     simp at hcc;subst hcc
     exact ways_recv_none ko.chan (iH hnb))
    refine eN.step (df.trans dQ) (u6 (.fin hs h1 h2) _ _ (parked g #[rcase c z] (.recv true)) _ jo _ q #[] s r (Nat.le_refl _) rfl ⟨ko.r0,ko.rB,ko.apt,by simp [cz],?_,.inr ⟨rfl,h1,rfl⟩,?_,⟨B',rZ⟩,ko.chan,hS.list,hS.room⟩)
    ·rw [Array.getElem?_setIfInBounds_ne (Ne.symm oL)];exact hS.child
    ·refine hS.leave.turn (by simp) (fun j v hj n9 hv=>?_) (fun op aN=>by obtain ⟨e,_,rfl⟩:=Go.Conc.mem_ofEvents aN;exact ⟨.inl rfl,cz⟩)
     rw [Array.getElem?_setIfInBounds_ne (by omega)] at hv;exact hv
   ·by_cases hk:i=κ
    ·subst hk
     obtain ⟨m',u,e1,e2⟩:=mv (.fin hs h1 h2) gs x (w.at d) jo t q buf s r ko
     exact eN.step (df.trans e1) e2
    ·obtain ⟨mN,u,q',e1,e2,e3,e4⟩:=ko.slip hb (sl:=jo) hi hy fE hk
     exact eN.step (df.trans e1) (ihM _ (Nat.lt_of_lt_of_le e3 hM) mN x _ jo _ q' buf s r (by rw [e2];exact Nat.le_refl _) e4)
end
end Lf
namespace Lf
open Go Go.Conc
open Go.ConcN (sumTo upd sumTo_upd upd_ne upd_same)
variable {P : Program}
section
variable {c : Nat} {z : Value} {iN : Nat} {R0 : (Nat → Prop) → World → World → Prop} {D0 : (Nat → Prop) → World → World → Array Event → Prop} {RB : (Nat → Prop) → World → World → Prop} {DB : (Nat → Prop) → World → World → Array Event → Prop} {CA CB : (Nat → Prop) → Touch → Prop} {n κ : Nat} {K : Goroutine → World → Prop}
theorem phase (H:Pair c iN R0 D0 RB DB CA CB) (oL:κ≠0) {LB:List Value} {T:Nat->Prop} {b:Goroutine} {wb:World} (hB:SB P c RB DB CB n LB T b wb) :
  ∀ {LA:List Value} {S:Nat->Prop} {g:Goroutine} {wa:World},SA P c z R0 D0 CA K LA S g wa->∀ (gs:Array Goroutine) (x:Goroutine) (w:World) (sl:Option (Nat×Nat)) (t:Trace) (q:Nat->Nat) (buf:Array Value) (s r:Nat),St P c iN z R0 RB CA CB n κ LB T b wb LA S g wa gs x w t q buf s r->eN P K (crowd gs w sl) t:=by
 have hk0:(κ==0)=false:=by simp [oL]
 induction hB with
 | @own LB T b wb f hs h1 h2 ih =>
  intro LA S g wa hA gs x w sl t q buf s r hS
  refine tX H oL hs (fun {LA S g wa} hA gs x w sl t q buf s r hS=>?_) hA _ gs x w sl t q buf s r (Nat.le_refl _) hS
  obtain ⟨a1,a2⟩:=h1 _ hS.rB
  obtain ⟨b1,b2,b3,b4⟩:=H.dB _ _ _ _ _ hS.apt a2
  have dQ:=runT_crowd_go (P:=P) (w:=w) (sl:=sl) (i:=κ) hS.child (by rw [hk0];exact a1)
  have cz:κ<gs.size:=(Array.getElem?_eq_some_iff.1 hS.child).1
  have hmn:=H.mono _ _ (grow_sub T w (f w).2.1)
  obtain ⟨B,hT⟩:=hS.trace
  obtain ⟨B',_,rZ⟩:=(hT.mono (Nat.le_refl B) (fun _ x=>x) hmn.2).evsC oL (H.apart _ _ _ (hS.apt.growC b4)) (fn:=b.frame.fn) (pos:=b.frame.place) b3
  refine ⟨_,_,dQ,ih _ hS.rB hA _ x _ sl _ q buf s r ⟨H.t0.trans _ _ _ _ hS.r0 b1,H.reflB _ _,hS.apt.growC b4,?_,by simp [cz],hS.sit,?_,⟨B',rZ⟩,b2.trans hS.chan,hS.list,hS.room⟩⟩
  ·rw [Array.getElem?_setIfInBounds_ne oL,Array.getElem?_map,hS.zero]
   rcases hS.sit with h3 | ⟨rfl,_,_⟩
   ·simp [woken_running h3.status]
   ·simp [woken_recv_open b (f w).1 (b2.trans hS.chan)]
  ·refine hS.leave.turn (by simp) (fun j v hj n9 hv=>?_) (fun op aN=>by obtain ⟨e,_,rfl⟩:=Go.Conc.mem_ofEvents aN;exact ⟨.inr rfl,cz⟩)
   rw [Array.getElem?_setIfInBounds_ne (Ne.symm n9),Array.getElem?_map] at hv
   obtain ⟨z',hz,rfl⟩:=Option.map_eq_some_iff.1 hv
   rw [woken_quitsD (hS.leave.old j z' hj n9 hz)]
   exact hz
 | @send v y LB T b wb hs h1 h2 ih =>
  intro LA S g wa hA gs x w sl t q buf s r hS
  refine tX H oL hs (fun {LA S g wa} hA gs x w sl t q buf s r hS=>?_) hA _ gs x w sl t q buf s r (Nat.le_refl _) hS
  obtain ⟨es,a1,a2⟩:=h1 _ hS.rB
  have sa:stepG P (κ==0) b w=.comm b #[scase c v y] true .send w es:=by rw [hk0];exact a1
  have cz:κ<gs.size:=(Array.getElem?_eq_some_iff.1 hS.child).1
  have hlt0:0<gs.size:=(Array.getElem?_eq_some_iff.1 hS.zero).1
  obtain ⟨B,hT⟩:=hS.trace
  obtain ⟨B',_,rZ⟩:=hT.evsC oL (H.apart _ _ _ hS.apt) (fn:=b.frame.fn) (pos:=b.frame.place) a2
  have hout:∀ j v,0<j->j≠κ->gs[j]? = some v->v.status≠.blocked:=fun j v hj n9 hv=>by rcases (hS.leave.old j v hj n9 hv).status with e | e<;>rw [e]<;>simp
  rcases hS.sit with hx | ⟨rfl,hat,rfl⟩
  ·
   have oI:buf.size<n:=by have:=hS.room;simp at this;omega
   have dQ:=crowd_send_room (P:=P) (gs:=gs) (w:=w) (sl:=sl) (i:=κ) hS.child sa hS.chan oI (iH fun j g' hj oq=>by
    rcases Nat.eq_zero_or_pos j with rfl | fE
    ·rw [hS.zero] at oq;obtain rfl:=Option.some.inj oq;rw [hx.status];simp
    ·exact hout j g' fE hj oq)
   rw [finishComm_send] at dQ
   have tQ:=H.put0 S w n (buf.push v) false (s+1) r false
   have hputB:=H.putB T w n (buf.push v) false (s+1) r false
   obtain ⟨B'',_,hT3⟩:=rZ.still (u:=#[{ g:=κ,fn:=b.frame.fn,pos:=b.frame.place,act:=.send c s },{ g:=κ,fn:=b.frame.fn,pos:=b.frame.place,act:=.sendDone c s }]) (fun op aN=>by simp at aN;rcases aN with rfl | rfl<;>rfl) (fun op aN=>by simp at aN;rcases aN with rfl | rfl<;>simp)
   refine ⟨_,_,dQ,ih _ (H.tB.trans _ _ _ _ hS.rB hputB) hA _ x _ sl _ q (buf.push v) (s+1) r ⟨H.t0.trans _ _ _ _ hS.r0 tQ,H.reflB _ _,hS.apt.same (fV _ _ _ _ _ _ _ _),?_,by simp [cz],.inl hx,?_,⟨B'',by rw [<- Array.append_assoc];exact hT3⟩,gN hS.chan,by rw [hS.list];simp,by have:=hS.room;simp at this ⊢;omega⟩⟩
   ·rw [Array.getElem?_setIfInBounds_ne oL];exact hS.zero
   ·refine hS.leave.turn (by simp) (fun j v hj n9 hv=>?_) (fun op aN=>?_)
    ·rw [Array.getElem?_setIfInBounds_ne (Ne.symm n9)] at hv;exact hv
    ·rcases Array.mem_append.1 aN with aN | aN
     ·obtain ⟨e,_,rfl⟩:=Go.Conc.mem_ofEvents aN;exact ⟨.inr rfl,cz⟩
     ·simp at aN;rcases aN with rfl | rfl<;>exact ⟨.inr rfl,cz⟩
  ·
   have hp:partners (gs.setIfInBounds κ ph) c false=[(0,0)]:=by
    have:=partners_one (gs:=gs.setIfInBounds κ ph) (r:=c) (send:=false) (j:=0) (g:=parked g #[rcase c z] (.recv true)) (by rw [Array.getElem?_setIfInBounds_ne oL];exact hS.zero) (fun j g' hj oq=>by
     rcases getElem?_stand gs κ j g' oq with ⟨_,rfl⟩ | ⟨hne,hg''⟩
     ·exact offersAt_ph c false
     ·exact offersAt_of_not_blocked (hout j g' (by omega) hne hg'') c false)
    rw [this,offersAt_parked_recv]
    simp
   have dQ:=crowd_send_meets (P:=P) (gs:=gs) (w:=w) (sl:=sl) (i:=κ) (j:=0) hS.child sa hS.chan (Ne.symm oL) hS.zero hp
   rw [finishComm_send,finishComm_recv] at dQ
   have tQ:=H.put0 S w n #[] false (s+1) (r+1) false
   have hputB:=H.putB T w n #[] false (s+1) (r+1) false
   have hll:=hS.list
   simp at hll
   have sN:∀ w₁,R0 S wa w₁->SA P c z R0 D0 CA K LB S (Go.Conc.served g (recvd true v true)) w₁:=by
    cases hA with
    | own f k1 k2 k3 =>
     obtain ⟨e1,e2,_⟩:=hat _ hS.r0
     rw [(k2 _ hS.r0).1] at e2;cases e2
    | recv k1 k2 k3 =>
     simp only [List.cons.injEq] at hll
     obtain ⟨rfl,rfl⟩:=hll
     exact k3
    | fin k1 k2 k3=>cases hll
   obtain ⟨B'',_,hT3⟩:=rZ.still (u:=#[{ g:=κ,fn:=b.frame.fn,pos:=b.frame.place,act:=.send c s },{ g:=0,fn:=g.frame.fn,pos:=g.frame.place,act:=.recv c r n },{ g:=κ,fn:=b.frame.fn,pos:=b.frame.place,act:=.sendDone c s },{ g:=0,fn:=g.frame.fn,pos:=g.frame.place,act:=.recvDone c r }]) (fun op aN=>by simp at aN;rcases aN with rfl | rfl | rfl | rfl<;>rfl) (fun op aN=>by simp at aN;rcases aN with rfl | rfl | rfl | rfl<;>simp)
   refine ⟨_,_,dQ,ih _ (H.tB.trans _ _ _ _ hS.rB hputB) (sN _ (H.t0.trans _ _ _ _ hS.r0 tQ)) _ (Go.Conc.served g (recvd true v true)) _ sl _ q #[] (s+1) (r+1) ⟨H.refl0 _ _,H.reflB _ _,hS.apt.same (fV _ _ _ _ _ _ _ _),?_,by simp [cz],.inl (.self rfl),?_,⟨B'',by rw [<- Array.append_assoc];exact hT3⟩,gN hS.chan,by simp,by have:=hS.room;simp at this ⊢;omega⟩⟩
   ·rw [Array.getElem?_setIfInBounds_ne oL];simp [hlt0]
   ·refine hS.leave.turn (by simp) (fun j v hj n9 hv=>?_) (fun op aN=>?_)
    ·rw [Array.getElem?_setIfInBounds_ne (Ne.symm n9),Array.getElem?_setIfInBounds_ne (by omega)] at hv;exact hv
    ·rcases Array.mem_append.1 aN with aN | aN
     ·obtain ⟨e,_,rfl⟩:=Go.Conc.mem_ofEvents aN;exact ⟨.inr rfl,cz⟩
     ·simp at aN;rcases aN with rfl | rfl | rfl | rfl
      ·exact ⟨.inr rfl,cz⟩
      ·exact ⟨.inl rfl,hlt0⟩
      ·exact ⟨.inr rfl,cz⟩
      ·exact ⟨.inl rfl,hlt0⟩
 | @close T b b' wb qb hs hw h1 hq =>
  intro LA S g wa hA gs x w sl t q buf s r hS
  refine tX H oL hs (fun {LA S g wa} hA gs x w sl t q buf s r hS=>?_) hA _ gs x w sl t q buf s r (Nat.le_refl _) hS
  obtain ⟨es,a1,a2⟩:=h1 w buf s r hS.rB hS.chan
  have dQ:=runT_crowd_go (P:=P) (w:=w) (sl:=sl) (i:=κ) hS.child (by rw [hk0];exact a1)
  have cz:κ<gs.size:=(Array.getElem?_eq_some_iff.1 hS.child).1
  have tQ:=H.put0 S w n buf true s r false
  obtain ⟨B,hT⟩:=hS.trace
  obtain ⟨B',_,rZ⟩:=hT.evsC oL (H.apart _ _ _ hS.apt) (fn:=b.frame.fn) (pos:=b.frame.place) a2
  obtain ⟨B'',_,hT3⟩:=rZ.still (u:=#[{ g:=κ,fn:=b.frame.fn,pos:=b.frame.place,act:=.close c }]) (fun op aN=>by simp at aN;subst aN;rfl) (fun op aN=>by simp at aN;subst aN;simp)
  have htr:t++MemOp.ofEvents κ b.frame.fn b.frame.place (es.push ⟨.obj c,true,true⟩)=t++MemOp.ofEvents κ b.frame.fn b.frame.place es++#[{ g:=κ,fn:=b.frame.fn,pos:=b.frame.place,act:=.close c }]:=by
   rw [ofEvents_push,Array.push_eq_append,<- Array.append_assoc];rfl
  have hdeaf:Deaf (t++MemOp.ofEvents κ b.frame.fn b.frame.place (es.push ⟨.obj c,true,true⟩)) κ=0:=by rw [htr];exact hT3.rA trivial
  have hShut:Shut κ c (t++MemOp.ofEvents κ b.frame.fn b.frame.place (es.push ⟨.obj c,true,true⟩)):=by
   rw [htr]
   have fE:(t++MemOp.ofEvents κ b.frame.fn b.frame.place es++#[({ g:=κ,fn:=b.frame.fn,pos:=b.frame.place,act:=.close c }:MemOp)])[(t++MemOp.ofEvents κ b.frame.fn b.frame.place es).size]? = some { g:=κ,fn:=b.frame.fn,pos:=b.frame.place,act:=.close c }:=by
    rw [Array.getElem?_append_right (Nat.le_refl _)];simp
   refine ⟨_,by rw [act?_of fE],by unfold Trace.g?;rw [fE];rfl,⟨κ,by unfold Trace.g?;rw [fE];rfl,by rw [deaf_old (Nat.le_refl _)];exact rZ.rA trivial⟩,fun i a ha hg=>?_⟩
   obtain ⟨y,hy,hya⟩:=touch_of ha
   rcases getElem?_append_cases hy with ⟨hi,_⟩ | ⟨_,hyu⟩
   ·exact hi
   ·simp at hyu;subst hyu;cases hya
  have hq':b'.status=.running\/b'.status=.finished:=hq.status
  have hwk:∀ o,woken P b b' (w.setChan c n buf true s r false) o=o.again (w.setChan c n buf true s r false):=by
   intro o;unfold Go.Conc.woken;rcases hq' with h | h<;>simp [hw,h]
  have hx:∃ x',((gs.map (woken P b b' (w.setChan c n buf true s r false))).setIfInBounds κ b')[0]? = some x'/\kZ x' g:=by
   rw [Array.getElem?_setIfInBounds_ne oL,Array.getElem?_map,hS.zero]
   rcases hS.sit with h3 | ⟨rfl,_,_⟩
   ·exact ⟨x,by simp [woken_running h3.status],h3⟩
   ·exact ⟨{ parked g #[rcase c z] (.recv true) with status:=.running },by rw [Option.map_some,hwk,again_recv_closed (gN hS.chan)],⟨rfl,rfl,rfl,rfl⟩⟩
  obtain ⟨x',qy,hx2⟩:=hx
  refine ⟨_,_,dQ,phase_shut H oL hA _ T _ x' _ sl _ (upd q κ qb) buf s r (Nat.le_refl _) (hS.apt.same (fV _ _ _ _ _ _ _ _)) (H.t0.trans _ _ _ _ hS.r0 tQ) hx2 qy (by simpa using cz) ⟨fun j v hj _ hv=>?_,fun j hj=>?_⟩ ⟨B'',by rw [htr];exact hT3.weak⟩ hShut (gN hS.chan) (by rw [hS.list];simp)⟩
  ·by_cases n9:j=κ
   ·subst n9
    rw [Array.getElem?_setIfInBounds_self_of_lt (by simpa using cz)] at hv
    obtain rfl:=Option.some.inj hv
    rw [upd_same,hdeaf]
    exact hq
   ·rw [Array.getElem?_setIfInBounds_ne (Ne.symm n9),Array.getElem?_map] at hv
    obtain ⟨z',hz,rfl⟩:=Option.map_eq_some_iff.1 hv
    have hqj:=hS.leave.old j z' hj n9 hz
    rw [woken_quitsD hqj,upd_ne q qb n9,gq t _ (fun op aN e=>by obtain ⟨e',_,rfl⟩:=Go.Conc.mem_ofEvents aN;exact n9 e.symm)]
    exact hqj
  ·rw [gq t _ (fun op aN e=>by obtain ⟨e',_,rfl⟩:=Go.Conc.mem_ofEvents aN;simp at hj;simp at e;omega)]
   exact hS.leave.above j (by simpa using hj)
end
end Lf
namespace Lf
open Go Go.Conc
variable {P : Program}
theorem dH (fr:Frame) (cs:List Frame):¬ Lost (G fr cs):=fun h=>h.lost.elim (fun x=>x rfl) (fun x=>x rfl)
theorem first_step' (hP:Plain P) {n:Nat} {g:Goroutine} {w:World} {g':Goroutine} {w':World} (hg:dx g) (oq:¬ Lost g') (h:runN P (n+1) (solo g w)=.next (solo g' w')) :
  ∃ g1 w1 ops,stepT P (solo g w)=(.next (solo g1 w1),ops)/\dx g1/\Alone P g w g1 w1 ops/\runN P n (solo g1 w1)=.next (solo g' w'):=by
 simp only [runN] at h
 cases hx:stepT P (solo g w) with
 | mk s ops =>
  have hs:step P (solo g w)=s:=by rw [step,hx]
  rw [hs] at h
  cases s with
  | ended o x=>cases h
  | next m1 =>
   rcases solo_step hP hg.ok hg.status hx with h2 | ⟨g1,w1,rfl,h3 | ⟨_,h4⟩⟩
   ·have:=runN_size h;simp [solo] at this;omega
   ·exact absurd (lost_run hP h3 h) oq
   ·exact ⟨g1,w1,ops,rfl,(h4 hg.offers).1,(h4 hg.offers).2,h⟩
theorem run_fine (hP:Plain P):∀ {n:Nat} {g:Goroutine} {w:World} {g':Goroutine} {w':World},dx g->¬ Lost g'->runN P n (solo g w)=.next (solo g' w')->dx g':=by
 intro n
 induction n with
 | zero=>intro g w g' w' hg _ h;simp only [runN,Stepped.next.injEq] at h;have:=congrArg (fun m:Machine=>m.gs[0]?) h;simp [solo] at this;exact this▸hg
 | succ n ih =>
  intro g w g' w' hg oq h
  obtain ⟨g1,w1,_,_,h2,_,h4⟩:=first_step' hP hg oq h
  exact ih h2 oq h4
theorem tD {fr:Frame} {cs:List Frame} (h1:aA fr) (h2:∀ x∈cs,aA x):dx (G fr cs):=⟨⟨h1,h2,fun _ h=>by cases h⟩,rfl,rfl,rfl⟩
theorem mU {fn:Func} {tmps:Array Value} {w:World} {v:Value} (h:(results fn tmps).run P w=.ok v w) (τ:Tape) (d:Nat):(results fn tmps).run P (re w τ d)=.ok v (re w τ d):=by
 have h1:((results fn tmps).runT P w #[]).1=.ok v w:=(Sem.runT_fst P _ w #[]).trans h
 obtain ⟨m,e1,e2⟩:=mV P (results fn tmps) 0 w #[] (results_fit (P:=P) fn tmps) (by rw [h1];rfl)
 rw [h1] at e1 e2
 simp only [reR,Result.ok.injEq,true_and] at e1
 have hm:m=0:=by have:=congrArg World.drawn e1;simp [re] at this;omega
 subst hm
 have:=congrArg Prod.fst (e2 τ d (fun j hj=>absurd hj (Nat.not_lt_zero j)))
 rw [Sem.runT_fst] at this
 simpa [reR] using this
theorem tT {fr:Frame} {w:World} {e:Ending} (h:fr.leaving P w e) (τ:Tape) (d:Nat):fr.leaving P (re w τ d) e:=by
 cases e with
 | returned v=>obtain ⟨h1,h2,h3,fn,h4,h5⟩:=h;exact ⟨h1,h2,h3,fn,h4,mU h5 τ d⟩
 | panicked chain=>exact h
 | outgrown=>trivial
def af (P:Program) (K:Goroutine->World->Prop) (g:Goroutine) (w:World):Prop:=∀ τ d,kP P K g (re w τ d)
theorem af.leads {K:Goroutine->World->Prop} {g:Goroutine} {w:World} (h:af P K g w):kP P K g w:=h w.tape w.drawn
theorem af.other {K:Goroutine->World->Prop} {g:Goroutine} {w:World} (h:af P K g w) (τ:Tape) (d:Nat):af P K g (re w τ d):=fun vX d'=>h vX d'
theorem af.trans {K L:Goroutine->World->Prop} {g:Goroutine} {w:World} (h:af P K g w) (hk:∀ g' w',K g' w'->af P L g' w'):af P L g w:=fun τ d=>(h τ d).trans fun g' w' x=>(hk g' w' x).leads
theorem af.mono {K L:Goroutine->World->Prop} {g:Goroutine} {w:World} (h:af P K g w) (hk:∀ g' w',K g' w'->L g' w'):af P L g w:=fun τ d=>(h τ d).mono hk
theorem af.of_steps (hP:Plain P) {K:Goroutine->World->Prop} (hK:∀ g w τ d,K g w->K g (re w τ d)) {g:Goroutine} {w:World} (hg:dx g) (h:∀ τ d,∃ g' w',Steps P (solo g (re w τ d)) (solo g' w')/\¬ Lost g'/\(dx g'->K g' w')):af P K g w:=by
 intro τ₀ d₀
 refine tree_leads (tree_of_comes hP hK hg fun τ d=>?_)
 obtain ⟨g',w',⟨n,hn⟩,h2,h3⟩:=h τ d
 have hf:=run_fine hP hg h2 hn
 exact ⟨n,g',w',hn,hf,h3 hf⟩
def bZ (P:Program) (f:FuncId) (args:Array Value) (w:World) (R:Ending->World->Prop):Prop :=
 ∀ cs,(∀ fr∈cs,aA fr)->af P (fun g w'=>∃ e fr,g=G fr cs/\aA fr/\R e w'/\fr.fn=f/\fr.leaving P w' e) (G (Frame.enter P f args .normal) cs) w
theorem bZ.mono {f:FuncId} {args:Array Value} {w:World} {R R':Ending->World->Prop} (h:bZ P f args w R) (hr:∀ e w',R e w'->R' e w'):bZ P f args w R' :=
 fun cs bn=>(h cs bn).mono fun _ _ ⟨e,fr,h1,h2,h3,h4,h5⟩=>⟨e,fr,h1,h2,hr _ _ h3,h4,h5⟩
theorem bZ.of_calls (hP:Plain P) {f:FuncId} {args:Array Value} {w:World} {R:Ending->World->Prop} (hR:∀ e w τ d,R e w->R e (re w τ d)) (hno:∀ w,¬ R .outgrown w) (h:∀ τ d,Calls P f args (re w τ d) R):bZ P f args w R:=by
 intro cs bn
 have bH:=tD (eV (P:=P) f args .normal) bn
 refine af.of_steps hP ?_ bH fun τ d=>?_
 ·rintro g w τ d ⟨e,fr,h1,h2,h3,h4,h5⟩
  exact ⟨e,fr,h1,h2,hR _ _ _ _ h3,h4,tT h5 τ d⟩
 ·obtain ⟨e,w',fr,h1,h2,h3,h4⟩:=h τ d cs
  have hs:Steps P (lone (Frame.enter P f args .normal) cs (re w τ d)) (lone fr cs w'):=by
   cases e with
   | returned v=>exact h2
   | panicked c=>exact h2
   | outgrown=>exact absurd h1 (hno _)
  exact ⟨G fr cs,w',hs,dH fr cs,fun hf=>⟨e,fr,rfl,hf.ok.frame,h1,h3,h4⟩⟩
end Lf
namespace Lf
open Go Go.Conc
open Go.ConcN (sumTo upd sumTo_upd upd_ne upd_same)
variable {P : Program} {K : Goroutine → World → Prop}
def Forks (P:Program) (K:Goroutine->World->Prop) (g' child:Goroutine) (w':World):Prop :=
 ∃ (c:Nat) (z:Value) (R0:(Nat->Prop)->World->World->Prop) (D0:(Nat->Prop)->World->World->Array Event->Prop) (RB:(Nat->Prop)->World->World->Prop) (DB:(Nat->Prop)->World->World->Array Event->Prop) (CA CB:(Nat->Prop)->Touch->Prop) (n:Nat) (L:List Value),
  Pair c w'.heap.size R0 D0 RB DB CA CB/\SB P c RB DB CB n L (fun _=>False) child w'/\SA P c z R0 D0 CA K L (fun _=>False) g' w'/\w'.heap[c]? = some (.chan n #[] false 0 0 false)/\L.length<=n
theorem kP.spawn {g:Goroutine} {w:World} (hg:g.status=.running) (h:∀ d,∃ g' child w' es,stepG P true g (w.at d)=.spawn g' child w' es/\(∀ e∈es,e.loc≠.mark .disable/\e.loc≠.mark .enable)/\Forks P K g' child w'):kP P K g w:=by
 have main:∀ (M:Nat) (gs:Array Goroutine) (d0:Nat) (sl:Option (Nat×Nat)) (t:Trace) (q:Nat->Nat),sumTo gs.size q<=M->gs[0]? = some g->ot P (fun _=>False) t gs q->(∃ B,Past (fun _=>False) B t)->eN P K (crowd gs (w.at d0) sl) t:=by
  intro M
  induction M using Nat.strongRecOn with
  | _ M ihM =>
   intro gs d0 sl t q hM h0 hL hB
   have haw:∀ x∈gs,awake x:=by
    intro x hx
    obtain ⟨i,hi,rfl⟩:=Array.mem_iff_getElem.1 hx
    rcases Nat.eq_zero_or_pos i with rfl | fE
    ·have:gs[0]=g:=by simpa [Array.getElem?_eq_getElem hi] using h0
     rw [this];exact awake_of (.inl hg)
    ·exact awake_of ((hL.old i _ fE (fun x=>x) (Array.getElem?_eq_getElem hi)).status.elim .inl fun x=>.inr (.inr x))
   obtain ⟨i,x,d,jo,hi,hx,df⟩:=crowd_pick (P:=P) (w:=w.at d0) (sl:=sl) haw ⟨0,g,h0,hg⟩
   have hw:(w.at d0).at d=w.at d:=rfl
   rw [hw] at df
   have cz:0<gs.size:=(Array.getElem?_eq_some_iff.1 h0).1
   obtain ⟨B,hB⟩:=hB
   rcases Nat.eq_zero_or_pos i with rfl | fE
   ·obtain rfl:x=g:=by rw [h0] at hi;exact (Option.some.inj hi).symm
    obtain ⟨g',child,w',es,a1,a2,c,z,R0,D0,RB,DB,CA,CB,n,L,H,hSB,hSA,hc,hn⟩:=h d
    have dQ:=runT_crowd_spawn (P:=P) (w:=w.at d) (sl:=jo) (i:=0) hi (show stepG P (0==0) x (w.at d)=_ from a1)
    have cE:∀ op∈MemOp.ofEvents 0 x.frame.fn x.frame.place es,op.g=0:=fun op aN=>by obtain ⟨e,_,rfl⟩:=Go.Conc.mem_ofEvents aN;rfl
    have hdf:Deaf (t++MemOp.ofEvents 0 x.frame.fn x.frame.place es) 0=Deaf t 0:=by rw [Deaf_own];exact deafBehind_still a2 _
    obtain ⟨B',a_,cB⟩:=vk (MemOp.ofEvents 0 x.frame.fn x.frame.place es) B
    have hP:=(hB.mono a_).app0 cE (fun _ _ _ _ h=>h.elim) hdf cB
    have hk:Deaf (t++MemOp.ofEvents 0 x.frame.fn x.frame.place es) gs.size=0:=by rw [gq t _ (fun op aN e=>by have:=cE op aN;omega)];exact hL.above _ (Nat.le_refl _)
    have hT:=TI.fork (CA:=CA (fun _=>False)) (CB:=CB (fun _=>False)) (hc:=True) hP hk (x:={ g:=0,fn:=x.frame.fn,pos:=x.frame.place,act:=.go gs.size }) (y:={ g:=gs.size,fn:=child.frame.fn,pos:=x.frame.place,act:=.start }) ⟨rfl,rfl⟩ ⟨rfl,rfl⟩
    have htr:∀ a b:MemOp,t++((MemOp.ofEvents 0 x.frame.fn x.frame.place es).push a |>.push b)=t++MemOp.ofEvents 0 x.frame.fn x.frame.place es++#[a,b]:=by
     intro a b
     apply Array.ext'
     simp
    have oL:gs.size≠0:=by omega
    refine eN.step (df.trans dQ) (phase H oL hSB hSA _ g' w' jo _ q #[] 0 0 ⟨H.refl0 _ _,H.reflB _ _,⟨fun _ x=>x.elim,fun _ x=>x.elim,fun _ x=>x.elim,Nat.le_refl _⟩,?_,?_,.inl (.self hSA.running),⟨fun j y hj n9 hy=>?_,fun j hj=>?_⟩,⟨B',by rw [htr];exact hT⟩,hc,by simp,by simpa using hn⟩)
    ·rw [Array.getElem?_push_lt (by simpa using cz)];simp
    ·have e:gs.size=(gs.setIfInBounds 0 g').size:=by simp
     rw [e,Array.getElem?_push_size]
    ·have hjl:j<gs.size:=by
      have:=(Array.getElem?_eq_some_iff.1 hy).1
      simp at this;omega
     have hy':gs[j]? = some y:=by
      rw [Array.getElem?_push_lt (by simpa using hjl)] at hy
      simp only [Array.getElem_setIfInBounds_ne (by simpa using hjl) (show 0≠j by omega)] at hy
      rw [Array.getElem?_eq_getElem hjl];exact hy
     rw [htr,gq _ #[_,_] (fun op aN e=>by simp at aN;rcases aN with rfl | rfl<;>simp at e<;>omega),gq t _ (fun op aN e=>by have:=cE op aN;omega)]
     exact hL.old j y hj (fun x=>x) hy'
    ·simp at hj
     rw [htr,gq _ #[_,_] (fun op aN e=>by simp at aN;rcases aN with rfl | rfl<;>simp at e<;>omega),gq t _ (fun op aN e=>by have:=cE op aN;omega)]
     exact hL.above j (by omega)
   ·obtain ⟨mN,u,q',e1,e2,e3,e4,e5,e6⟩:=slip (w:=w.at d) (sl:=jo) hL hi hx fE (fun x=>x)
    refine eN.step (df.trans e1) (ihM _ (Nat.lt_of_lt_of_le e3 hM) mN d jo _ q' (by rw [e2];exact Nat.le_refl _) (e6 0 g (.inl rfl) h0 fun a a'=>woken_running hg) e4 ⟨B,?_⟩)
    exact hB.appMute (g:=i) (by omega) (fun op aN=>(e5 op aN).1) (fun op aN=>(e5 op aN).2.1) (fun op aN=>(e5 op aN).2.2 B)
 intro gs sl t hf
 obtain ⟨h0,⟨q,hL⟩,hB⟩:=hf
 exact main _ gs w.drawn sl t q (Nat.le_refl _) h0 (ot.of hL _) hB
theorem af.spawn {g:Goroutine} {w:World} (hg:g.status=.running) (h:∀ τ d,∃ g' child w' es,stepG P true g (re w τ d)=.spawn g' child w' es/\(∀ e∈es,e.loc≠.mark .disable/\e.loc≠.mark .enable)/\Forks P K g' child w'):af P K g w :=
 fun τ _=>kP.spawn hg fun d'=>h τ d'
end Lf
namespace Lf
open Go Go.Conc
structure qJ (c B:Nat) (M Ro:Nat->Prop):Prop where
 chan:c<B
 m:∀ b,M b->b<B/\b≠c
 ro:∀ b,Ro b->b<B/\b≠c/\¬ M b
section
variable (c B : Nat) (M Ro : Nat → Prop)
structure R0w (S:Nat->Prop) (w w':World):Prop where
 size:w.heap.size<=w'.heap.size
 block:∀ b,b≠c->b<w.heap.size->(S b\/b<B)->w'.heap[b]? = w.heap[b]?
 os:w'.os=w.os
 output:w'.output=w.output
 tape:w'.tape=w.tape
structure RBw (T:Nat->Prop) (w w':World):Prop where
 size:w.heap.size<=w'.heap.size
 block:∀ b,b≠c->b<w.heap.size->(T b\/Ro b)->w'.heap[b]? = w.heap[b]?
def CA1 (S:Nat->Prop) (a:Touch):Prop:=∃ ad,a.loc=.cell ad/\(S ad.block\/(ad.block<B/\(a.write=true->M ad.block)))
def CB1 (T:Nat->Prop) (a:Touch):Prop:=(∃ ad,a.loc=.cell ad/\(T ad.block\/(Ro ad.block/\a.write=false)))\/a.loc=.obj c
structure tu (S:Nat->Prop) (w w':World) (es:Array Event):Prop where
 size:w.heap.size<=w'.heap.size
 block:∀ b,b<w.heap.size->¬ S b->¬ M b->w'.heap[b]? = w.heap[b]?
 uC:∀ e∈es,EvK (CA1 B M (grow S w w')) e
structure mY (T:Nat->Prop) (w w':World) (es:Array Event):Prop where
 size:w.heap.size<=w'.heap.size
 block:∀ b,b<w.heap.size->¬ T b->w'.heap[b]? = w.heap[b]?
 os:w'.os=w.os
 output:w'.output=w.output
 tape:w'.tape=w.tape
 uC:∀ e∈es,EvK (CB1 c Ro (grow T w w')) e
theorem put_block {c:Nat} {w:World} {n:Nat} {buf:Array Value} {cl:Bool} {s r:Nat} {tm:Bool} {b:Nat} (h:b≠c):(w.setChan c n buf cl s r tm).heap[b]? = w.heap[b]?:=by
 simp only [World.setChan];rw [Array.getElem?_setIfInBounds_ne (Ne.symm h)]
theorem gI (H:qJ c B M Ro):Pair c B (R0w c B) (tu B M) (RBw c Ro) (mY c Ro) (CA1 B M) (CB1 c Ro) where
 t0:=⟨fun S x y z h k=>⟨Nat.le_trans h.size k.size,fun b h1 h2 h3=>(k.block b h1 (Nat.lt_of_lt_of_le h2 h.size) h3).trans (h.block b h1 h2 h3),k.os.trans h.os,k.output.trans h.output,k.tape.trans h.tape⟩,fun S w=>⟨Nat.le_refl _,fun _ _ _ _=>rfl,fun e he=>by simp at he⟩,fun S w=>⟨Nat.le_refl _,fun _ _ _ _=>rfl,fun e he=>by simp at he⟩⟩
 tB:=⟨fun S x y z h k=>⟨Nat.le_trans h.size k.size,fun b h1 h2 h3=>(k.block b h1 (Nat.lt_of_lt_of_le h2 h.size) h3).trans (h.block b h1 h2 h3)⟩,fun S w=>⟨Nat.le_refl _,fun _ _ _=>rfl,rfl,rfl,rfl,fun e he=>by simp at he⟩,fun S w=>⟨Nat.le_refl _,fun _ _ _=>rfl,rfl,rfl,rfl,fun e he=>by simp at he⟩⟩
 refl0 S w:=⟨Nat.le_refl _,fun _ _ _ _=>rfl,rfl,rfl,rfl⟩
 reflB S w:=⟨Nat.le_refl _,fun _ _ _ _=>rfl⟩
 at0 S w d:=⟨Nat.le_refl _,fun _ _ _ _=>rfl,rfl,rfl,rfl⟩
 atB S w d:=⟨Nat.le_refl _,fun _ _ _ _=>rfl⟩
 put0 S w n buf cl s r tm:=⟨by rw [fV];exact Nat.le_refl _,fun b h _ _=>put_block h,rfl,rfl,rfl⟩
 putB S w n buf cl s r tm:=⟨by rw [fV];exact Nat.le_refl _,fun b h _ _=>put_block h⟩
 d0 S T w w' es hA h:=by
  refine ⟨⟨h.size,fun b hc hb hT=>h.block b hb ?_ ?_⟩,h.block c (Nat.lt_of_lt_of_le H.chan hA.low) ?_ ?_,h.uC,h.size⟩
  ·intro hS
   rcases hT with hT | hT
   ·exact hA.st b hS hT
   ·have:=(H.ro b hT).1;have:=(hA.s b hS).1;omega
  ·intro hM
   rcases hT with hT | hT
   ·have:=(H.m b hM).1;have:=(hA.t b hT).1;omega
   ·exact (H.ro b hT).2.2 hM
  ·intro hS;have:=(hA.s c hS).1;have:=H.chan;omega
  ·intro hM;exact (H.m c hM).2 rfl
 dB S T w w' es hA h:=by
  refine ⟨⟨h.size,fun b hc hb hS=>h.block b hb ?_,h.os,h.output,h.tape⟩,h.block c (Nat.lt_of_lt_of_le H.chan hA.low) ?_,h.uC,h.size⟩
  ·intro hT
   rcases hS with hS | hS
   ·exact hA.st b hS hT
   ·have:=(hA.t b hT).1;omega
  ·intro hT;have:=(hA.t c hT).1;have:=H.chan;omega
 mono S S' h:=⟨fun a ⟨ad,h1,h2⟩=>⟨ad,h1,h2.imp (h _) id⟩,fun a x=>x.imp (fun ⟨ad,h1,h2⟩=>⟨ad,h1,h2.imp (h _) id⟩) id⟩
 apart S T w hA:=by
  have key:∀ a b:Touch,CA1 B M S a->CB1 c Ro T b->a.loc=b.loc->(a.write=true\/b.write=true)->False:=by
   rintro a b ⟨ad,h1,h2⟩ (⟨ad',k1,k2⟩ | k1) hl hw
   case inr=>rw [h1,k1] at hl;cases hl
   rw [h1,k1] at hl
   cases hl
   rcases h2 with h2 | ⟨h2,h3⟩
   ·rcases k2 with k2 | ⟨k2,_⟩
    ·exact hA.st _ h2 k2
    ·have:=(hA.s _ h2).1;have:=(H.ro _ k2).1;omega
   ·rcases k2 with k2 | ⟨k2,k3⟩
    ·have:=(hA.t _ k2).1;omega
    ·rcases hw with hw | hw
     ·exact (H.ro _ k2).2.2 (h3 hw)
     ·rw [k3] at hw;cases hw
  intro a b said ha hb
  exact ⟨fun h=>key a b ha hb h.1 (by simpa using h.2.2.1),fun h=>key a b ha hb h.1.symm (by have:=h.2.2.1;simpa using this.symm)⟩
end
section
variable {c B : Nat} {M Ro : Nat → Prop}
theorem EvK.cell {C:Touch->Prop} {ad:Addr} {wr:Bool} (h:C ⟨.cell ad,wr,.plain⟩):EvK C ⟨.cell ad,wr,false⟩:=by
 refine ⟨fun x hx _=>?_,by simp,by simp⟩
 cases wr<;>(simp [MemAct.ofEvent,MemAct.touch?] at hx;subst hx;exact h)
theorem bw (w:World) (o:Obj) {b:Nat} (h:b<w.heap.size):(w.alloc o).heap[b]? = w.heap[b]?:=by
 simp only [World.alloc];rw [Array.getElem?_push_lt h,Array.getElem?_eq_getElem h]
theorem iF (w:World) (o:Obj):(w.alloc o).heap[w.heap.size]? = some o:=by simp only [World.alloc];rw [Array.getElem?_push_size]
theorem aG (w:World) (o:Obj):(w.alloc o).heap.size=w.heap.size+1:=by simp only [World.alloc];rw [Array.size_push]
theorem mY.alloc (T:Nat->Prop) (w:World) (o:Obj):mY c Ro T w (w.alloc o) #[]:=⟨by rw [aG];omega,fun b h _=>bw w o h,rfl,rfl,rfl,fun e he=>by simp at he⟩
theorem tu.alloc (S:Nat->Prop) (w:World) (o:Obj):tu B M S w (w.alloc o) #[]:=⟨by rw [aG];omega,fun b h _ _=>bw w o h,fun e he=>by simp at he⟩
theorem mY.reads {T:Nat->Prop} {w:World} {es:Array Event} (h:∀ e∈es,EvK (CB1 c Ro T) e):mY c Ro T w w es:=⟨Nat.le_refl _,fun _ _ _=>rfl,rfl,rfl,rfl,by rw [aD];exact h⟩
theorem tu.reads {S:Nat->Prop} {w:World} {es:Array Event} (h:∀ e∈es,EvK (CA1 B M S) e):tu B M S w w es:=⟨Nat.le_refl _,fun _ _ _ _=>rfl,by rw [aD];exact h⟩
end
end Lf
namespace Lf
open Go Go.Conc
section
variable {c B : Nat} {M Ro : Nat → Prop}
structure HB (c:Nat) (Ro jO:Nat->Prop) (bW:World) (T:Nat->Prop) (w:World) (fs:List (Nat×Obj)):Prop where
 sub:∀ b,jO b->T b
 keep:RBw c Ro jO bW w
 lt:c<w.heap.size
 facts:∀ p∈fs,(T p.1\/Ro p.1)/\p.1≠c/\w.heap[p.1]? = some p.2
variable {jO T : Nat → Prop} {bW w w' : World} {fs : List (Nat × Obj)}
theorem HB.start (hc:c<w.heap.size) (h:∀ p∈fs,(T p.1\/Ro p.1)/\p.1≠c/\w.heap[p.1]? = some p.2):HB c Ro T w T w fs:=⟨fun _ h=>h,⟨Nat.le_refl _,fun _ _ _ _=>rfl⟩,hc,h⟩
theorem HB.rely (h:HB c Ro jO bW T w fs) (r:RBw c Ro T w w'):HB c Ro jO bW T w' fs :=
 ⟨h.sub,⟨Nat.le_trans h.keep.size r.size,fun b h1 h2 h3=>(r.block b h1 (Nat.lt_of_lt_of_le h2 h.keep.size) (h3.imp (h.sub b) id)).trans (h.keep.block b h1 h2 h3)⟩,Nat.lt_of_lt_of_le h.lt r.size,fun p hp=>by
  obtain ⟨h1,h2,h3⟩:=h.facts p hp
  exact ⟨h1,h2,(r.block _ h2 (Array.getElem?_eq_some_iff.1 h3).1 h1).trans h3⟩⟩
theorem HB.alloc (h:HB c Ro jO bW T w fs) (o:Obj):HB c Ro jO bW (grow T w (w.alloc o)) (w.alloc o) ((w.heap.size,o)::fs):=by
 refine ⟨fun b x=>.inl (h.sub b x),⟨by rw [aG];have:=h.keep.size;omega,fun b h1 h2 h3=>(bw w o (Nat.lt_of_lt_of_le h2 h.keep.size)).trans (h.keep.block b h1 h2 h3)⟩,by rw [aG];have:=h.lt;omega,fun p hp=>?_⟩
 rcases List.mem_cons.1 hp with rfl | hp
 ·exact ⟨.inl (.inr ⟨Nat.le_refl _,by rw [aG];exact Nat.lt_succ_self _⟩),fun e=>by have:=h.lt;omega,iF w o⟩
 ·obtain ⟨h1,h2,h3⟩:=h.facts p hp
  exact ⟨h1.imp .inl id,h2,(bw w o (Array.getElem?_eq_some_iff.1 h3).1).trans h3⟩
theorem HB.get (h:HB c Ro jO bW T w fs) {b:Nat} {o:Obj} (hp:(b,o)∈fs):w.heap[b]? = some o:=(h.facts _ hp).2.2
theorem HB.own (h:HB c Ro jO bW T w fs) {b:Nat} {o:Obj} (hp:(b,o)∈fs):T b\/Ro b:=(h.facts _ hp).1
theorem HB.cell (h:HB c Ro jO bW T w fs) {b i:Nat} {cs:Array Value} {t:TypeId} {m:Nat×Nat} {v:Value} (hp:(b,Obj.cells cs t m)∈fs) (hv:cs[i]? = some v):w.cell? ⟨b,i,none⟩=some v:=by
 have:=h.get hp
 simp [World.cell?,this,hv]
theorem HB.call {T':Nat->Prop} (h:HB c Ro jO bW T w fs) (hs:∀ b,T b->T' b) (r:RBw c Ro T w w'):HB c Ro jO bW T' w' fs :=
 let k:=h.rely r;⟨fun b x=>hs b (h.sub b x),k.keep,k.lt,fun p hp=>let ⟨h1,h2,h3⟩:=k.facts p hp;⟨h1.imp (hs _) id,h2,h3⟩⟩
theorem HB.read (h:HB c Ro jO bW T w fs) {b:Nat} {o:Obj} (hp:(b,o)∈fs) {ad:Addr} (ha:ad.block=b):EvK (CB1 c Ro T) ⟨.cell ad,false,false⟩ :=
 EvK.cell (.inl ⟨ad,rfl,(h.own hp).imp (fun x=>ha▸x) (fun x=>⟨ha▸x,rfl⟩)⟩)
theorem HB.fresh (h:HB c Ro jO bW T w fs):bW.heap.size<=w.heap.size/\∀ p∈fs,p.1≠w.heap.size:=⟨h.keep.size,fun p hp e=>by have:=(Array.getElem?_eq_some_iff.1 (h.facts p hp).2.2).1;omega⟩
theorem cn (w:World) (a:Addr) (v:Value):(w.setCell a v).heap.size=w.heap.size:=by simp [World.setCell]
theorem aT (w:World) (a:Addr) (v:Value) {k:Nat} (h:k≠a.block):(w.setCell a v).heap[k]? = w.heap[k]?:=by
 simp only [World.setCell]
 rw [Array.getElem?_modify]
 simp [Ne.symm h]
theorem qc {w:World} {b i:Nat} {v:Value} {cs:Array Value} {t:TypeId} {m:Nat×Nat} (h:w.heap[b]? = some (.cells cs t m)):(w.setCell ⟨b,i,none⟩ v).heap[b]? = some (.cells (cs.setIfInBounds i v) t m):=by
 simp only [World.setCell]
 rw [Array.getElem?_modify]
 simp [h]
theorem HB.set {b i:Nat} {v:Value} {cs:Array Value} {t:TypeId} {m:Nat×Nat} (h:HB c Ro jO bW T w ((b,.cells cs t m)::fs)) (hb:bW.heap.size<=b) (hd:∀ p∈fs,p.1≠b):HB c Ro jO bW T (w.setCell ⟨b,i,none⟩ v) ((b,.cells (cs.setIfInBounds i v) t m)::fs):=by
 refine ⟨h.sub,⟨by rw [cn];exact h.keep.size,fun k h1 h2 h3=>?_⟩,by rw [cn];exact h.lt,fun p hp=>?_⟩
 ·rw [aT _ _ _ (show k≠b by omega)];exact h.keep.block k h1 h2 h3
 ·rcases List.mem_cons.1 hp with rfl | hp
  ·obtain ⟨h1,h2,h3⟩:=h.facts _ (.head _)
   exact ⟨h1,h2,qc h3⟩
  ·obtain ⟨h1,h2,h3⟩:=h.facts p (.tail _ hp)
   exact ⟨h1,h2,by rw [aT _ _ _ (hd p hp)];exact h3⟩
theorem mY.sets {T:Nat->Prop} {w w':World} {es:Array Event} {b:Nat} (hT:T b) (hs:w'.heap.size=w.heap.size) (hb:∀ k,k≠b->w'.heap[k]? = w.heap[k]?) (h1:w'.os=w.os) (h2:w'.output=w.output) (h3:w'.tape=w.tape) (he:∀ e∈es,∃ ad,e=⟨.cell ad,true,false⟩/\ad.block=b):mY c Ro T w w' es:=by
 refine ⟨by rw [hs];exact Nat.le_refl _,fun k _ hk=>hb k fun e=>hk (e▸hT),h1,h2,h3,fun e hm=>?_⟩
 obtain ⟨ad,rfl,rfl⟩:=he e hm
 exact EvK.cell (.inl ⟨ad,rfl,.inl (.inl hT)⟩)
theorem results_cell {P:Program} {fn:Func} {a:Tmp} {t:TypeId} (h:fn.results=#[.cell a t]) {tmps:Array Value} {ad:Addr} (ha:tmps.getD a undef=.pointer (some ad)) {w:World} {v:Value} (hl:(loadVar t ad).run P w=.ok v w):(results fn tmps).run P w=.ok v w/\(results fn tmps).events P w #[]=(loadVar t ad).events P w #[]:=by
 simp at ha
 constructor<;>simp [results,h,ha,asAddr,hl]
end
end Lf
namespace Lf
open Go Go.Conc
section
variable {P : Program} {main : Bool} {R : (Nat → Prop) → World → World → Prop} {D : (Nat → Prop) → World → World → Array Event → Prop} {c : Nat} {fn : FuncId} {ops : Array Oper} {Q : Act → List Value → (Nat → Prop) → World → Prop} {md : Region.Mode} {I : (Nat → Prop) → World → Prop} {fin : Nat}
def pj (P:Program) (main:Bool) (R:(Nat->Prop)->World->World->Prop) (D:(Nat->Prop)->World->World->Array Event->Prop) (c:Nat) (fn:FuncId) (ops:Array Oper) (i:Nat) (K:Act->List Value->(Nat->Prop)->World->Prop) (a:Act) (L:List Value) (S:Nat->Prop) (w:World):Prop :=
 match ops[i]? with
 | none=>False
 | some o=>if Region.wanted o (yielded ops a.tmps) then
   match o.op with
   | .send ch x=>∃ L',a.eval ch=.chan (some c)/\L=a.eval x::L'/\∀ bF,R S w bF->K (a.put o.dst undef) L' S bF
   | _=>∀ w₁,R S w w₁->uponE o a (fun a' w'=>D S w₁ w' (listed P fn a o w₁)/\K a' L (grow S w₁ w') w')
     (fun f args w'=>w'=w₁/\D S w₁ w₁ (listed P fn a o w₁)/\ic P main R D f args S w₁ (fun v S' w''=>K (a.put o.dst v) L S' w'')) ((execOp a.eval o).run P w₁)
  else K (a.put o.dst undef) L S w
theorem uponE_mono {o:Oper} {a:Act} {K K':Act->World->Prop} {E E':FuncId->Array Value->World->Prop} (h:∀ a w,K a w->K' a w) (he:∀ f args w,E f args w->E' f args w) {r:Result Next} (hh:uponE o a K E r):uponE o a K' E' r:=by
 cases r with
 | ok n w'=>cases n<;>first | exact h _ _ hh | exact he _ _ _ hh | exact hh
 | halt x w'=>exact hh
theorem OpR_mono {i:Nat} {a:Act} {L:List Value} {S:Nat->Prop} {w:World} {K K':Act->List Value->(Nat->Prop)->World->Prop} (h:∀ a L S w,K a L S w->K' a L S w) (hh:pj P main R D c fn ops i K a L S w):pj P main R D c fn ops i K' a L S w:=by
 unfold pj at *
 split
 ·simp_all
 ·rename_i o ho
  simp only [ho] at hh
  split
  ·rename_i hw
   simp only [hw,if_true] at hh
   split
   ·rename_i ch x aN
    simp only [aN] at hh
    obtain ⟨L',h1,h2,h3⟩:=hh
    exact ⟨L',h1,h2,fun bF r=>h _ _ _ _ (h3 bF r)⟩
   ·rename_i aN
    split at hh
    ·rename_i ch x hop';exact absurd hop' (aN ch x)
    ·exact fun w₁ h₁=>uponE_mono (fun a' w' x=>⟨x.1,h _ _ _ _ x.2⟩) (fun f args w' x=>⟨x.1,x.2.1,x.2.2.mono fun _ _ _ y=>h _ _ _ _ y⟩) (hh w₁ h₁)
  ·rename_i hw;simp only [hw] at hh;exact h _ _ _ _ hh
def qG (P:Program) (main:Bool) (R:(Nat->Prop)->World->World->Prop) (D:(Nat->Prop)->World->World->Array Event->Prop) (c:Nat) (fn:FuncId) (md:Region.Mode) (ops:Array Oper) (Q:Act->List Value->(Nat->Prop)->World->Prop) (I:(Nat->Prop)->World->Prop) (fin:Nat):Nat->Array Bool->Act->List Value->(Nat->Prop)->World->Prop
 | 0,listed,a,L,S,w=>Region.ready md ops listed=[]/\Q a L S w
 | fuel+1,listed,a,L,S,w =>
  (Region.ready md ops listed=[]->Q a L S w)/\
  ∀ i∈Region.ready md ops listed,pj P main R D c fn ops i (fun a' L' S' w'=>(i≠fin->I S' w')/\qG P main R D c fn md ops Q I fin fuel (listed.setIfInBounds i true) a' L' S' w') a L S w
theorem pj.rely (T:dh R D) {K:Act->List Value->(Nat->Prop)->World->Prop} (hK:∀ a L S x y,K a L S x->R S x y->K a L S y) {i:Nat} {a:Act} {L:List Value} {S:Nat->Prop} {w w₁:World} (h:pj P main R D c fn ops i K a L S w) (r:R S w w₁):pj P main R D c fn ops i K a L S w₁:=by
 unfold pj at *
 split
 ·simp_all
 ·rename_i o ho
  simp only [ho] at h
  split
  ·rename_i hw
   simp only [hw,if_true] at h
   split
   ·rename_i ch x aN
    simp only [aN] at h
    obtain ⟨L',h1,h2,h3⟩:=h
    exact ⟨L',h1,h2,fun bF h₂=>h3 bF (T.trans _ _ _ _ r h₂)⟩
   ·rename_i aN
    split at h
    ·rename_i ch x hop';exact absurd hop' (aN ch x)
    ·exact fun bF h₂=>h bF (T.trans _ _ _ _ r h₂)
  ·rename_i hw;simp only [hw] at h;exact hK _ _ _ _ _ h r
theorem qG.rely (T:dh R D) (oF:∀ S x y,I S x->R S x y->I S y) (uk:∀ a L S x y,Q a L S x->R S x y->Q a L S y) :
  ∀ (fuel:Nat) (listed:Array Bool) (a:Act) (L:List Value) (S:Nat->Prop) (w w₁:World),qG P main R D c fn md ops Q I fin fuel listed a L S w->R S w w₁->qG P main R D c fn md ops Q I fin fuel listed a L S w₁
 | 0,_,_,_,_,_,_,h,r=>⟨h.1,uk _ _ _ _ _ h.2 r⟩
 | fuel+1,_,_,_,_,_,_,h,r=>⟨fun e=>uk _ _ _ _ _ (h.1 e) r,fun i hi=>(h.2 i hi).rely T (fun a L S x y z r=>⟨fun e=>oF _ _ _ (z.1 e) r,qG.rely T oF uk fuel _ a L S x y z.2 r⟩) r⟩
variable {Stop : List Value → (Nat → Prop) → Goroutine → World → Prop} {b : Frame} {k : List Item} {cs : List Frame}
def SendOK (P:Program) (main:Bool) (R:(Nat->Prop)->World->World->Prop) (D:(Nat->Prop)->World->World->Array Event->Prop) (c:Nat) (ops:Array Oper) (Stop:List Value->(Nat->Prop)->Goroutine->World->Prop):Prop :=
 (∀ o∈ops,∀ ch x,o.op≠.send ch x)\/∀ (v:Value) (L:List Value) (S:Nat->Prop) (g:Goroutine) (w:World),g.status=.running->(∀ w₁,R S w w₁->stepG P main g w₁=.comm g #[scase c v (.tuple #[])] true .send w₁ #[])->(∀ w₁,R S w w₁->RT P main R D (Stop L) S (Go.Conc.served g undef) w₁)->RT P main R D (Stop (v::L)) S g w
theorem RT.opR (T:dh R D) (hsend:SendOK P main R D c ops Stop)
  (hf:b.fn=fn) (hk:b.kind≠.early) {i:Nat} {rest:List Nat} {a:Act} {L:List Value} {S:Nat->Prop} {w:World}
  (h:pj P main R D c fn ops i (fun a' L' S' w'=>RT P main R D (Stop L') S' (G (b.at a' (.inRegion ops rest::k)) cs) w') a L S w):RT P main R D (Stop L) S (G (b.at a (.inRegion ops (i::rest)::k)) cs) w:=by
 unfold pj at h
 cases ho:ops[i]? with
 | none=>simp only [ho] at h
 | some o =>
  simp only [ho] at h
  have bH:∀ v,(b.at a (.inRegion ops (i::rest)::k)).finish v=b.at (a.put o.dst v) (.inRegion ops rest::k):=fun v=>by rw [Frame.finish_at,ho];rfl
  by_cases hw:Region.wanted o (yielded ops a.tmps)=true
  ·simp only [hw,if_true] at h
   split at h
   ·rename_i ch x aN
    obtain ⟨L',h1,rfl,h3⟩:=h
    have dQ:∀ w₁,(execOp a.eval o).run P w₁=.ok (.comm #[scase c (a.eval x) (.tuple #[])] true .send) w₁:=fun w₁=>by
     unfold execOp;simp [aN,h1,scase]
    have hl:∀ w₁,listed P b.fn a o w₁=#[]:=fun w₁=>by
     have:(execOp a.eval o).events P w₁ #[]=#[]:=by unfold execOp;simp [aN]
     unfold listed;rw [this];exact seen_none P _
    rcases hsend with hno | hsend
    ·exact absurd aN (hno o (Array.mem_of_getElem? ho) ch x)
    refine hsend _ _ _ _ _ rfl (fun w₁ h₁=>?_) (fun w₁ h₁=>?_)
    ·rw [stepG_comm ho hw hk (dQ w₁),hl]
    ·have:=h3 w₁ h₁
     show RT P main R D (Stop L') S { (G (b.at a (.inRegion ops (i::rest)::k)) cs) with frame:=(b.at a (.inRegion ops (i::rest)::k)).finish undef,status:=.running,offers:=Option.none } w₁
     rw [bH]
     exact this
   ·rename_i aN
    refine .one rfl fun w₁ h₁=>?_
    have:=h w₁ h₁
    revert this
    cases hr:(execOp a.eval o).run P w₁ with
    | ok x w' =>
     cases x<;>simp only [uponE,false_imp_iff]
     ·rw [stepG_value ho hw hk hr];exact fun y=>hf▸y
     ·rw [stepG_none ho hw hk hr];exact fun y=>hf▸y
     ·rw [stepG_enter ho hw hk hr]
      rintro ⟨rfl,y1,y2⟩
      rw [goes_go,aD]
      exact ⟨hf▸y1,y2 _ _ _ fun v S' w'' z=>by rw [bH];exact z⟩
    | halt x w'=>simp only [uponE,false_imp_iff]
  ·simp only [hw,if_false,Bool.false_eq_true] at h
   have hw':Region.wanted o (yielded ops a.tmps)=false:=by simpa using hw
   refine .one rfl fun w₁ h₁=>?_
   rw [stepG_unwanted ho hw',goes_go,aD]
   exact ⟨T.idle _ _,h.rely T h₁⟩
theorem anyR_sound (T:dh R D) (hsend:SendOK P main R D c ops Stop)
  (hf:b.fn=fn) (hk:b.kind≠.early) (hQ:∀ a L S w,Q a L S w->RT P main R D (Stop L) S (G (b.at a k) cs) w) :
  ∀ (fuel t:Nat) (listed:Array Bool) (a:Act) (L:List Value) (S:Nat->Prop) (w:World),qG P main R D c fn md ops Q I fin fuel listed a L S w->RT P main R D (Stop L) S (G (b.at a (.inRegion ops (Region.linearise.go md ops fuel t listed [])::k)) cs) w:=by
 intro fuel
 induction fuel with
 | zero=>intro t listed a L S w h;simp only [Region.linearise.go,List.reverse_nil];exact RT.nil T (hQ _ _ _ _ h.2)
 | succ fuel ih =>
  intro t listed a L S w h
  obtain ⟨h₀,h₁⟩:=h
  simp only [Region.linearise.go]
  change RT P main R D (Stop L) S (G (b.at a (.inRegion ops (match (Region.ready md ops listed)[t % (Region.ready md ops listed).length]? with
   | some i=>Region.linearise.go md ops fuel (t/(Region.ready md ops listed).length) (listed.setIfInBounds i true) [i]
   | none=>[].reverse)::k)) cs) w
  cases hi:(Region.ready md ops listed)[t % (Region.ready md ops listed).length]? with
  | none =>
   have hnil:Region.ready md ops listed=[]:=by
    cases hr:Region.ready md ops listed with
    | nil=>rfl
    | cons x xs =>
     rw [hr] at hi
     have cz:t % (x::xs).length<(x::xs).length:=Nat.mod_lt _ (by simp)
     simp at hi
     simp at cz
     omega
   exact RT.nil T (hQ _ _ _ _ (h₀ hnil))
  | some i =>
   simp only []
   rw [linearise_go_acc,List.reverse_singleton,List.singleton_append]
   exact RT.opR T hsend hf hk (OpR_mono (fun a' L' S' w' x=>ih _ _ a' L' S' w' x.2) (h₁ i (List.mem_of_getElem? hi)))
end
end Lf
namespace Lf
open Go Go.Conc
section
variable {P : Program} {main : Bool} {R : (Nat → Prop) → World → World → Prop} {D : (Nat → Prop) → World → World → Array Event → Prop} {c : Nat} {fn : FuncId} {ops : Array Oper} {Q : Act → List Value → (Nat → Prop) → World → Prop} {md : Region.Mode} {I : (Nat → Prop) → World → Prop} {fin : Nat}
def iY (P:Program) (D:(Nat->Prop)->World->World->Array Event->Prop) (fn:FuncId) (ops:Array Oper) (I:(Nat->Prop)->World->Prop) (o:Oper) (v:Value) (a:Act):Prop :=
 (∀ ch x,o.op≠.send ch x)/\Region.wanted o (yielded ops a.tmps)=true/\∀ S w,I S w->(execOp a.eval o).run P w=.ok (.value v) w/\D S w w (listed P fn a o w)
theorem iY.of_same {o:Oper} {v:Value} {a a':Act} (hy:iY P D fn ops I o v a) (he:execOp a'.eval o=execOp a.eval o) (hw:Region.wanted o (yielded ops a'.tmps)=Region.wanted o (yielded ops a.tmps)):iY P D fn ops I o v a':=by
 unfold iY listed at *
 rw [he,hw]
 exact hy
theorem iY.opR (oF:∀ S x y,I S x->R S x y->I S y) {i:Nat} {o:Oper} {v:Value} {a:Act} (hi:ops[i]? = some o) (hy:iY P D fn ops I o v a) {K:Act->List Value->(Nat->Prop)->World->Prop} (hK:∀ a L S x y,K a L S x->R S x y->K a L S y) {L:List Value} {S:Nat->Prop} {w:World} (hI:I S w) (h:K (a.put o.dst v) L S w):pj P main R D c fn ops i K a L S w:=by
 unfold pj
 simp only [hi]
 obtain ⟨hs,hw,hv⟩:=hy
 simp only [hw,if_true]
 intro w₁ h₁
 rw [(hv S w₁ (oF _ _ _ hI h₁)).1]
 simp only [uponE,aD]
 exact ⟨(hv S w₁ (oF _ _ _ hI h₁)).2,hK _ _ _ _ _ h h₁⟩
theorem eval_apart {o:Oper} {a:Act} {dst:Option Tmp} {v:Value} (h:∀ d,dst=some d->d ∉ o.looksAt ops) {x:Operand} (hx:x∈o.op.operands):(a.put dst v).eval x=a.eval x :=
 Act.eval_put fun d hd hxd=>h d hd (by
  subst hxd
  exact List.mem_append_left _ (List.mem_filterMap.2 ⟨.tmp d,by simpa using hx,rfl⟩))
theorem OpR_putIf {j:Nat} {oi oj:Oper} {v:Value} (hj:ops[j]? = some oj) (jD:oi.apart ops oj=true) (hsi:∀ cs b,oi.op≠.select cs b) (hsj:∀ cs b,oj.op≠.select cs b) {K:Act->List Value->(Nat->Prop)->World->Prop} {a:Act} {L:List Value} {S:Nat->Prop} {w:World}
  (hy:iY P D fn ops I oi v a) (h:pj P main R D c fn ops j K (a.put oi.dst v) L S w):pj P main R D c fn ops j (fun a' L' S' w'=>iY P D fn ops I oi v a'/\K (a'.put oi.dst v) L' S' w') a L S w:=by
 obtain ⟨h1,h2,h3⟩:=Oper.apart_spec jD
 have keep:∀ u,iY P D fn ops I oi v (a.put oj.dst u):=fun u=>hy.of_same (execOp_put oi hsi a oj.dst u h3) (wanted_put oi a oj.dst u h3)
 unfold pj at *
 simp only [hj] at *
 rw [wanted_put oj a oi.dst v h1] at h
 split
 ·rename_i hw
  simp only [hw,if_true] at h
  split
  ·rename_i ch x aN
   simp only [aN] at h
   obtain ⟨L',e1,e2,e3⟩:=h
   rw [eval_apart h1 (by simp [aN,Op.operands])] at e1
   rw [eval_apart h1 (by simp [aN,Op.operands])] at e2
   exact ⟨L',e1,e2,fun bF r=>⟨keep _,by rw [<- Act.put_comm a v undef h2];exact e3 bF r⟩⟩
  ·rename_i aN
   split at h
   ·rename_i ch x hop';exact absurd hop' (aN ch x)
   ·intro w₁ h₁
    have h:=h w₁ h₁
    unfold listed at *
    rw [execOp_put oj hsj a oi.dst v h1] at h
    generalize (execOp a.eval oj).run P w₁=r at *
    cases r with
    | ok n w' =>
     cases n<;>simp only [uponE] at h ⊢
     case value u=>exact ⟨h.1,keep u,by rw [<- Act.put_comm a v u h2];exact h.2⟩
     case skip=>exact ⟨h.1,keep _,by rw [<- Act.put_comm a v undef h2];exact h.2⟩
     case enter f args=>exact ⟨h.1,h.2.1,h.2.2.mono fun u S' w'' z=>⟨keep u,by rw [<- Act.put_comm a v u h2];exact z⟩⟩
    | halt x w'=>simp only [uponE] at h
 ·rename_i hw
  simp only [hw] at h
  exact ⟨keep _,by rw [<- Act.put_comm a v undef h2];exact h⟩
theorem anyR_first (T:dh R D) (oF:∀ S x y,I S x->R S x y->I S y) (uk:∀ a L S x y,Q a L S x->R S x y->Q a L S y) {i:Nat} {oi:Oper} {v:Value} (hi:ops[i]? = some oi)
  (hsel:∀ (j:Nat) (o:Oper) cs b,ops[j]? = some o->o.op≠.select cs b) (bH:∀ o,ops[fin]? = some o->∃ e∈o.after,Region.binds md e=true/\e.on=i) :
  ∀ (fuel:Nat) (listed:Array Bool) (a:Act) (L:List Value) (S:Nat->Prop) (w:World),
   (∀ j oj,ops[j]? = some oj->j≠i->listed.getD j true=false->(∀ e∈oj.after,Region.binds md e=true->e.on≠i)->oi.apart ops oj=true)->
   i∈Region.ready md ops listed->iY P D fn ops I oi v a->I S w->
   qG P main R D c fn md ops Q I fin fuel (listed.setIfInBounds i true) (a.put oi.dst v) L S w->qG P main R D c fn md ops Q I fin (fuel+1) listed a L S w:=by
 have hK:∀ (q:Prop) fuel listed,∀ a L S x y,((q->I S x)/\qG P main R D c fn md ops Q I fin fuel listed a L S x)->R S x y->((q->I S y)/\qG P main R D c fn md ops Q I fin fuel listed a L S y) :=
  fun q fuel listed a L S x y h r=>⟨fun e=>oF _ _ _ (h.1 e) r,qG.rely T oF uk fuel listed a L S x y h.2 r⟩
 intro fuel
 induction fuel with
 | zero =>
  intro listed a L S w _ hr hy hS H
  refine ⟨fun h=>(by rw [h] at hr;cases hr),fun j hj=>?_⟩
  by_cases mO:j=i
  ·subst mO;exact hy.opR oF hi (hK _ _ _) hS ⟨fun _=>hS,H⟩
  ·have:=ready_mono hj mO
   rw [H.1] at this
   cases this
 | succ fuel ih =>
  intro listed a L S w hfree hr hy hS H
  refine ⟨fun h=>(by rw [h] at hr;cases hr),fun j hj=>?_⟩
  by_cases mO:j=i
  ·subst mO;exact hy.opR oF hi (hK _ _ _) hS ⟨fun _=>hS,H⟩
  ·have h1:=H.2 j (ready_mono hj mO)
   obtain ⟨hjun,oj,hoj,nc⟩:=mem_ready.1 hj
   have hnot:∀ e∈oj.after,Region.binds md e=true->e.on≠i:=fun e he hb heq=>by
    have h1:=nc e he hb
    have h0:=(mem_ready.1 hr).1
    rw [heq] at h1
    rcases Nat.lt_or_ge i listed.size with h' | h'
    ·simp [h'] at h0 h1;rw [h0] at h1;cases h1
    ·simp [Array.getElem?_eq_none h'] at h1
   have hjf:j≠fin:=by
    rintro rfl
    obtain ⟨e,he,hb,heq⟩:=bH oj hoj
    exact hnot e he hb heq
   have h2:=OpR_putIf hoj (hfree j oj hoj mO hjun hnot) (fun cs b=>hsel i oi cs b hi) (fun cs b=>hsel j oj cs b hoj) hy h1
   have hfree':∀ k ok,ops[k]? = some ok->k≠i->(listed.setIfInBounds j true).getD k true=false->
     (∀ e∈ok.after,Region.binds md e=true->e.on≠i)->oi.apart ops ok=true:=fun k ok hk hki hun hno=>by
    refine hfree k ok hk hki ?_ hno
    by_cases n9:j=k
    ·subst n9;exact hjun
    ·rw [getD_set_ne true n9] at hun;exact hun
   refine OpR_mono (fun a' L' S' w' h3=>⟨h3.2.1,ih (listed.setIfInBounds j true) a' L' S' w' hfree' (ready_mono hr (Ne.symm mO)) h3.1 (h3.2.1 hjf) ?_⟩) h2
   rw [Array.setIfInBounds_comm _ _ mO]
   exact h3.2.2
theorem bU (T:dh R D) (oF:∀ S x y,I S x->R S x y->I S y) (uk:∀ a L S x y,Q a L S x->R S x y->Q a L S y) (i:Nat) {oi:Oper} {v:Value} {fuel:Nat} {listed:Array Bool} {a:Act} {L:List Value} {S:Nat->Prop} {w:World} (hi:ops[i]? = some oi)
  (hs:Region.noSelect ops=true) (hf:Region.free md ops listed i=true) (hr:(Region.ready md ops listed).contains i=true) (bH:((ops[fin]?).map fun o=>o.after.any fun e=>Region.binds md e&&e.on==i).getD true=true)
  (hy:iY P D fn ops I oi v a) (hS:I S w) (h:qG P main R D c fn md ops Q I fin fuel (listed.setIfInBounds i true) (a.put oi.dst v) L S w):qG P main R D c fn md ops Q I fin (fuel+1) listed a L S w :=
 anyR_first T oF uk hi (Region.noSelect_spec hs) (fun o ho=>by
  rw [ho] at bH
  simp only [Option.map_some,Option.getD_some] at bH
  obtain ⟨e,he,hb⟩:=Array.any_eq_true'.1 bH
  simp only [Bool.and_eq_true,beq_iff_eq] at hb
  exact ⟨e,he,hb.1,hb.2⟩) fuel listed a L S w (Region.free_spec hi hf) (by simpa using hr) hy hS h
theorem gu {i:Nat} {fuel:Nat} {listed:Array Bool} {a:Act} {L:List Value} {S:Nat->Prop} {w:World} (hr:Region.ready md ops listed=[i])
  (h:pj P main R D c fn ops i (fun a' L' S' w'=>(i≠fin->I S' w')/\qG P main R D c fn md ops Q I fin fuel (listed.setIfInBounds i true) a' L' S' w') a L S w):qG P main R D c fn md ops Q I fin (fuel+1) listed a L S w :=
 ⟨fun h0=>(by rw [hr] at h0;cases h0),fun j hj=>(by rw [hr] at hj;simp at hj;subst hj;exact h)⟩
theorem anyR_done {listed:Array Bool} {a:Act} {L:List Value} {S:Nat->Prop} {w:World} (hr:Region.ready md ops listed=[]) (h:Q a L S w):∀ fuel,qG P main R D c fn md ops Q I fin fuel listed a L S w
 | 0=>⟨hr,h⟩
 | _+1=>⟨fun _=>h,fun i hi=>by rw [hr] at hi;cases hi⟩
theorem pj.call (T:dh R D) {i:Nat} {o:Oper} {f:FuncId} {fn':Func} {args:Array Operand} {ats:Array TypeId} {K:Act->List Value->(Nat->Prop)->World->Prop} {a:Act} {L:List Value} {S:Nat->Prop} {w:World} (ho:ops[i]? = some o) (hw:Region.wanted o (yielded ops a.tmps)=true) (aN:o.op=.call { callee:=.value (.func f),args,argTypes:=ats })
  (hf:P.funcs[f]? = some fn') (u0:(fn'.name== "runtime.NumGoroutine")=false) (hb:fn'.body.isNone=false) (h:∀ w₁,R S w w₁->ic P main R D f (args.map a.eval) S w₁ (fun v S' w''=>K (a.put o.dst v) L S' w'')):pj P main R D c fn ops i K a L S w:=by
 unfold pj
 simp only [ho,hw,if_true,aN]
 intro w₁ h₁
 have hl:listed P fn a o w₁=#[]:=by unfold listed;rw [events_call_body aN hf u0 hb];exact seen_none P _
 rw [run_call_body aN hf u0 hb,hl]
 exact ⟨rfl,T.idle _ _,h w₁ h₁⟩
theorem pj.op {i:Nat} {o:Oper} {K:Act->List Value->(Nat->Prop)->World->Prop} {a:Act} {L:List Value} {S:Nat->Prop} {w:World} (ho:ops[i]? = some o) (hw:Region.wanted o (yielded ops a.tmps)=true) (hns:∀ ch x,o.op≠.send ch x)
  (h:∀ w₁,R S w w₁->∀ K':Act->World->Prop,(∀ a' w',D S w₁ w' (listed P fn a o w₁)/\K a' L (grow S w₁ w') w'->K' a' w')->uponK o a K' ((execOp a.eval o).run P w₁)):pj P main R D c fn ops i K a L S w:=by
 unfold pj
 simp only [ho,hw,if_true]
 intro w₁ h₁
 have:=h w₁ h₁ _ (fun _ _ x=>x)
 revert this
 cases (execOp a.eval o).run P w₁ with
 | ok n w'=>cases n<;>first | exact id | exact False.elim
 | halt x w'=>exact False.elim
theorem pj.send {i:Nat} {o:Oper} {K:Act->List Value->(Nat->Prop)->World->Prop} {a:Act} {L L':List Value} {S:Nat->Prop} {w:World} {ch x:Operand} (ho:ops[i]? = some o) (hw:Region.wanted o (yielded ops a.tmps)=true) (aN:o.op=.send ch x) (h1:a.eval ch=.chan (some c)) (h2:L=a.eval x::L') (h3:∀ bF,R S w bF->K (a.put o.dst undef) L' S bF):pj P main R D c fn ops i K a L S w:=by
 unfold pj
 simp only [ho,hw,if_true,aN]
 exact ⟨L',h1,h2,h3⟩
variable {Stop : List Value → (Nat → Prop) → Goroutine → World → Prop} {b : Frame} {k : List Item} {cs : List Frame}
theorem RT.drawn (T:dh R D) (hsend:SendOK P main R D c ops Stop)
  (hf:b.fn=fn) (hk:b.kind≠.early) (hm:P.follows .mixedOrders=true) {id:Nat} {a:Act} {L:List Value} {S:Nat->Prop} {w:World} (hQ:∀ a L S w,Q a L S w->RT P main R D (Stop L) S (G (b.at a k) cs) w)
  (h:∀ w₁,R S w w₁->qG P main R D c fn .any ops Q I fin ops.size (Array.replicate ops.size false) a L S { w₁ with drawn:=w₁.drawn+1 }):RT P main R D (Stop L) S (G (b.at a (.code (.region id ops true)::k)) cs) w :=
 RT.draw T fun w₁ h₁ t=>by
  simp only [Region.schedule,hm,Bool.true_or,if_true]
  exact anyR_sound T hsend hf hk hQ ops.size t _ a L S _ (h w₁ h₁)
end
end Lf
namespace Lf
open Go Go.Conc Go.RowKit
open Go.Proofs (Tryz.f170 Tryz.prog Tryz.func170 Tryz.ntmps170)
variable {main : Bool} {c B : Nat} {M Ro : Nat → Prop}
set_option maxRecDepth 100000 in
theorem says_c (H : qJ c B M Ro) (num time at_ : Value) (sb so n cap : Nat) (i : Nat) (arr : Array Value) (m : Nat × Nat) (v : Bool) (T : Nat → Prop) (w : World) (hc : c < w.heap.size) (hs : (T sb ∨ Ro sb) ∧ sb ≠ c ∧ w.heap[sb]? = some (.cells arr 4 m)) (hv : arr[so + i]? = some (.bool v)) (hi : i < n) :
  ic Tryz.prog main (RBw c Ro) (mY c Ro) 170 #[.agg #[num, time, at_, .slice (some ⟨sb, so, none⟩) n cap], .int .i64 i] T w fun r T' w' => r = .bool v ∧ (∀ b, T b → T' b) ∧ RBw c Ro T w w' := by
 have TT := (gI c B M Ro H).tB
 intro Stop cf cs hk
 have hF : HB c Ro T w T w [(sb, .cells arr 4 m)] := .start hc (fun p hp => by simp at hp; subst hp; exact hs)
 rw [enter_at _ Tryz.func170 rfl]
 simp only [Tryz.ntmps170, List.size_toArray, List.length_cons, List.length_nil, Nat.reduceAdd, Nat.reduceSub, Array.replicate_succ, Array.replicate_zero, List.push_toArray, List.append_toArray, List.nil_append, List.cons_append]
 refine RT.seq TT ?_
 refine RT.region TT ?_
 simp only [List.size_toArray, List.length_cons, List.length_nil, Nat.reduceAdd, Nat.zero_add, List.range, List.range.loop]
 refine RT.op rfl (by rfl) (by simp [base]) (fun v1 hR K hK => ?_)
 replace hF := hF.rely hR
 go_simp
 refine hK _ _ ⟨by rw [listed_nil (by simp [go_sem])]; exact mY.alloc _ _ _, ?_⟩
 clear hK K hR
 replace hF := hF.alloc (.cells #[num, time, at_, .slice (some ⟨sb, so, none⟩) n cap] 159)
 generalize grow _ v1 (v1.alloc (.cells #[num, time, at_, .slice (some ⟨sb, so, none⟩) n cap] 159)) = T1 at hF ⊢
 generalize a_ : v1.heap.size = b1 at hF ⊢
 generalize v1.alloc (.cells #[num, time, at_, .slice (some ⟨sb, so, none⟩) n cap] 159) = u1 at hF ⊢
 clear a_ v1
 refine RT.op rfl (by rfl) (by simp [base]) (fun v2 hR K hK => ?_)
 replace hF := hF.rely hR
 go_simp
 refine hK _ _ ⟨by rw [listed_nil (by simp [go_sem])]; exact TT.idle _ _, ?_⟩
 clear hK K hR
 rw [aD]
 refine RT.nil TT ?_
 refine RT.seq TT ?_
 refine RT.region TT ?_
 simp only [List.size_toArray, List.length_cons, List.length_nil, Nat.reduceAdd, Nat.zero_add, List.range, List.range.loop]
 refine RT.op rfl (by rfl) (by simp [base]) (fun v3 hR K hK => ?_)
 replace hF := hF.rely hR
 go_simp
 refine hK _ _ ⟨by rw [listed_nil (by simp [go_sem])]; exact TT.idle _ _, ?_⟩
 clear hK K hR
 rw [aD]
 refine RT.op rfl (by rfl) (by simp [base]) (fun v4 hR K hK => ?_)
 replace hF := hF.rely hR
 have kJ := hF.cell (i := 3) (.head _) rfl
 go_simp
 refine hK _ _ ⟨?_, ?_⟩
 ·refine mY.reads fun e he => ?_
  have hm := mem_listed he
  simp [go_sem, *] at hm
  rcases hm with rfl <;> exact hF.read (.head _) rfl
 clear hK K hR
 rw [aD]
 refine RT.op rfl (by rfl) (by simp [base]) (fun v5 hR K hK => ?_)
 replace hF := hF.rely hR
 go_simp
 refine hK _ _ ⟨by rw [listed_nil (by simp [go_sem])]; exact TT.idle _ _, ?_⟩
 clear hK K hR
 rw [aD]
 refine RT.op rfl (by rfl) (by simp [base]) (fun v6 hR K hK => ?_)
 replace hF := hF.rely hR
 have hi' : (i : Int) < (n : Int) := by omega
 go_simp
 refine hK _ _ ⟨by rw [listed_nil (by simp [go_sem, *])]; exact TT.idle _ _, ?_⟩
 clear hK K hR
 rw [aD]
 refine RT.op rfl (by rfl) (by simp [base]) (fun v7 hR K hK => ?_)
 replace hF := hF.rely hR
 have hc2 := hF.cell (i := so + i) (.tail _ (.head _)) hv
 go_simp
 refine hK _ _ ⟨?_, ?_⟩
 ·refine mY.reads fun e he => ?_
  have hm := mem_listed he
  simp [go_sem, *] at hm
  rcases hm with rfl <;> exact hF.read (.tail _ (.head _)) rfl
 clear hK K hR
 rw [aD]
 refine RT.op rfl (by rfl) (by simp [base]) (fun v8 hR K hK => ?_)
 replace hF := hF.rely hR
 go_simp
 refine hK _ _ ⟨by rw [listed_nil (by simp [go_sem])]; exact TT.idle _ _, ?_⟩
 clear hK K hR
 rw [aD]
 refine RT.nil TT ?_
 refine RT.ret TT ?_
 refine RT.leave TT (v := .bool v) rfl rfl Tryz.func170 (fun v9 _ => ?_) (hk _ _ _ ⟨rfl, hF.sub, hF.keep⟩)
 rw [events_results_tmp rfl, seen_none]
 exact ⟨results_tmp (fn := Tryz.f170) (t := 4) rfl _ _ _, TT.idle _ _⟩
end Lf
namespace Ev
open Go
section
variable {P : Program} {ops : Array Oper} {Q : Exit → Act → World → Prop} {md : Region.Mode} {S : World → Prop} {fin : Nat}
def rW (md:Region.Mode) (ops:Array Oper) (listed:Array Bool):Prop:=∀ (k:Nat) (o:Oper),ops[k]? = some o->listed.getD k false=true->∀ e∈o.after,Region.binds md e=true->listed.getD e.on false=true
def closedB (md:Region.Mode) (ops:Array Oper) (listed:Array Bool):Bool:=(List.range ops.size).all fun k=>match ops[k]? with
 | some o=>!listed.getD k false||o.after.all fun e=>!Region.binds md e||listed.getD e.on false
 | none=>true
theorem closedB_spec {listed:Array Bool} (h:closedB md ops listed=true):rW md ops listed:=by
 intro k o hk hl e he hb
 have hks:k<ops.size:=(Array.getElem?_eq_some_iff.1 hk).1
 have h1:=List.all_eq_true.1 h k (List.mem_range.2 hks)
 rw [hk] at h1
 simp only [hl,Bool.not_true,Bool.false_or] at h1
 have h2:=Array.all_eq_true'.1 h1 e he
 simpa [hb] using h2
theorem rW.set {listed:Array Bool} {j:Nat} (h:rW md ops listed) (hj:j∈Region.ready md ops listed):rW md ops (listed.setIfInBounds j true):=by
 obtain ⟨_,oj,hoj,nc⟩:=mem_ready.1 hj
 have up:∀ q,listed.getD q false=true->(listed.setIfInBounds j true).getD q false=true:=fun q hq=>by
  by_cases hqj:q=j
  ·subst hqj
   have:q<listed.size:=by
    rcases Nat.lt_or_ge q listed.size with h' | h'
    ·exact h'
    ·simp [Array.getElem?_eq_none h'] at hq
   simp [this]
  ·simp only [Array.getD_eq_getD_getElem?] at hq ⊢
   rw [Array.getElem?_setIfInBounds_ne (Ne.symm hqj)]
   exact hq
 intro k o hk hl e he hb
 by_cases hkj:k=j
 ·subst hkj
  rw [hoj] at hk;cases hk
  exact up _ (nc e he hb)
 ·refine up _ (h k o hk ?_ e he hb)
  simp only [Array.getD_eq_getD_getElem?] at hl ⊢
  rw [Array.getElem?_setIfInBounds_ne (Ne.symm hkj)] at hl
  exact hl
def ud (md:Region.Mode) (ops:Array Oper):Nat->Nat->Nat->Bool
 | 0,_,_=>false
 | fuel+1,k,i=>match ops[k]? with
  | some o=>o.after.any fun e=>Region.binds md e&&(e.on==i||ud md ops fuel e.on i)
  | none=>true
theorem waitsB_spec {listed:Array Bool} {i:Nat} (hc:rW md ops listed):∀ (fuel k:Nat),ud md ops fuel k i=true->∀ o,ops[k]? = some o->(∀ e∈o.after,Region.binds md e=true->listed.getD e.on false=true)->(∀ q,listed.getD q false=true->q<ops.size)->listed.getD i false=true
 | 0,_,h,_,_,_,_=>by cases h
 | fuel+1,k,h,o,ho,nc,hs=>by
  unfold ud at h
  rw [ho] at h
  obtain ⟨e,he,hb⟩:=Array.any_eq_true'.1 h
  simp only [Bool.and_eq_true,Bool.or_eq_true,beq_iff_eq] at hb
  obtain ⟨hb,rfl | hw⟩:=hb
  ·exact nc e he hb
  ·have hl:=nc e he hb
   have cz:=hs _ hl
   exact waitsB_spec hc fuel e.on hw ops[e.on] (Array.getElem?_eq_getElem cz) (fun e2 he2 cB=>hc _ _ (Array.getElem?_eq_getElem cz) hl e2 he2 cB) hs
def bJ (P:Program) (md:Region.Mode) (ops:Array Oper) (Q:Exit->Act->World->Prop) (S:World->Prop) (fin:Nat):Nat->Array Bool->Act->World->Prop
 | 0,listed,a,w=>Region.ready md ops listed=[]/\Q .normal a w
 | fuel+1,listed,a,w=>(Region.ready md ops listed=[]->Q .normal a w)/\
  ∀ i∈Region.ready md ops listed,wpOp P ops Q i (fun a' w'=>(i<fin->S w')/\bJ P md ops Q S fin fuel (listed.setIfInBounds i true) a' w') a w
theorem bJ.any:∀ (fuel:Nat) (listed:Array Bool) (a:Act) (w:World),bJ P md ops Q S fin fuel listed a w->wpAny P md ops Q fuel listed a w
 | 0,_,_,_,h=>h
 | fuel+1,_,_,_,h=>⟨h.1,fun i hi=>wpOp_mono (fun a' w' k=>bJ.any fuel _ a' w' k.2) (h.2 i hi)⟩
theorem bJ.first {i:Nat} {oi:Oper} {v:Value} (hi:ops[i]? = some oi) (hsel:∀ (j:Nat) (o:Oper) cs b,ops[j]? = some o->o.op≠.select cs b) (bH:∀ k,fin<=k->ud md ops ops.size k i=true)
  (hQ:∀ c a w,Q (.panic c) (a.put oi.dst v) w->Q (.panic c) a w):∀ (fuel:Nat) (listed:Array Bool) (a:Act) (w:World),listed.size=ops.size->rW md ops listed->
   (∀ j oj,ops[j]? = some oj->j≠i->listed.getD j true=false->(∀ e∈oj.after,Region.binds md e=true->e.on≠i)->oi.apart ops oj=true)->
   i∈Region.ready md ops listed->YieldsIf P ops S oi v a->S w->bJ P md ops Q S fin fuel (listed.setIfInBounds i true) (a.put oi.dst v) w->bJ P md ops Q S fin (fuel+1) listed a w:=by
 intro fuel
 induction fuel with
 | zero =>
  intro listed a w _ _ _ hr hy hS H
  refine ⟨fun h=>(by rw [h] at hr;cases hr),fun j hj=>?_⟩
  by_cases mO:j=i
  ·subst mO;exact hy.wpOp hi hS ⟨fun _=>hS,H⟩
  ·have:=ready_mono hj mO
   rw [H.1] at this
   cases this
 | succ fuel ih =>
  intro listed a w hls om hfree hr hy hS H
  refine ⟨fun h=>(by rw [h] at hr;cases hr),fun j hj=>?_⟩
  by_cases mO:j=i
  ·subst mO;exact hy.wpOp hi hS ⟨fun _=>hS,H⟩
  ·obtain ⟨hjun,oj,hoj,nc⟩:=mem_ready.1 hj
   have hun:listed.getD i false=true->False:=fun h1=>by
    have h0:=(mem_ready.1 hr).1
    rcases Nat.lt_or_ge i listed.size with h' | h'
    ·simp [h'] at h0 h1;rw [h0] at h1;cases h1
    ·simp [Array.getElem?_eq_none h'] at h1
   have hnot:∀ e∈oj.after,Region.binds md e=true->e.on≠i:=fun e he hb heq=>by
    have h1:=nc e he hb
    rw [heq] at h1
    exact hun h1
   have hjf:j<fin:=by
    refine Nat.lt_of_not_le fun hle=>?_
    refine hun (waitsB_spec om _ _ (bH j hle) oj hoj nc fun q hq=>?_)
    rcases Nat.lt_or_ge q listed.size with h' | h'
    ·omega
    ·simp [Array.getElem?_eq_none h'] at hq
   have h2:=wpOp_putIf hoj (hfree j oj hoj mO hjun hnot) (fun cs b=>hsel i oi cs b hi) (fun cs b=>hsel j oj cs b hoj) hQ hy (H.2 j (ready_mono hj mO))
   refine wpOp_mono (fun a' w' h3=>⟨h3.2.1,ih (listed.setIfInBounds j true) a' w' (by simp [hls]) (om.set hj) (fun k ok hk hki hun hno=>hfree k ok hk hki ?_ hno) (ready_mono hr (Ne.symm mO)) h3.1 (h3.2.1 hjf) ?_⟩) h2
   ·by_cases n9:j=k
    ·subst n9;exact hjun
    ·rw [getD_set_ne true n9] at hun;exact hun
   ·rw [Array.setIfInBounds_comm _ _ mO]
    exact h3.2.2
theorem bJ.take (i:Nat) {oi:Oper} {v:Value} {fuel:Nat} {listed:Array Bool} {a:Act} {w:World} (hi:ops[i]? = some oi) (hs:Region.noSelect ops=true) (hf:Region.free md ops listed i=true) (hr:(Region.ready md ops listed).contains i=true)
  (bH:(((List.range ops.size).all fun k=>decide (k<fin)||ud md ops ops.size k i)&&closedB md ops listed&&(listed.size==ops.size))=true) (hQ:∀ c a w,Q (.panic c) (a.put oi.dst v) w->Q (.panic c) a w)
  (hw:Region.wanted oi (yielded ops a.tmps)=true) (hy:∀ w,S w->(execOp a.eval oi).run P w=.ok (.value v) w) (hS:S w) (h:bJ P md ops Q S fin fuel (listed.setIfInBounds i true) (a.put oi.dst v) w):bJ P md ops Q S fin (fuel+1) listed a w:=by
 simp only [Bool.and_eq_true,beq_iff_eq] at bH
 have hks:i<ops.size:=(Array.getElem?_eq_some_iff.1 hi).1
 have hfin1:∀ k,fin<=k->ud md ops ops.size k i=true:=fun k hk=>by
  by_cases hkl:k<ops.size
  ·have:=List.all_eq_true.1 bH.1.1 k (List.mem_range.2 hkl)
   simpa [Nat.not_lt.2 hk] using this
  ·have hn:ops[k]? = none:=Array.getElem?_eq_none (by omega)
   obtain ⟨m,hm⟩:∃ m,ops.size=m+1:=⟨ops.size-1,by omega⟩
   rw [hm]
   unfold ud
   rw [hn]
 exact bJ.first hi (Region.noSelect_spec hs) hfin1 hQ fuel listed a w bH.2 (closedB_spec bH.1.2) (Region.free_spec hi hf) (by simpa using hr) (.inl ⟨hw,hy⟩) hS h
theorem bJ.one {i:Nat} {o:Oper} {fuel:Nat} {listed:Array Bool} {a:Act} {w:World} (hr:Region.ready md ops listed=[i]) (ho:ops[i]? = some o) (hw:Region.wanted o (yielded ops a.tmps)=true)
  (h:Oper.wp P o a w (fun a' w'=>(i<fin->S w')/\bJ P md ops Q S fin fuel (listed.setIfInBounds i true) a' w') Q):bJ P md ops Q S fin (fuel+1) listed a w :=
 ⟨fun h0=>(by rw [hr] at h0;cases h0),fun j hj=>by
  rw [hr] at hj;simp at hj;subst hj
  unfold wpOp
  simp only [ho,hw,if_true]
  exact .inl h⟩
theorem bJ.op {i:Nat} {o:Oper} {fuel:Nat} {listed:Array Bool} {a:Act} {w:World} (hr:Region.ready md ops listed=[i]) (ho:ops[i]? = some o) (hw:Region.wanted o (yielded ops a.tmps)=true)
  (h:∀ K:Act->World->Prop,(∀ a' w',((i<fin->S w')/\bJ P md ops Q S fin fuel (listed.setIfInBounds i true) a' w')->K a' w')->Oper.wp P o a w K Q):bJ P md ops Q S fin (fuel+1) listed a w :=
 bJ.one hr ho hw (h _ fun _ _ x=>x)
theorem bJ.two {i j:Nat} {oi oj:Oper} {fuel:Nat} {listed:Array Bool} {a:Act} {w:World} (hr:Region.ready md ops listed=[i,j]) (hoi:ops[i]? = some oi) (hwi:Region.wanted oi (yielded ops a.tmps)=true) (hoj:ops[j]? = some oj) (hwj:Region.wanted oj (yielded ops a.tmps)=true)
  (h1:∀ K:Act->World->Prop,(∀ a' w',((i<fin->S w')/\bJ P md ops Q S fin fuel (listed.setIfInBounds i true) a' w')->K a' w')->Oper.wp P oi a w K Q)
  (h2:∀ K:Act->World->Prop,(∀ a' w',((j<fin->S w')/\bJ P md ops Q S fin fuel (listed.setIfInBounds j true) a' w')->K a' w')->Oper.wp P oj a w K Q):bJ P md ops Q S fin (fuel+1) listed a w :=
 ⟨fun h0=>(by rw [hr] at h0;cases h0),fun q hq=>by
  rw [hr] at hq
  simp at hq
  rcases hq with rfl | rfl
  ·unfold wpOp
   simp only [hoi,hwi,if_true]
   exact .inl (h1 _ fun _ _ x=>x)
  ·unfold wpOp
   simp only [hoj,hwj,if_true]
   exact .inl (h2 _ fun _ _ x=>x)⟩
theorem bJ.done {listed:Array Bool} {a:Act} {w:World} (hr:Region.ready md ops listed=[]) (h:Q .normal a w):∀ fuel,bJ P md ops Q S fin fuel listed a w
 | 0=>⟨hr,h⟩
 | _+1=>⟨fun _=>h,fun i hi=>by rw [hr] at hi;cases hi⟩
theorem bJ.begin {id:Nat} {a:Act} {w:World} (hm:P.follows .mixedOrders=true) (h:bJ P .any ops Q S fin ops.size (Array.replicate ops.size false) a w.drew):(Code.region id ops true).wp P Q a w :=
 wp_region_any hm (bJ.any _ _ _ _ h)
theorem bJ.weaken {fin':Nat}:∀ (fuel:Nat) (listed:Array Bool) (a:Act) (w:World),bJ P md ops Q S fin fuel listed a w->bJ P md ops Q (fun _=>True) fin' fuel listed a w
 | 0,_,_,_,h=>h
 | fuel+1,_,_,_,h=>⟨h.1,fun i hi=>wpOp_mono (fun a' w' k=>⟨fun _=>trivial,bJ.weaken fuel _ a' w' k.2⟩) (h.2 i hi)⟩
end
end Ev
end Go.Proofs.YtpbbmagjhkakgaaGreatDoor
