import Derived.Conc.CompanyMem
import Derived.Conc.Beside
import Derived.Conc.CrowdTrace
namespace Go.Proofs.YtpbbmagjhkakgaaGreatDoor.Lf
open Go Go.Conc
variable {P : Program} {main : Bool} {R : (Nat → Prop) → World → World → Prop} {D : (Nat → Prop) → World → World → Array Event → Prop}
def grow (S : Nat → Prop) (w w' : World) : Nat → Prop := fun b => S b ∨ (w.heap.size ≤ b ∧ b < w'.heap.size)
theorem grow_same (S : Nat → Prop) {w w' : World} (h : w'.heap.size = w.heap.size) : grow S w w' = S := by
  funext b
  exact propext ⟨fun h' => h'.elim id fun x => absurd x.2 (by omega), .inl⟩
@[simp] theorem grow_self (S : Nat → Prop) (w : World) : grow S w w = S := grow_same S rfl
structure TermsG (R : (Nat → Prop) → World → World → Prop) (D : (Nat → Prop) → World → World → Array Event → Prop) : Prop where
  trans : ∀ S a b c, R S a b → R S b c → R S a c
  idle : ∀ S w, D S w w #[]
  draw : ∀ S w, D S w { w with drawn := w.drawn + 1 } #[]
inductive RT (P : Program) (main : Bool) (R : (Nat → Prop) → World → World → Prop) (D : (Nat → Prop) → World → World → Array Event → Prop) (Stop : (Nat → Prop) → Goroutine → World → Prop) : (Nat → Prop) → Goroutine → World → Prop
  | stop {S : Nat → Prop} {g : Goroutine} {w : World} : (∀ w₁, R S w w₁ → Stop S g w₁) → RT P main R D Stop S g w
  | step {S : Nat → Prop} {g : Goroutine} {w : World} (f : World → Goroutine × World × Array Event) : g.status = .running → (∀ w₁, R S w w₁ → stepG P main g w₁ = .go (f w₁).1 (f w₁).2.1 (f w₁).2.2 ∧ D S w₁ (f w₁).2.1 (f w₁).2.2) →
      (∀ w₁, R S w w₁ → RT P main R D Stop (grow S w₁ (f w₁).2.1) (f w₁).1 (f w₁).2.1) → RT P main R D Stop S g w
theorem RT.one {Stop : (Nat → Prop) → Goroutine → World → Prop} {S : Nat → Prop} {g : Goroutine} {w : World} (hs : g.status = .running) (h : ∀ w₁, R S w w₁ → (stepG P main g w₁).goes fun g' w' es => D S w₁ w' es ∧ RT P main R D Stop (grow S w₁ w') g' w') : RT P main R D Stop S g w := by
  have key : ∀ w₁, R S w w₁ → ∃ x : Goroutine × World × Array Event, stepG P main g w₁ = .go x.1 x.2.1 x.2.2 ∧ D S w₁ x.2.1 x.2.2 ∧ RT P main R D Stop (grow S w₁ x.2.1) x.1 x.2.1 := by
    intro w₁ h₁
    have := h w₁ h₁
    revert this
    cases hx : stepG P main g w₁ <;> simp only [GStep.goes, false_imp_iff]
    rename_i g' w' es
    exact fun ⟨d, r⟩ => ⟨(g', w', es), rfl, d, r⟩
  have key' : ∀ w₁, ∃ x : Goroutine × World × Array Event, R S w w₁ → stepG P main g w₁ = .go x.1 x.2.1 x.2.2 ∧ D S w₁ x.2.1 x.2.2 ∧ RT P main R D Stop (grow S w₁ x.2.1) x.1 x.2.1 := by
    intro w₁
    by_cases hr : R S w w₁
    · obtain ⟨x, hx⟩ := key w₁ hr; exact ⟨x, fun _ => hx⟩
    · exact ⟨(g, w, #[]), fun h => absurd h hr⟩
  refine .step (fun w₁ => Classical.choose (key' w₁)) hs (fun w₁ h₁ => ?_) (fun w₁ h₁ => ?_)
  · exact ⟨(Classical.choose_spec (key' w₁) h₁).1, (Classical.choose_spec (key' w₁) h₁).2.1⟩
  · exact (Classical.choose_spec (key' w₁) h₁).2.2
theorem RT.rely (T : TermsG R D) {Stop : (Nat → Prop) → Goroutine → World → Prop} {S : Nat → Prop} {g : Goroutine} {w w₁ : World} (h : RT P main R D Stop S g w) (hr : R S w w₁) : RT P main R D Stop S g w₁ := by
  cases h with
  | stop h => exact .stop fun w₂ h₂ => h w₂ (T.trans _ _ _ _ hr h₂)
  | step f hs h h' => exact .step f hs (fun w₂ h₂ => h w₂ (T.trans _ _ _ _ hr h₂)) (fun w₂ h₂ => h' w₂ (T.trans _ _ _ _ hr h₂))
section
variable {Stop : (Nat → Prop) → Goroutine → World → Prop} {S : Nat → Prop} {b : Frame} {a : Act} {k : List Item} {cs : List Frame} {w : World}
theorem RT.skip (T : TermsG R D) (h : RT P main R D Stop S (G (b.at a k) cs) w) : RT P main R D Stop S (G (b.at a (.code .skip :: k)) cs) w := .one rfl fun w₁ h₁ => by rw [stepG_skip]; rw [goes_go, grow_self]; exact ⟨T.idle _ _, h.rely T h₁⟩
theorem RT.seq (T : TermsG R D) {x y : Code} (h : RT P main R D Stop S (G (b.at a (.code x :: .code y :: k)) cs) w) : RT P main R D Stop S (G (b.at a (.code (.seq x y) :: k)) cs) w := .one rfl fun w₁ h₁ => by rw [stepG_seq]; rw [goes_go, grow_self]; exact ⟨T.idle _ _, h.rely T h₁⟩
theorem RT.cond (T : TermsG R D) {c : Operand} {x y : Code} (t : Bool) (hc : a.eval c = .bool t) (h : RT P main R D Stop S (G (b.at a (.code (if t then x else y) :: k)) cs) w) : RT P main R D Stop S (G (b.at a (.code (.cond c x y) :: k)) cs) w := .one rfl fun w₁ h₁ => by rw [stepG_cond hc]; rw [goes_go, grow_self]; exact ⟨T.idle _ _, h.rely T h₁⟩
theorem RT.block (T : TermsG R D) {id : Nat} {c : Code} (h : RT P main R D Stop S (G (b.at a (.code c :: .inBlock id :: k)) cs) w) : RT P main R D Stop S (G (b.at a (.code (.block id c) :: k)) cs) w := .one rfl fun w₁ h₁ => by rw [stepG_block]; rw [goes_go, grow_self]; exact ⟨T.idle _ _, h.rely T h₁⟩
theorem RT.inBlock (T : TermsG R D) {id : Nat} (h : RT P main R D Stop S (G (b.at a k) cs) w) : RT P main R D Stop S (G (b.at a (.inBlock id :: k)) cs) w := .one rfl fun w₁ h₁ => by rw [stepG_inBlock]; rw [goes_go, grow_self]; exact ⟨T.idle _ _, h.rely T h₁⟩
theorem RT.loop (T : TermsG R D) {c : Code} (h : RT P main R D Stop S (G (b.at a (.code c :: .inLoop c :: k)) cs) w) : RT P main R D Stop S (G (b.at a (.code (.loop c) :: k)) cs) w := .one rfl fun w₁ h₁ => by rw [stepG_loop]; rw [goes_go, grow_self]; exact ⟨T.idle _ _, h.rely T h₁⟩
theorem RT.inLoop (T : TermsG R D) {c : Code} (h : RT P main R D Stop S (G (b.at a (.code c :: .inLoop c :: k)) cs) w) : RT P main R D Stop S (G (b.at a (.inLoop c :: k)) cs) w := .one rfl fun w₁ h₁ => by rw [stepG_inLoop]; rw [goes_go, grow_self]; exact ⟨T.idle _ _, h.rely T h₁⟩
theorem RT.exit (T : TermsG R D) {id : Nat} {k' : List Item} (hk : exitTo id k = some k') (h : RT P main R D Stop S (G (b.at a k') cs) w) : RT P main R D Stop S (G (b.at a (.code (.exit id) :: k)) cs) w := .one rfl fun w₁ h₁ => by rw [stepG_exit hk]; rw [goes_go, grow_self]; exact ⟨T.idle _ _, h.rely T h₁⟩
theorem RT.ret (T : TermsG R D) (h : RT P main R D Stop S (G { b.at a (.code .ret :: k) with mode := .returning } cs) w) : RT P main R D Stop S (G (b.at a (.code .ret :: k)) cs) w := .one rfl fun w₁ h₁ => by rw [stepG_ret']; rw [goes_go, grow_self]; exact ⟨T.idle _ _, h.rely T h₁⟩
theorem RT.ends (T : TermsG R D) (h : RT P main R D Stop S (G { b.at a [] with mode := .returning } cs) w) : RT P main R D Stop S (G (b.at a []) cs) w := .one rfl fun w₁ h₁ => by rw [stepG_end]; rw [goes_go, grow_self]; exact ⟨T.idle _ _, h.rely T h₁⟩
theorem RT.region (T : TermsG R D) {id : Nat} {ops : Array Oper} (h : RT P main R D Stop S (G (b.at a (.inRegion ops (List.range ops.size) :: k)) cs) w) : RT P main R D Stop S (G (b.at a (.code (.region id ops false) :: k)) cs) w := .one rfl fun w₁ h₁ => by rw [stepG_region]; rw [goes_go, grow_self]; exact ⟨T.idle _ _, h.rely T h₁⟩
theorem RT.nil (T : TermsG R D) {ops : Array Oper} (h : RT P main R D Stop S (G (b.at a k) cs) w) : RT P main R D Stop S (G (b.at a (.inRegion ops [] :: k)) cs) w := .one rfl fun w₁ h₁ => by rw [stepG_region_end]; rw [goes_go, grow_self]; exact ⟨T.idle _ _, h.rely T h₁⟩
theorem RT.draw (T : TermsG R D) {id : Nat} {ops : Array Oper} (h : ∀ w₁, R S w w₁ → ∀ t, RT P main R D Stop S (G (b.at a (.inRegion ops (Region.schedule (P.follows .mixedOrders) ops t) :: k)) cs) { w₁ with drawn := w₁.drawn + 1 }) : RT P main R D Stop S (G (b.at a (.code (.region id ops true) :: k)) cs) w := .one rfl fun w₁ h₁ => by rw [stepG_region_draw]; rw [goes_go, grow_same S (w := w₁) (w' := { w₁ with drawn := w₁.drawn + 1 }) rfl]; exact ⟨T.draw _ _, h w₁ h₁ _⟩
theorem RT.op {ops : Array Oper} {i : Nat} {rest : List Nat} {o : Oper} (ho : ops[i]? = some o) (hw : Region.wanted o (yielded ops a.tmps) = true) (hk : b.kind ≠ .early)
    (h : ∀ w₁, R S w w₁ → ∀ K : Act → World → Prop, (∀ a' w', D S w₁ w' (listed P b.fn a o w₁) ∧ RT P main R D Stop (grow S w₁ w') (G (b.at a' (.inRegion ops rest :: k)) cs) w' → K a' w') → uponK o a K ((execOp a.eval o).run P w₁)) :
    RT P main R D Stop S (G (b.at a (.inRegion ops (i :: rest) :: k)) cs) w := by
  refine .one rfl fun w₁ h₁ => goes_oper ho hw hk ?_
  have := h w₁ h₁ _ (fun _ _ x => x)
  revert this
  cases (execOp a.eval o).run P w₁ with
  | ok x w' => cases x <;> first | exact fun ⟨d, g⟩ => ⟨d, g⟩ | exact id
  | halt _ _ => exact id
def RCalls (P : Program) (main : Bool) (R : (Nat → Prop) → World → World → Prop) (D : (Nat → Prop) → World → World → Array Event → Prop) (f : FuncId) (args : Array Value) (S : Nat → Prop) (w : World) (Post : Value → (Nat → Prop) → World → Prop) : Prop :=
  ∀ (Stop : (Nat → Prop) → Goroutine → World → Prop) (c : Frame) (cs : List Frame), (∀ v S' w', Post v S' w' → RT P main R D Stop S' (G (c.finish v) cs) w') → RT P main R D Stop S (G (Frame.enter P f args .normal) (c :: cs)) w
theorem RCalls.mono {f : FuncId} {args : Array Value} {S : Nat → Prop} {w : World} {Post Post' : Value → (Nat → Prop) → World → Prop} (h : RCalls P main R D f args S w Post) (hp : ∀ v S w, Post v S w → Post' v S w) : RCalls P main R D f args S w Post' :=
  fun Stop c cs hk => h Stop c cs fun v S' w' x => hk v S' w' (hp v S' w' x)
theorem RT.call (T : TermsG R D) {ops : Array Oper} {i : Nat} {rest : List Nat} {o : Oper} {f : FuncId} {fn : Func} {args : Array Operand} {ats : Array TypeId} {Post : Value → (Nat → Prop) → World → Prop} (ho : ops[i]? = some o) (hw : Region.wanted o (yielded ops a.tmps) = true) (hk : b.kind ≠ .early) (hop : o.op = .call { callee := .value (.func f), args, argTypes := ats })
    (hf : P.funcs[f]? = some fn) (hname : (fn.name == "runtime.NumGoroutine") = false) (hb : fn.body.isNone = false)
    (hcall : ∀ w₁, R S w w₁ → RCalls P main R D f (args.map a.eval) S w₁ Post) (hnext : ∀ v S' w', Post v S' w' → RT P main R D Stop S' (G (b.at (a.put o.dst v) (.inRegion ops rest :: k)) cs) w') :
    RT P main R D Stop S (G (b.at a (.inRegion ops (i :: rest) :: k)) cs) w := by
  have hfin : ∀ v, (b.at a (.inRegion ops (i :: rest) :: k)).finish v = b.at (a.put o.dst v) (.inRegion ops rest :: k) := fun v => by rw [Frame.finish_at, ho]; rfl
  refine .one rfl fun w₁ h₁ => ?_
  have hl : listed P b.fn a o w₁ = #[] := by unfold listed; rw [events_call_body hop hf hname hb]; exact seen_none P _
  rw [stepG_enter ho hw hk (run_call_body hop hf hname hb), hl]
  refine ⟨T.idle _ _, by rw [grow_self]; exact hcall w₁ h₁ Stop _ cs fun v S' w' x => by rw [hfin]; exact hnext v S' w' x⟩
theorem stepG_leaveE {fn : Func} {todo : List Item} {c : Frame} {v : Value} (hn : b.kind = .normal) (hd : a.defers = []) (hf : P.funcs[b.fn]? = some fn) (hr : (results fn a.tmps).run P w = .ok v w) :
    stepG P main (G { b.at a todo with mode := .returning } (c :: cs)) w = .go (G (c.finish v) cs) w (seen P b.fn ((results fn a.tmps).events P w #[])) := by
  simp [G, stepG, unwind, doReturn, Frame.at, hn, hd, hf, hr, GStep.after]
theorem RT.leave (T : TermsG R D) {fn : Func} {todo : List Item} {c : Frame} {v : Value} (hn : b.kind = .normal) (hd : a.defers = []) (hf : P.funcs[b.fn]? = some fn) (hr : ∀ w₁, R S w w₁ → (results fn a.tmps).run P w₁ = .ok v w₁ ∧ D S w₁ w₁ (seen P b.fn ((results fn a.tmps).events P w₁ #[])))
    (h : RT P main R D Stop S (G (c.finish v) cs) w) : RT P main R D Stop S (G { b.at a todo with mode := .returning } (c :: cs)) w :=
  .one rfl fun w₁ h₁ => by rw [stepG_leaveE hn hd hf (hr w₁ h₁).1]; rw [goes_go, grow_self]; exact ⟨(hr w₁ h₁).2, h.rely T h₁⟩
end
end Go.Proofs.YtpbbmagjhkakgaaGreatDoor.Lf
namespace Go.Proofs.YtpbbmagjhkakgaaGreatDoor.Lf
open Go Go.Conc
structure TI (hc : Prop) (κ B : Nat) (CA CB : Touch → Prop) (t : Trace) : Prop where
  clean : ∀ said, ¬ Race said t
  zero : ∀ i a, touchAt t i = some a → a.loc.isMemory = true → Knows t 0 i ∨ (t.g? i = some κ ∧ CB a)
  child : ∀ i a, touchAt t i = some a → a.loc.isMemory = true → Knows t κ i ∨ CA a
  over : ∀ i g, t.g? i = some g → g ≠ 0 → g ≠ κ → t.counts i → ∃ j, t.g? j = some 0 ∧ HappensBefore t i j
  hears : Deaf t 0 = 0
  hearsC : hc → Deaf t κ = 0
  seen : ∀ op ∈ t, op.act.low B
def ApartT (CA CB : Touch → Prop) : Prop := ∀ a b said, CA a → CB b → ¬ a.conflicts said b ∧ ¬ b.conflicts said a
section
variable {hc : Prop} {κ B : Nat} {CA CB : Touch → Prop} {t u : Trace}
theorem TI.mono {B' : Nat} {CA' CB' : Touch → Prop} (h : TI hc κ B CA CB t) (hB : B ≤ B') (h1 : ∀ a, CA a → CA' a) (h2 : ∀ a, CB a → CB' a) : TI hc κ B' CA' CB' t :=
  ⟨h.clean, fun i a x y => (h.zero i a x y).imp id fun z => ⟨z.1, h2 _ z.2⟩, fun i a x y => (h.child i a x y).imp id (h1 _), h.over, h.hears, h.hearsC, fun op hop => MemAct.low_mono hB (h.seen op hop)⟩
theorem over_app {t u : Trace} {κ : Nat} (h : ∀ i g, t.g? i = some g → g ≠ 0 → g ≠ κ → t.counts i → ∃ j, t.g? j = some 0 ∧ HappensBefore t i j) (hu : ∀ op ∈ u, op.g = 0 ∨ op.g = κ ∨ op.act.touch? = none) :
    ∀ i g, (t ++ u).g? i = some g → g ≠ 0 → g ≠ κ → (t ++ u).counts i → ∃ j, (t ++ u).g? j = some 0 ∧ HappensBefore (t ++ u) i j := by
  intro i g hg hne hk hc
  obtain ⟨x, hx, _⟩ := hc
  obtain ⟨op, hop, hox⟩ := touch_of hx
  rcases getElem?_append_cases hop with ⟨hi, hop'⟩ | ⟨_, hopu⟩
  · obtain ⟨j, hj, hb⟩ := h i g (by simpa [Trace.g?, getElem?_append_old hi] using hg) hne hk ((counts_old hi).1 ⟨x, hx, ‹_›⟩)
    have hjl : j < t.size := by
      unfold Trace.g? at hj
      obtain ⟨z, hz, _⟩ := Option.map_eq_some_iff.1 hj
      exact lt_size_of_getElem? hz
    exact ⟨j, by simpa [Trace.g?, getElem?_append_old hjl] using hj, hb_app u hb⟩
  · have hgo : op.g = g := by simpa [Trace.g?, hop] using hg
    rcases hu op hopu with h0 | h0 | h0
    · exact absurd (hgo.symm.trans h0) hne
    · exact absurd (hgo.symm.trans h0) hk
    · rw [h0] at hox; cases hox
theorem g?_lt {t : Trace} {i g : Nat} (h : t.g? i = some g) : i < t.size := by
  unfold Trace.g? at h
  obtain ⟨z, hz, _⟩ := Option.map_eq_some_iff.1 h
  exact lt_size_of_getElem? hz
theorem g?_app {t u : Trace} {i g : Nat} (h : t.g? i = some g) : (t ++ u).g? i = some g := by rw [g?_old (g?_lt h)]; exact h
theorem TI.weak (h : TI hc κ B CA CB t) : TI False κ B CA CB t := ⟨h.clean, h.zero, h.child, h.over, h.hears, fun x => x.elim, h.seen⟩
theorem TI.app0 (hκ : κ ≠ 0) (hA : ApartT CA CB) (h : TI hc κ B CA CB t) (hu : ∀ op ∈ u, op.g = 0) (hcl : ∀ op ∈ u, ∀ b, op.act.touch? = some b → b.loc.isMemory = true → CA b) (hd : Deaf (t ++ u) 0 = 0) (hl : ∀ op ∈ u, op.act.low B) : TI hc κ B CA CB (t ++ u) := by
  refine ⟨fun said => noRace_append (h.clean said) hu fun i a ha op hop b hb hcf => ?_, fun i a ha hm => ?_, fun i a ha hm => ?_, over_app h.over fun op hop => .inl (hu op hop), hd, fun x => (Deaf_other t (Ne.symm hκ) u hu).trans (h.hearsC x), seen_app h.seen hl⟩
  · rcases h.zero i a ha hcf.2.1 with hk | ⟨_, hb'⟩
    · exact hk
    · exact absurd hcf (hA b a said (hcl op hop b hb (hcf.1 ▸ hcf.2.1)) hb').2
  · obtain ⟨x, hx, hxa⟩ := touch_of ha
    rcases getElem?_append_cases hx with ⟨_, hx'⟩ | ⟨_, hxu⟩
    · exact (h.zero i a (by rw [touchAt_of hx']; exact hxa) hm).imp (·.app u) fun z => ⟨g?_app z.1, z.2⟩
    · have := knows_own hx
      rw [hu x hxu] at this
      exact .inl this
  · obtain ⟨x, hx, hxa⟩ := touch_of ha
    rcases getElem?_append_cases hx with ⟨_, hx'⟩ | ⟨_, hxu⟩
    · exact (h.child i a (by rw [touchAt_of hx']; exact hxa) hm).imp (·.app u) id
    · exact .inr (hcl x hxu a hxa hm)
theorem TI.appC (hκ : κ ≠ 0) (hA : ApartT CA CB) (h : TI hc κ B CA CB t) (hu : ∀ op ∈ u, op.g = κ) (hcl : ∀ op ∈ u, ∀ b, op.act.touch? = some b → b.loc.isMemory = true → CB b) (hd : hc → Deaf (t ++ u) κ = 0) (hl : ∀ op ∈ u, op.act.low B) : TI hc κ B CA CB (t ++ u) := by
  refine ⟨fun said => noRace_append (h.clean said) hu fun i a ha op hop b hb hcf => ?_, fun i a ha hm => ?_, fun i a ha hm => ?_, over_app h.over fun op hop => .inr (.inl (hu op hop)), (Deaf_other t hκ u hu).trans h.hears, hd, seen_app h.seen hl⟩
  · rcases h.child i a ha hcf.2.1 with hk | ha'
    · exact hk
    · exact absurd hcf (hA a b said ha' (hcl op hop b hb (hcf.1 ▸ hcf.2.1))).1
  · obtain ⟨x, hx, hxa⟩ := touch_of ha
    rcases getElem?_append_cases hx with ⟨_, hx'⟩ | ⟨_, hxu⟩
    · exact (h.zero i a (by rw [touchAt_of hx']; exact hxa) hm).imp (·.app u) fun z => ⟨g?_app z.1, z.2⟩
    · exact .inr ⟨by simp [Trace.g?, hx, hu x hxu], hcl x hxu a hxa hm⟩
  · obtain ⟨x, hx, hxa⟩ := touch_of ha
    rcases getElem?_append_cases hx with ⟨_, hx'⟩ | ⟨_, hxu⟩
    · exact (h.child i a (by rw [touchAt_of hx']; exact hxa) hm).imp (·.app u) id
    · have := knows_own hx
      rw [hu x hxu] at this
      exact .inl this
theorem TI.appMute (h : TI hc κ B CA CB t) (hn : ∀ op ∈ u, op.act.touch? = none) (hd0 : Deaf (t ++ u) 0 = 0) (hdκ : hc → Deaf (t ++ u) κ = 0) (hl : ∀ op ∈ u, op.act.low B) : TI hc κ B CA CB (t ++ u) := by
  refine ⟨fun said => ?_, fun i a ha hm => ?_, fun i a ha hm => ?_, over_app h.over fun op hop => .inr (.inr (hn op hop)), hd0, hdκ, seen_app h.seen hl⟩
  · rintro ⟨i, j, hij, ⟨a, b, ha, hb, hc⟩, n1, n2⟩
    obtain ⟨x, hx, hxa⟩ := touch_of ha
    obtain ⟨y, hy, hyb⟩ := touch_of hb
    rcases getElem?_append_cases hy with ⟨hj, hy'⟩ | ⟨_, hyu⟩
    · have hi : i < t.size := Nat.lt_trans hij hj
      have hx' : t[i]? = some x := by rw [← getElem?_append_old (u := u) hi]; exact hx
      exact h.clean said ⟨i, j, hij, ⟨a, b, by simp [Trace.act?, hx', hxa], by simp [Trace.act?, hy', hyb], hc⟩, fun e => n1 (hb_app u e), fun e => n2 (hb_app u e)⟩
    · rw [hn y hyu] at hyb; cases hyb
  · obtain ⟨x, hx, hxa⟩ := touch_of ha
    rcases getElem?_append_cases hx with ⟨_, hx'⟩ | ⟨_, hxu⟩
    · exact (h.zero i a (by rw [touchAt_of hx']; exact hxa) hm).imp (·.app u) fun z => ⟨g?_app z.1, z.2⟩
    · rw [hn x hxu] at hxa; cases hxa
  · obtain ⟨x, hx, hxa⟩ := touch_of ha
    rcases getElem?_append_cases hx with ⟨_, hx'⟩ | ⟨_, hxu⟩
    · exact (h.child i a (by rw [touchAt_of hx']; exact hxa) hm).imp (·.app u) id
    · rw [hn x hxu] at hxa; cases hxa
theorem TI.fork (h : Past (fun _ => False) B t) (hk : Deaf t κ = 0) {x y : MemOp} (hx : x.g = 0 ∧ x.act = .go κ) (hy : y.g = κ ∧ y.act = .start) : TI hc κ B CA CB (t ++ #[x, y]) := by
  have hn : ∀ op ∈ (#[x, y] : Trace), op.act.touch? = none := by
    intro op hop
    simp at hop
    rcases hop with rfl | rfl
    · rw [hx.2]; rfl
    · rw [hy.2]; rfl
  have hd : ∀ g, Deaf t g = 0 → Deaf (t ++ #[x, y]) g = 0 := by
    intro g hg
    have e : (t ++ #[x, y] : Trace) = t ++ [x, y].toArray := rfl
    rw [e, Deaf_append]
    simp [deafStep, hx.2, hy.2, hg]
  have base : TI hc κ B (fun _ => True) CB t := ⟨h.clean, fun i a ha hm => .inl ((h.known i a ha hm).resolve_right fun z => z.1.elim), fun _ _ _ _ => .inr trivial, fun i g h1 h2 _ h4 => h.over i g h1 h2 h4, h.hears, fun _ => hk, h.seen⟩
  have h2 := base.appMute hn (hd 0 h.hears) (fun _ => hd κ hk) (fun op hop => by
    simp at hop
    rcases hop with rfl | rfl
    · rw [hx.2]; trivial
    · rw [hy.2]; trivial)
  refine ⟨h2.clean, h2.zero, fun i a ha hm => ?_, h2.over, h2.hears, h2.hearsC, h2.seen⟩
  obtain ⟨z, hz, hza⟩ := touch_of ha
  rcases getElem?_append_cases hz with ⟨_, hz'⟩ | ⟨_, hzu⟩
  · exact .inl (Go.ConcN.fork_knows hx hy h.hears hk ((h.known i a (by rw [touchAt_of hz']; exact hza) hm).resolve_right fun z => z.1.elim))
  · rw [hn z hzu] at hza; cases hza
def Shut (κ c : Nat) (t : Trace) : Prop := ∃ pc, t.act? pc = some (.close c) ∧ t.g? pc = some κ ∧ t.heard pc ∧ ∀ i a, touchAt t i = some a → t.g? i = some κ → i < pc
theorem Shut.app {c : Nat} (h : Shut κ c t) (hu : ∀ op ∈ u, op.g = κ → op.act.touch? = none) : Shut κ c (t ++ u) := by
  obtain ⟨pc, h1, h2, h3, h4⟩ := h
  have hlt := g?_lt h2
  refine ⟨pc, by rw [act?_old hlt]; exact h1, g?_app h2, (heard_old hlt).2 h3, fun i a ha hg => ?_⟩
  obtain ⟨x, hx, hxa⟩ := touch_of ha
  rcases getElem?_append_cases hx with ⟨hi, hx'⟩ | ⟨_, hxu⟩
  · exact h4 i a (by rw [touchAt_of hx']; exact hxa) (by rw [g?_old hi] at hg; exact hg)
  · have : x.g = κ := by simpa [Trace.g?, hx] using hg
    rw [hu x hxu this] at hxa; cases hxa
theorem TI.join (hκ : κ ≠ 0) {c : Nat} (h : TI hc κ B CA CB t) (hs : Shut κ c t) {y : MemOp} (hy : y.g = 0 ∧ y.act = .recvClosed c) (hB : c < B) : Past (fun _ => False) B (t ++ #[y]) := by
  have hlast : (t ++ #[y])[t.size]? = some y := by rw [Array.getElem?_append_right (Nat.le_refl _)]; simp
  have hd : ∀ g, Deaf t g = 0 → Deaf (t ++ #[y]) g = 0 := by
    intro g hg
    rw [Deaf_push]
    simp [deafStep, hy.2, hg]
  have hn : ∀ op ∈ (#[y] : Trace), op.act.touch? = none := by
    intro op hop
    simp at hop
    subst hop
    rw [hy.2]; rfl
  have h2 := h.appMute hn (hd 0 h.hears) (fun x => hd κ (h.hearsC x)) (fun op hop => by simp at hop; subst hop; rw [hy.2]; exact hB)
  obtain ⟨pc, s1, s2, s3, s4⟩ := hs
  have hlt := g?_lt s2
  have edge : HappensBefore (t ++ #[y]) pc t.size := .single (.inr ⟨.closed (c := c) (by rw [act?_old hlt]; exact s1) (by rw [act?_of hlast, hy.2]), (heard_old hlt).2 s3, ⟨0, by simp [Trace.g?, hy.1], by rw [deaf_old (Nat.le_refl _)]; exact h.hears⟩⟩)
  have from_child : ∀ i a, touchAt (t ++ #[y]) i = some a → (t ++ #[y]).g? i = some κ → HappensBefore (t ++ #[y]) i t.size := by
    intro i a ha hg
    obtain ⟨x, hx, hxa⟩ := touch_of ha
    rcases getElem?_append_cases hx with ⟨hi, hx'⟩ | ⟨_, hxu⟩
    · have hip := s4 i a (by rw [touchAt_of hx']; exact hxa) (by rw [g?_old hi] at hg; exact hg)
      obtain ⟨z, hz, hzg⟩ := Option.map_eq_some_iff.1 (show (t[pc]?).map (·.g) = some κ from s2)
      have hxg : x.g = κ := by unfold Trace.g? at hg; rw [hx] at hg; exact Option.some.inj hg
      exact (hb_po hip hx (by rw [getElem?_append_old hlt]; exact hz) (hxg.trans hzg.symm)).trans edge
    · rw [hn x hxu] at hxa; cases hxa
  refine ⟨h2.clean, fun i a ha hm => ?_, fun i g hg hne hc => ?_, h2.hears, h2.seen⟩
  · rcases h2.zero i a ha hm with hk | ⟨hg, _⟩
    · exact .inl hk
    · exact .inl ⟨t.size, y, hlast, hy.1, .inr (from_child i a ha hg)⟩
  · by_cases hgk : g = κ
    · subst hgk
      obtain ⟨x, hx, _⟩ := hc
      exact ⟨t.size, by simp [Trace.g?, hy.1], from_child i x hx hg⟩
    · exact h2.over i g hg hne hgk hc
end
end Go.Proofs.YtpbbmagjhkakgaaGreatDoor.Lf
namespace Go.Proofs.YtpbbmagjhkakgaaGreatDoor.Lf
open Go Go.Conc
def re (w : World) (τ : Tape) (d : Nat) : World := { w with tape := τ, drawn := d }
def Alike (w : World) (m : Nat) (τ : Tape) (d : Nat) : Prop := ∀ j, j < m → τ (d + j) = w.tape (w.drawn + j)
theorem re_re (w : World) (τ τ' : Tape) (d d' : Nat) : re (re w τ d) τ' d' = re w τ' d' := rfl
theorem re_self (w : World) : re w w.tape w.drawn = w := rfl
theorem re_freeze (w : World) (τ : Tape) (d : Nat) (a : Addr) (n : Nat) : (re w τ d).freeze a n = re (w.freeze a n) τ d := by unfold World.freeze; split <;> rfl
def reX (τ : Tape) (d : Nat) : Except Halt (World × List Addr) → Except Halt (World × List Addr)
  | .ok (w, l) => .ok (re w τ d, l)
  | .error h => .error h
def reE (τ : Tape) (d : Nat) : Except String (World × List Addr) → Except String (World × List Addr)
  | .ok (w, l) => .ok (re w τ d, l)
  | .error h => .error h
theorem re_viewStore (p : Program) (w : World) (τ : Tape) (d : Nat) (at_ : Addr) (u : TypeId) (k : Addr) (v : Value) (b : Bool) :
    (re w τ d).viewStore p at_ u k v b = reE τ d (w.viewStore p at_ u k v b) := by
  unfold World.viewStore
  have hs : World.seen p (re w τ d) at_ u k b = World.seen p w at_ u k b := rfl
  rw [hs]
  simp only [re, bind, Except.bind, pure, Except.pure, MonadExcept.throw, throwThe, MonadExceptOf.throw]
  split
  · rfl
  · cases World.seen p w at_ u k b with
    | error e => rfl
    | ok x =>
      obtain ⟨c, e, frozen, first, like, cells⟩ := x
      simp only []
      split
      · split
        · rfl
        · split
          · rfl
          · rfl
      · rfl
theorem re_farStore (p : Program) (w : World) (τ : Tape) (d : Nat) (a : Addr) (v : Value) (b : Bool) :
    (re w τ d).farStore p a v b = reX τ d (w.farStore p a v b) := by
  unfold World.farStore
  have hh : (re w τ d).heap = w.heap := rfl
  have hn : (re w τ d).noCell a "store: no such cell" = w.noCell a "store: no such cell" := rfl
  rw [hh, hn]
  split
  · rename_i at_ u _
    rw [re_viewStore]
    cases World.viewStore p w at_ u a v b with
    | error e => rfl
    | ok x => rfl
  · rfl
theorem farStore_keeps {p : Program} {w w' : World} {a : Addr} {v : Value} {b : Bool} {t : List Addr} (h : w.farStore p a v b = .ok (w', t)) : w'.tape = w.tape ∧ w'.drawn = w.drawn := by
  have := re_farStore p w w.tape w.drawn a v b
  rw [re_self, h] at this
  simp only [reX, Except.ok.injEq, Prod.mk.injEq, and_true] at this
  rw [this]; exact ⟨rfl, rfl⟩
theorem ask_alike {α : Type} (a : Ask α) : ∀ w : World, ∃ m, (w.ask a).2 = re (w.ask a).2 w.tape (w.drawn + m) ∧
    ∀ τ d, Alike w m τ d → (re w τ d).ask a = ((w.ask a).1, re (w.ask a).2 τ (d + m)) := by
  induction a with
  | done a => exact fun w => ⟨0, rfl, fun τ d _ => rfl⟩
  | ask what range k ih =>
    intro w
    by_cases hf : (Question.extern what range).forced = true
    · obtain ⟨m, h1, h2⟩ := ih 0 w
      refine ⟨m, ?_, fun τ d h => ?_⟩
      · simp only [World.ask, hf, if_true]; exact h1
      · simp only [World.ask, hf, if_true]; exact h2 τ d h
    · obtain ⟨m, h1, h2⟩ := ih ((Question.extern what range).cut (w.tape w.drawn (.extern what range))) { w with drawn := w.drawn + 1 }
      refine ⟨m + 1, ?_, fun τ d h => ?_⟩
      · simp only [World.ask, hf, if_false, Bool.false_eq_true]
        rw [h1]
        simp only [re]
        congr 1; omega
      · simp only [World.ask, hf, if_false, Bool.false_eq_true]
        have h0 : τ d = w.tape w.drawn := by have := h 0 (by omega); simpa using this
        have := h2 τ (d + 1) (fun j hj => by have := h (j + 1) (by omega); simp only; rw [show d + 1 + j = d + (j + 1) by omega, this]; congr 1; omega)
        rw [show d + (m + 1) = d + 1 + m by omega, ← this]
        show World.ask _ (k ((Question.extern what range).cut (τ d (.extern what range)))) = _
        rw [h0]; rfl
def Ends : Halt → Bool
  | .panic _ | .goexit | .unsupported (.initOrder _) => false
  | _ => true
def Fit (P : Program) {α : Type} (L : α → Prop) : Nat → Sem α → Prop
  | d, .pure a => d = 0 ∧ L a
  | d, .load _ _ k => ∀ v, Fit P L d (k v)
  | d, .store _ _ _ k => Fit P L d k
  | d, .new _ k => ∀ n, Fit P L d (k n)
  | d, .shape _ k => ∀ s, Fit P L d (k s)
  | d, .freeze _ _ k => Fit P L d k
  | d, .frozen _ k => ∀ b, Fit P L d (k b)
  | d, .getObj _ k => ∀ o, Fit P L d (k o)
  | d, .setObj _ _ k => Fit P L d k
  | d, .choose _ k => ∀ n, Fit P L d (k n)
  | d, .sys _ k => (∃ h, k .wouldBlock = .halt h ∧ Ends h = true) ∧ ∀ r, Fit P L d (k r)
  | d, .program k => Fit P L d (k P)
  | d, .mark m k => Fit P L (match m with | .disable => d + 1 | .enable => d - 1 | _ => d) k
  | d, .halt h => d = 0 ∨ Ends h = true
theorem fit_bind {P : Program} {α β : Type} {L : α → Prop} {M : β → Prop} {f : α → Sem β} (hf : ∀ a, L a → Fit P M 0 (f a)) : ∀ {s : Sem α} {d : Nat}, Fit P L d s → Fit P M d (s.bind f) := by
  intro s
  induction s with
  | pure a => intro d h; obtain ⟨rfl, h⟩ := h; exact hf a h
  | load m a k ih => exact fun h v => ih v (h v)
  | store m a v k ih => exact fun h => ih h
  | new o k ih => exact fun h v => ih v (h v)
  | shape o k ih => exact fun h v => ih v (h v)
  | freeze a n k ih => exact fun h => ih h
  | frozen o k ih => exact fun h v => ih v (h v)
  | getObj o k ih => exact fun h v => ih v (h v)
  | setObj a n k ih => exact fun h => ih h
  | choose o k ih => exact fun h v => ih v (h v)
  | sys c k ih =>
    intro d h
    obtain ⟨⟨x, hx, he⟩, h⟩ := h
    exact ⟨⟨x, by show (k .wouldBlock).bind f = _; rw [hx]; rfl, he⟩, fun r => ih r (h r)⟩
  | program k ih => exact fun h => ih P h
  | mark m k ih => exact fun h => ih h
  | halt x => exact fun h => h
def reR {α : Type} (τ : Tape) (d : Nat) : Result α → Result α
  | .ok a w => .ok a (re w τ d)
  | .halt h w => .halt h (re w τ d)
def resOn {α : Type} : Result α → Bool
  | .ok _ _ => true
  | .halt h _ => !Ends h
theorem sys_alike {w : World} {c : Sys} (h : (w.sys c).1 ≠ .wouldBlock) : ∃ m, (w.sys c).2 = re (w.sys c).2 w.tape (w.drawn + m) ∧
    ∀ τ d, Alike w m τ d → (re w τ d).sys c = ((w.sys c).1, re (w.sys c).2 τ (d + m)) := by
  obtain ⟨m, h1, h2⟩ := ask_alike (Kernel.perform c w.os) w
  unfold World.sys at h ⊢
  have ho : ∀ τ d, (re w τ d).os = w.os := fun _ _ => rfl
  simp only [ho]
  generalize hx : w.ask (Kernel.perform c w.os) = x at h h1 h2 ⊢
  obtain ⟨⟨r, os⟩, w'⟩ := x
  refine ⟨m, ?_, fun τ d ha => ?_⟩
  · cases r <;> first | exact absurd rfl h | (simp only at h1 ⊢; rw [h1]; rfl)
  · rw [h2 τ d ha]
    cases r <;> first | exact absurd rfl h | rfl
theorem runT_alike (P : Program) {α : Type} {L : α → Prop} (s : Sem α) : ∀ (n : Nat) (w : World) (es : Array Event), Fit P L n s → resOn (s.runT P w es).1 = true →
    ∃ m, (s.runT P w es).1 = reR w.tape (w.drawn + m) (s.runT P w es).1 ∧ ∀ τ d, Alike w m τ d → s.runT P (re w τ d) es = (reR τ (d + m) (s.runT P w es).1, (s.runT P w es).2) := by
  induction s with
  | pure a => exact fun n w es _ _ => ⟨0, rfl, fun τ d _ => rfl⟩
  | load m a k ih =>
    intro n w es hf ho
    have hc : ∀ τ d, (re w τ d).cell? a = w.cell? a := fun _ _ => rfl
    have hl : ∀ τ d b, (re w τ d).farLoad P a b = w.farLoad P a b := fun _ _ _ => rfl
    simp only [Sem.runT, hc, hl] at ho ⊢
    cases hw : w.cell? a with
    | some v => simp only [hw] at ho ⊢; exact ih v n w _ (hf v) ho
    | none =>
      simp only [hw] at ho ⊢
      cases hx : w.farLoad P a (m == .atomic) with
      | ok x => obtain ⟨v, t⟩ := x; simp only [hx] at ho ⊢; exact ih v n w _ (hf v) ho
      | error e => simp only [hx] at ho ⊢; exact ⟨0, rfl, fun τ d _ => rfl⟩
  | store m a v k ih =>
    intro n w es hf ho
    cases v with
    | agg x => exact ⟨0, rfl, fun τ d _ => rfl⟩
    | tuple x => exact ⟨0, rfl, fun τ d _ => rfl⟩
    | _ =>
      have hc : ∀ τ d, (re w τ d).cell? a = w.cell? a := fun _ _ => rfl
      have hz : ∀ τ d, (re w τ d).frozen? a = w.frozen? a := fun _ _ => rfl
      simp only [Sem.runT, hc, hz, re_farStore] at ho ⊢
      cases hw : w.cell? a with
      | some u =>
        simp only [hw] at ho ⊢
        split at ho
        · rename_i hz1; simp only [hz1, if_true]; exact ⟨0, rfl, fun τ d _ => rfl⟩
        · rename_i hz1
          simp only [hz1, if_false, Bool.false_eq_true] at ho ⊢
          exact ih n _ _ hf ho
      | none =>
        simp only [hw] at ho ⊢
        cases hx : w.farStore P a _ (m == Mode.atomic) with
        | ok x =>
          obtain ⟨w', t⟩ := x
          simp only [hx, reX] at ho ⊢
          obtain ⟨e1, e2⟩ := farStore_keeps hx
          obtain ⟨m', h1, h2⟩ := ih n w' _ hf ho
          rw [e1, e2] at h1
          refine ⟨m', h1, fun τ d ha => h2 τ d fun j hj => ?_⟩
          rw [e1, e2]; exact ha j hj
        | error e => simp only [hx, reX] at ho ⊢; exact ⟨0, rfl, fun τ d _ => rfl⟩
  | new o k ih => exact fun n w es hf ho => ih w.heap.size n _ es (hf _) ho
  | shape r k ih => exact fun n w es hf ho => ih (w.shape? r) n w es (hf _) ho
  | freeze a c k ih =>
    intro n w es hf ho
    simp only [Sem.runT, re_freeze] at ho ⊢
    have e1 : (w.freeze a c).tape = w.tape := by unfold World.freeze; split <;> rfl
    have e2 : (w.freeze a c).drawn = w.drawn := by unfold World.freeze; split <;> rfl
    obtain ⟨m', h1, h2⟩ := ih n (w.freeze a c) es hf ho
    rw [e1, e2] at h1
    refine ⟨m', h1, fun τ d ha => h2 τ d fun j hj => ?_⟩
    rw [e1, e2]; exact ha j hj
  | frozen a k ih => exact fun n w es hf ho => ih (w.frozen? a) n w es (hf _) ho
  | getObj r k ih =>
    intro n w es hf ho
    have hh : ∀ τ d, (re w τ d).heap = w.heap := fun _ _ => rfl
    simp only [Sem.runT, hh] at ho ⊢
    cases hw : w.heap[r]? with
    | none => simp only [hw] at ho ⊢; exact ⟨0, rfl, fun τ d _ => rfl⟩
    | some o =>
      cases o with
      | cells c t z => simp only [hw] at ho ⊢; exact ⟨0, rfl, fun τ d _ => rfl⟩
      | _ => simp only [hw] at ho ⊢; exact ih _ n w _ (hf _) ho
  | setObj r o k ih =>
    intro n w es hf ho
    have hh : ∀ τ d, (re w τ d).heap = w.heap := fun _ _ => rfl
    simp only [Sem.runT, hh] at ho ⊢
    cases hw : w.heap[r]? with
    | none => simp only [hw] at ho ⊢; exact ⟨0, rfl, fun τ d _ => rfl⟩
    | some x =>
      cases x with
      | cells c t z => simp only [hw] at ho ⊢; exact ⟨0, rfl, fun τ d _ => rfl⟩
      | _ => simp only [hw] at ho ⊢; exact ih n _ _ hf ho
  | choose q k ih =>
    intro n w es hf ho
    simp only [Sem.runT] at ho ⊢
    by_cases hq : q.forced = true
    · simp only [hq, if_true] at ho ⊢; exact ih 0 n w es (hf _) ho
    · simp only [hq, if_false, Bool.false_eq_true] at ho ⊢
      obtain ⟨m', h1, h2⟩ := ih (q.cut (w.tape w.drawn q)) n { w with drawn := w.drawn + 1 } es (hf _) ho
      refine ⟨m' + 1, ?_, fun τ d ha => ?_⟩
      · rw [show w.drawn + (m' + 1) = w.drawn + 1 + m' by omega]; exact h1
      · have h0 : τ d = w.tape w.drawn := by have := ha 0 (by omega); simpa using this
        have := h2 τ (d + 1) (fun j hj => by have := ha (j + 1) (by omega); simp only; rw [show d + 1 + j = d + (j + 1) by omega, this]; congr 1; omega)
        rw [show d + (m' + 1) = d + 1 + m' by omega, ← this]
        show Sem.runT P (k (q.cut (τ d q))) _ es = _
        rw [h0]; rfl
  | sys c k ih =>
    intro n w es hf ho
    obtain ⟨⟨x, hx, he⟩, hf⟩ := hf
    simp only [Sem.runT] at ho ⊢
    by_cases hb : (w.sys c).1 = .wouldBlock
    · rw [hb, hx] at ho
      simp [Sem.runT, resOn, he] at ho
    · obtain ⟨m, h1, h2⟩ := sys_alike hb
      obtain ⟨m', h3, h4⟩ := ih (w.sys c).1 n (w.sys c).2 _ (hf _) ho
      have e1 : (w.sys c).2.tape = w.tape := by rw [h1]; rfl
      have e2 : (w.sys c).2.drawn = w.drawn + m := by rw [h1]; rfl
      refine ⟨m + m', ?_, fun τ d ha => ?_⟩
      · rw [e1, e2] at h3; rw [← Nat.add_assoc]; exact h3
      · rw [h2 τ d fun j hj => ha j (by omega)]
        simp only
        rw [h4 τ (d + m) fun j hj => ?_]
        · rw [Nat.add_assoc]
        · rw [e1, e2]; have := ha (m + j) (by omega); rw [← Nat.add_assoc] at this; rw [this, ← Nat.add_assoc]
  | program k ih => exact fun n w es hf ho => ih P n w es hf ho
  | mark m k ih => exact fun n w es hf ho => ih _ w _ hf ho
  | halt h => exact fun n w es hf ho => ⟨0, rfl, fun τ d _ => rfl⟩
end Go.Proofs.YtpbbmagjhkakgaaGreatDoor.Lf
