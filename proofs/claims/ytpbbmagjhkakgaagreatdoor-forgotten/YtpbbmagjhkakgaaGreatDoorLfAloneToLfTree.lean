import Derived.Test.YtpbbmagjhkakgaaGreatDoorLfUnwindToLfComm
namespace Go.Proofs.YtpbbmagjhkakgaaGreatDoor.Lf
open Go Go.Conc
variable {P : Program}
structure Fine (g : Goroutine) : Prop where
 ok : okG g
 status : g.status = .running
 dying : g.dying = none
 offers : g.offers = none
structure Lost (g : Goroutine) : Prop where
 ok : okG g
 awake : ∀ t, g.status ≠ .sleeping t
 lost : g.dying ≠ none ∨ g.status ≠ .running
structure Alone (P : Program) (g : Goroutine) (w : World) (g' : Goroutine) (w' : World) (ops : Array MemOp) : Prop where
 own : ∀ op ∈ ops, op.g = 0
 hears : ∀ t, Deaf t 0 = 0 → Deaf (t ++ ops) 0 = 0
 alike : ∃ m, w' = re w' w.tape (w.drawn + m) ∧ ∀ τ d, Alike w m τ d → stepT P (solo g (re w τ d)) = (.next (solo g' (re w' τ (d + m))), ops)
 beside : ∀ (gs : Array Goroutine) (sl : Option (Nat × Nat)), gs[0]? = some g → (∀ i x, 0 < i → gs[i]? = some x → x.status = .running ∨ x.status = .finished) →
  ∃ f : Goroutine → Goroutine, (∀ x, (x.status = .running ∨ x.status = .finished) → f x = x) ∧ runT P (crowd gs w sl) 0 = (.next (crowd ((gs.map f).setIfInBounds 0 g') w' sl), ops)
theorem noP_stand {gs : Array Goroutine} (h : ∀ i x, 0 < i → gs[i]? = some x → x.status = .running ∨ x.status = .finished) : NoP (gs.setIfInBounds 0 ph) := by
 intro r s
 refine partners_nil fun j x hx => ?_
 rcases getElem?_stand gs 0 j x hx with ⟨_, rfl⟩ | ⟨hj, hx⟩
 ·exact offersAt_ph r s
 ·refine offersAt_of_not_blocked ?_ r s
  rcases h j x (by omega) hx with h | h <;> rw [h] <;> simp
theorem Deaf_acts (t : Trace) (fn : FuncId) (pos : String) (acts : Array MemAct) (h : ∀ a ∈ acts, ∀ m, a ≠ .mark m) : Deaf (t ++ acts.map fun a => { g := 0, fn, pos, act := a }) 0 = Deaf t 0 := by
 obtain ⟨l⟩ := acts
 induction l generalizing t with
 | nil => simp
 | cons a l ih =>
  have h1 := ih (t ++ #[{ g := 0, fn, pos, act := a }]) (fun x hx => h x (by simp at hx ⊢; exact .inr hx))
  have e : (t ++ (Array.map (fun a => ({ g := 0, fn, pos, act := a } : MemOp)) ⟨a :: l⟩)) = t ++ #[{ g := 0, fn, pos, act := a }] ++ Array.map (fun a => ({ g := 0, fn, pos, act := a } : MemOp)) ⟨l⟩ := by
   rw [Array.append_assoc]; simp
  rw [e, h1]
  show Trace.deaf _ 0 _ = Trace.deaf t 0 t.size
  have hne := h a (by simp)
  rw [Array.size_append]
  have hlast : (t ++ #[({ g := 0, fn, pos, act := a } : MemOp)])[t.size]? = some { g := 0, fn, pos, act := a } := by rw [Array.getElem?_append_right (Nat.le_refl _)]; simp
  have hold : ∀ n, n ≤ t.size → Trace.deaf (t ++ #[({ g := 0, fn, pos, act := a } : MemOp)]) 0 n = Trace.deaf t 0 n := by
   intro n
   induction n with
   | zero => intro _; rfl
   | succ n ihn =>
    intro hn
    unfold Trace.deaf
    rw [getElem?_append_old (by omega), ihn (by omega)]
  rw [← hold t.size (Nat.le_refl _)]
  show Trace.deaf (t ++ #[_]) 0 (t.size + 1) = _
  rw [Trace.deaf]
  rw [hlast]
  split
  ·rename_i h1; simp only [Option.some.injEq, MemOp.mk.injEq] at h1; exact absurd h1.2.2.2 (hne _)
  ·rename_i h1; simp only [Option.some.injEq, MemOp.mk.injEq] at h1; exact absurd h1.2.2.2 (hne _)
  ·rfl
theorem solo_step (hP : Plain P) {g : Goroutine} (hg : okG g) (hs : g.status = .running) {w : World} {m' : Machine} {ops : Array MemOp} (h : stepT P (solo g w) = (.next m', ops)) :
  2 ≤ m'.gs.size ∨ ∃ g' w', m' = solo g' w' ∧ (Lost g' ∨ (g.dying = none ∧ (g.offers = none → Fine g' ∧ Alone P g w g' w' ops))) := by
 rw [stepT_solo hs] at h
 have hl := local_stepG hP hg w
 unfold Local at hl
 dsimp only at hl
 cases hx : stepG P true g w with
 | go g' w' es =>
  rw [hx] at hl
  obtain ⟨h1, h2, h3, h4, h5⟩ := hl
  rw [runT_solo_go hx] at h
  simp only [Prod.mk.injEq, Stepped.next.injEq] at h
  obtain ⟨rfl, rfl⟩ := h
  refine .inr ⟨g', w', rfl, ?_⟩
  by_cases hf : g'.dying = none ∧ g'.status = .running
  ·obtain ⟨h6, h7, m, h8, h9⟩ := h5 hf.1 hf.2
   refine .inr ⟨?_, fun ho => ⟨⟨h1, hf.2, hf.1, h6⟩, ⟨?_, ?_, ⟨m, h8, fun τ d ha => ?_⟩, ?_⟩⟩⟩
   ·cases hd : g.dying with
    | none => rfl
    | some d => exact absurd hf.1 (h2 (by rw [hd]; rfl))
   ·intro op hop; obtain ⟨e, _, rfl⟩ := Go.Conc.mem_ofEvents hop; rfl
   ·intro t ht; rw [Deaf_own, ht]; exact h7
   ·rw [stepT_solo hs, runT_solo_go (h9 τ d ha)]
   ·intro gs sl h0 hq
    refine ⟨woken P g g' w', fun x hx => ?_, runT_crowd_go h0 hx⟩
    unfold woken
    split
    ·exact again_running _ hx
    ·rfl
  ·exact .inl ⟨h1, h3, by
    by_cases hd : g'.dying = none
    ·exact .inr fun e => hf ⟨hd, e⟩
    ·exact .inl hd⟩
 | comm g₂ cs b sh w₁ es =>
  rw [hx] at hl
  obtain ⟨h1, h6', h2, h5⟩ := hl
  have hp0 : (#[g] : Array Goroutine).setIfInBounds 0 ph = #[ph] := by simp
  have hc0 : runT P (solo g w) 0 = ((communicate P rest0 #[ph] 0 g₂ cs b sh w₁).1, MemOp.ofEvents 0 g.frame.fn g.frame.place es ++ (communicate P rest0 #[ph] 0 g₂ cs b sh w₁).2) := by
   rw [solo_eq_crowd, runT_crowd_comm (i := 0) (g := g) rfl hx, hp0]; rfl
  rw [hc0] at h
  rcases comm_local (P := P) g₂ cs b sh w₁ with ⟨o, w', e⟩ | e | ⟨g', w', acts, m2, e1, e2, e3, e4, e5, e6, e7, e8, e9⟩
  ·rw [e] at h; cases h
  ·rw [e] at h
   cases h
   exact .inr ⟨_, w₁, rfl, .inl ⟨h1.top h1.frame rfl _ _, by simp, .inr (by simp)⟩⟩
  ·rw [e8] at h
   cases h
   have hok' : okG g' := by
    have hfr : okFrame g'.frame ∧ g'.frame.kind = g₂.frame.kind := by
     rcases e6 with ⟨v, e⟩ | ⟨v, e⟩
     ·rw [e]; exact ⟨okFrame_finish h1.frame v, finish_kind _ _⟩
     ·rw [e]; exact ⟨okFrame_raise h1.frame v, raise_kind _ _⟩
    obtain ⟨f', c', s', d', o'⟩ := g'
    simp only at e1 e2 hfr
    subst e1 e2
    exact h1.top hfr.1 hfr.2 _ _
   have hst : g'.status = .running := e3.elim id fun x => x.trans h6'
   refine .inr ⟨g', w', rfl, ?_⟩
   by_cases hd : g₂.dying = none
   ·obtain ⟨h6, h7, m, h8, h9⟩ := h5 hd
    refine .inr ⟨?_, fun ho => ⟨⟨hok', hst, e2.trans hd, e4.elim id fun x => x.trans h6⟩, ⟨?_, ?_, ⟨m + m2, ?_, fun τ d ha => ?_⟩, ?_⟩⟩⟩
    ·cases hdd : g.dying with
     | none => rfl
     | some d => exact absurd hd (h2 (by rw [hdd]; rfl))
    ·intro op hop
     rcases Array.mem_append.1 hop with hop | hop
     ·obtain ⟨e, _, rfl⟩ := Go.Conc.mem_ofEvents hop; rfl
     ·obtain ⟨a, _, rfl⟩ := Array.mem_map.1 hop; rfl
    ·intro t ht
     rw [← Array.append_assoc, Deaf_acts _ _ _ _ e5, Deaf_own, ht]; exact h7
    ·have a1 : w₁.tape = w.tape := by rw [h8]; rfl
     have a2 : w₁.drawn = w.drawn + m := by rw [h8]; rfl
     rw [a1, a2] at e7; rw [← Nat.add_assoc]; exact e7
    ·have a1 : w₁.tape = w.tape := by rw [h8]; rfl
     have a2 : w₁.drawn = w.drawn + m := by rw [h8]; rfl
     have hxx := h9 τ d fun j hj => ha j (by omega)
     have hcc : runT P (solo g (re w τ d)) 0 = ((communicate P rest0 #[ph] 0 g₂ cs b sh (re w₁ τ (d + m))).1, MemOp.ofEvents 0 g.frame.fn g.frame.place es ++ (communicate P rest0 #[ph] 0 g₂ cs b sh (re w₁ τ (d + m))).2) := by
      rw [solo_eq_crowd, runT_crowd_comm (i := 0) (g := g) rfl hxx, hp0]; rfl
     rw [stepT_solo hs, hcc, e9 τ (d + m) fun j hj => by rw [a1, a2]; have := ha (m + j) (by omega); rw [← Nat.add_assoc] at this; rw [this, ← Nat.add_assoc], ← Nat.add_assoc]
     rfl
    ·intro gs sl h0 hq
     refine ⟨id, fun _ _ => rfl, ?_⟩
     rw [runT_crowd_comm (i := 0) h0 hx, comm_lone (noP_stand hq) (rest := (crowd gs w sl).rest) rfl, e8]
     simp [laidIn, crowd]
   ·exact .inl ⟨hok', (by rw [hst]; simp), .inl (by rw [e2]; exact hd)⟩
 | coroswitch g₂ c x w₁ es =>
  rw [hx] at hl
  obtain ⟨h1, h6', h2, h5⟩ := hl
  have hrun : ∀ (gs : Array Goroutine) (w w₁ : World) (sl : Option (Nat × Nat)), gs[0]? = some g → stepG P true g w = .coroswitch g₂ c x w₁ es → runT P (crowd gs w sl) 0 = (match w₁.heap[c]? with
    | some (.coro (some h)) => .next (crowd ((gs.setIfInBounds 0 (if x then { g₂ with status := .finished } else { g₂ with frame := g₂.frame.finish undef, status := .parked })).modify h (fun o => { o with status := .running })) { w₁ with heap := w₁.heap.setIfInBounds c (.coro (if x then none else some 0)) } sl)
    | some (.coro none) => (match endThrow g₂.frame "coroswitch on exited coro" w₁ with | .go g w _ => .next (crowd (gs.setIfInBounds 0 g) w sl) | _ => .ended (.stuck "" "") w₁)
    | _ => .ended (.stuck "coroswitch: no coroutine" "") w₁, MemOp.ofEvents 0 g.frame.fn g.frame.place es) := by
   intro gs w w₁ sl h0 hx
   obtain ⟨hlt, rfl⟩ := Array.getElem?_eq_some_iff.1 h0
   have hsw := swapAt_of_lt hlt { (default : Goroutine) with status := .finished }
   show runT P { world := w, gs := gs, rest := { timers := #[], alone := none, slice := sl } } 0 = _
   unfold runT
   simp only [hsw, beq_self_eq_true, hx, GStep.es, set_setIfInBounds hlt, crowd]
   rfl
  rw [solo_eq_crowd, hrun #[g] w w₁ none rfl hx] at h
  cases ho : w₁.heap[c]? with
  | none => rw [ho] at h; cases h
  | some o =>
   cases o with
   | coro q =>
    cases q with
    | none =>
     rw [ho] at h
     simp only [endThrow, dieOf, Prod.mk.injEq, Stepped.next.injEq] at h
     obtain ⟨rfl, rfl⟩ := h
     exact .inr ⟨_, w₁, rfl, .inl ⟨okG.dead rfl rfl h1.frame (fun _ h => by cases h), by simp, .inl (by simp)⟩⟩
    | some q =>
     rw [ho] at h
     simp only [Prod.mk.injEq, Stepped.next.injEq] at h
     obtain ⟨rfl, rfl⟩ := h
     generalize hme : (if x then { g₂ with status := .finished } else { g₂ with frame := g₂.frame.finish undef, status := .parked } : Goroutine) = me
     have hok : ∀ st, okG { me with status := st } := fun st => by
      rw [← hme]
      cases x
      ·exact h1.top (okFrame_finish h1.frame undef) (finish_kind _ _) st _
      ·exact h1.top h1.frame rfl st _
     have hmd : me.dying = g₂.dying := by rw [← hme]; cases x <;> rfl
     have hmo : me.offers = g₂.offers := by rw [← hme]; cases x <;> rfl
     have hms : me.status ≠ .running ∧ ∀ t, me.status ≠ .sleeping t := by rw [← hme]; cases x <;> simp
     by_cases hq : q = 0
     ·subst hq
      have e1 : ∀ gs : Array Goroutine, (gs.setIfInBounds 0 me).modify 0 (fun o => { o with status := .running }) = gs.setIfInBounds 0 { me with status := .running } := fun gs => by
       apply Array.ext_getElem?
       intro j
       rw [Array.getElem?_modify]
       by_cases hj : 0 = j
       ·subst hj
        by_cases hlt : 0 < gs.size
        ·rw [Array.getElem?_setIfInBounds_self_of_lt hlt, Array.getElem?_setIfInBounds_self_of_lt hlt]; rfl
        ·rw [Array.getElem?_eq_none (by simpa using Nat.le_of_not_lt hlt), Array.getElem?_eq_none (by simpa using Nat.le_of_not_lt hlt)]; rfl
       ·simp [Array.getElem?_setIfInBounds_ne hj, hj]
      rw [e1]
      refine .inr ⟨{ me with status := .running }, { w₁ with heap := w₁.heap.setIfInBounds c (.coro (if x then none else some 0)) }, by simp [solo, crowd], ?_⟩
      by_cases hd : g₂.dying = none
      ·obtain ⟨h6, h7, m, h8, h9⟩ := h5 hd
       refine .inr ⟨?_, fun _ => ⟨⟨hok _, rfl, hmd.trans hd, hmo.trans h6⟩, ⟨?_, ?_, ⟨m, by rw [h8]; rfl, fun τ d ha => ?_⟩, ?_⟩⟩⟩
       ·cases hdd : g.dying with
        | none => rfl
        | some d => exact absurd hd (h2 (by rw [hdd]; rfl))
       ·intro op hop; obtain ⟨e, _, rfl⟩ := Go.Conc.mem_ofEvents hop; rfl
       ·intro t ht; rw [Deaf_own, ht]; exact h7
       ·rw [stepT_solo hs, solo_eq_crowd, hrun #[g] _ _ none rfl (h9 τ d ha)]
        have ho' : (re w₁ τ (d + m)).heap[c]? = some (.coro (some 0)) := ho
        rw [ho']
        simp only [hme, e1]
        simp [solo, crowd, re]
       ·intro gs sl h0 _
        refine ⟨id, fun _ _ => rfl, ?_⟩
        rw [hrun gs w w₁ sl h0 hx, ho]
        simp only [hme, e1, Array.map_id]
      ·exact .inl ⟨hok _, by simp, .inl (by show me.dying ≠ none; rw [hmd]; exact hd)⟩
     ·have e1 : ((#[g] : Array Goroutine).setIfInBounds 0 me).modify q (fun o => { o with status := .running }) = #[me] := by
       apply Array.ext_getElem?
       intro j
       rw [Array.getElem?_modify]
       by_cases hj : q = j
       ·subst hj; simp [hq]
       ·simp [hj]
      rw [e1]
      exact .inr ⟨me, _, rfl, .inl ⟨hok me.status, hms.2, .inr hms.1⟩⟩
   | _ => rw [ho] at h; cases h
 | spawn a b c d =>
  rw [runT_solo_spawn hx] at h
  cases h
  exact .inl (by simp [duo])
 | ended o w' es =>
  have : (runT P (solo g w) 0).1 = .ended o w' := by rw [solo_eq_crowd, runT_many_ended (i := 0) (g := g) rfl hx]
  rw [h] at this; cases this
 | _ => rw [hx] at hl; exact hl.elim
end Go.Proofs.YtpbbmagjhkakgaaGreatDoor.Lf
namespace Go.Proofs.YtpbbmagjhkakgaaGreatDoor.Lf
open Go Go.Conc
variable {P : Program}
theorem idle_step {g : Goroutine} (h1 : g.status ≠ .running) (h2 : ∀ t, g.status ≠ .sleeping t) (w : World) : (∃ ops, stepT P (solo g w) = (.next (solo g w), ops)) ∨ ∃ o w' ops, stepT P (solo g w) = (.ended o w', ops) := by
  have hc : g.canRun w.os.mono = false := by
    unfold Goroutine.canRun
    split
    · rename_i h; exact absurd h h1
    · rename_i h; exact absurd h (h2 _)
    · rfl
  have hr : runnable #[g] w.os.mono = [] := by simp [runnable_eq, List.range_succ, hc]
  have ha : ahead (solo g w) false = none := by
    unfold ahead solo
    simp only [List.size_toArray, List.length_nil]
    cases hs : g.status with
    | sleeping t => exact absurd hs (h2 t)
    | _ => simp [hs]
  have hd : due (solo g w).rest.timers w.os.mono = [] := by simp [due, solo]
  have hrs : runnable (solo g w).gs (solo g w).world.os.mono = [] := hr
  have e1 : move P (solo g w) = askOn P (solo g w) := by simp [move, ask, solo]
  have hd' : due (solo g w).rest.timers (solo g w).world.os.mono = [] := hd
  have ha' : ahead { world := (solo g w).world, gs := (solo g w).gs, rest := (solo g w).rest } false = none := ha
  have hany : (solo g w).gs.any (fun x => x.status == .waiting) = (g.status == .waiting) := by simp [solo]
  rw [stepT, e1]
  unfold askOn
  simp only [hrs, hd', List.isEmpty_nil, if_true, pure, Sem.run, List.length_nil, Nat.not_lt_zero, if_false, ha', hany]
  by_cases hw : (g.status == .waiting) = true
  · refine .inl ⟨#[], ?_⟩
    simp only [hw, if_true]
  · refine .inr ?_
    simp only [hw, if_false, Bool.false_eq_true]
    split <;> rename_i heq <;> split at heq <;> cases heq <;> exact ⟨_, _, _, rfl⟩
theorem lost_step (hP : Plain P) {g : Goroutine} (hg : Lost g) {w : World} {m' : Machine} (h : step P (solo g w) = .next m') : 2 ≤ m'.gs.size ∨ ∃ g' w', m' = solo g' w' ∧ Lost g' := by
  by_cases hs : g.status = .running
  · cases hx : stepT P (solo g w) with
    | mk s ops =>
      have : s = .next m' := by have := h; rw [step, hx] at this; exact this
      subst this
      rcases solo_step hP hg.ok hs hx with h2 | ⟨g', w', rfl, h3 | ⟨h3, _⟩⟩
      · exact .inl h2
      · exact .inr ⟨g', w', rfl, h3⟩
      · exact (hg.lost.elim (fun x => x h3) (fun x => x hs)).elim
  · rcases idle_step (P := P) hs hg.awake w with ⟨ops, e⟩ | ⟨o, w', ops, e⟩
    · rw [step, e] at h; cases h; exact .inr ⟨g, w, rfl, hg⟩
    · rw [step, e] at h; cases h
theorem runN_size {n : Nat} {m m' : Machine} (h : runN P n m = .next m') : m.gs.size ≤ m'.gs.size := by
  have h1 := runNT_fst P n m #[]
  cases hx : runNT P n m #[] with
  | mk s t =>
    rw [hx] at h1
    have : s = .next m' := h1.trans h
    subst this
    exact runNT_size P n m m' #[] t hx
theorem lost_run (hP : Plain P) : ∀ {n : Nat} {g : Goroutine} {w : World} {g' : Goroutine} {w' : World}, Lost g → runN P n (solo g w) = .next (solo g' w') → Lost g' := by
  intro n
  induction n with
  | zero => intro g w g' w' hg h; simp only [runN, Stepped.next.injEq] at h; have := congrArg (fun m : Machine => m.gs[0]?) h; simp [solo] at this; exact this ▸ hg
  | succ n ih =>
    intro g w g' w' hg h
    simp only [runN] at h
    cases hs : step P (solo g w) with
    | ended o x => rw [hs] at h; cases h
    | next m1 =>
      rw [hs] at h
      rcases lost_step hP hg hs with h2 | ⟨g1, w1, rfl, h3⟩
      · have := runN_size h; simp [solo] at this; omega
      · exact ih h3 h
theorem Fine.not_lost {g : Goroutine} (h : Fine g) : ¬ Lost g := fun x => x.lost.elim (fun y => y h.dying) (fun y => y h.status)
theorem first_step (hP : Plain P) {n : Nat} {g : Goroutine} {w : World} {g' : Goroutine} {w' : World} (hg : Fine g) (hg' : Fine g') (h : runN P (n + 1) (solo g w) = .next (solo g' w')) :
    ∃ g1 w1 ops, stepT P (solo g w) = (.next (solo g1 w1), ops) ∧ Fine g1 ∧ Alone P g w g1 w1 ops ∧ runN P n (solo g1 w1) = .next (solo g' w') := by
  simp only [runN] at h
  cases hx : stepT P (solo g w) with
  | mk s ops =>
    have hs : step P (solo g w) = s := by rw [step, hx]
    rw [hs] at h
    cases s with
    | ended o x => cases h
    | next m1 =>
      rcases solo_step hP hg.ok hg.status hx with h2 | ⟨g1, w1, rfl, h3 | ⟨_, h4⟩⟩
      · have := runN_size h; simp [solo] at this; omega
      · exact absurd (lost_run hP h3 h) hg'.not_lost
      · exact ⟨g1, w1, ops, rfl, (h4 hg.offers).1, (h4 hg.offers).2, h⟩
end Go.Proofs.YtpbbmagjhkakgaaGreatDoor.Lf
namespace Go.Proofs.YtpbbmagjhkakgaaGreatDoor.Lf
open Go Go.Conc
variable {P : Program}
inductive Tree (P : Program) (K : Goroutine → World → Prop) : Goroutine → World → Prop
  | stop {g : Goroutine} {w : World} : K g w → Tree P K g w
  | step {g : Goroutine} {w : World} (f : Tape → Nat → Goroutine × World × Array MemOp) : Fine g → (∀ τ d, Fine (f τ d).1 ∧ Alone P g (re w τ d) (f τ d).1 (f τ d).2.1 (f τ d).2.2 ∧ stepT P (solo g (re w τ d)) = (.next (solo (f τ d).1 (f τ d).2.1), (f τ d).2.2)) →
      (∀ τ d, Tree P K (f τ d).1 (f τ d).2.1) → Tree P K g w
def Comes1 (P : Program) (K : Goroutine → World → Prop) (g : Goroutine) (w : World) : Prop := ∃ n g' w', runN P n (solo g w) = .next (solo g' w') ∧ Fine g' ∧ K g' w'
theorem comes_shift (hP : Plain P) {K : Goroutine → World → Prop} (hK : ∀ g w τ d, K g w → K g (re w τ d)) :
    ∀ (n : Nat) {g g' : Goroutine} {w w' : World} {τ τ' : Tape} {a b : Nat}, Fine g → Fine g' → (∀ j, τ' (b + j) = τ (a + j)) → runN P n (solo g (re w τ a)) = .next (solo g' w') → K g' w' → Comes1 P K g (re w τ' b) := by
  intro n
  induction n with
  | zero =>
    intro g g' w w' τ τ' a b hg hg' hj h hk
    simp only [runN, Stepped.next.injEq] at h
    have e1 := congrArg (fun m : Machine => m.gs[0]?) h
    have e2 := congrArg (fun m : Machine => m.world) h
    simp [solo] at e1 e2
    subst e1
    refine ⟨0, g, re w τ' b, rfl, hg, ?_⟩
    rw [← e2] at hk
    exact hK g (re w τ a) τ' b hk
  | succ n ih =>
    intro g g' w w' τ τ' a b hg hg' hj h hk
    obtain ⟨g1, w1, ops, h1, h2, h3, h4⟩ := first_step hP hg hg' h
    obtain ⟨m, e1, e2⟩ := h3.alike
    have hs := e2 τ' b (fun j _ => hj j)
    rw [re_re] at hs
    have e1' : w1 = re w1 τ (a + m) := e1
    rw [e1'] at h4
    obtain ⟨k, g2, w2, h5, h6, h7⟩ := ih (w := w1) (τ := τ) (τ' := τ') (a := a + m) (b := b + m) h2 hg' (fun j => by rw [Nat.add_assoc, Nat.add_assoc]; exact hj _) h4 hk
    exact ⟨k + 1, g2, w2, by simp only [runN, step, hs]; exact h5, h6, h7⟩
theorem tree_of_comes (hP : Plain P) {K : Goroutine → World → Prop} (hK : ∀ g w τ d, K g w → K g (re w τ d)) {g : Goroutine} {w : World} (hg : Fine g) (h : ∀ τ d, Comes1 P K g (re w τ d)) : Tree P K g w := by
  apply Classical.byContradiction
  intro hno
  let S : Goroutine × World → Prop := fun s => Fine s.1 ∧ (∀ τ d, Comes1 P K s.1 (re s.2 τ d)) ∧ ¬ Tree P K s.1 s.2
  have next : ∀ s : {s // S s}, ∃ (s' : {s // S s}) (τ : Tape) (d m : Nat), ∀ τ2 d2, (∀ j, j < m → τ2 (d2 + j) = τ (d + j)) → stepT P (solo s.1.1 (re s.1.2 τ2 d2)) = (.next (solo s'.1.1 (re s'.1.2 τ2 (d2 + m))), (stepT P (solo s.1.1 (re s.1.2 τ d))).2) := by
    rintro ⟨⟨g, w⟩, hg, hr, hn⟩
    simp only at hg hr hn
    have hnk : ¬ K g w := fun hk => hn (.stop hk)
    have one : ∀ τ d, ∃ g1 w1 ops, stepT P (solo g (re w τ d)) = (.next (solo g1 w1), ops) ∧ Fine g1 ∧ Alone P g (re w τ d) g1 w1 ops := by
      intro τ d
      obtain ⟨n, g', w', h1, h2, h3⟩ := hr τ d
      cases n with
      | zero =>
        simp only [runN, Stepped.next.injEq] at h1
        have e1 := congrArg (fun m : Machine => m.gs[0]?) h1
        have e2 := congrArg (fun m : Machine => m.world) h1
        simp [solo] at e1 e2
        subst e1
        rw [← e2] at h3
        exact absurd (hK g (re w τ d) w.tape w.drawn h3) hnk
      | succ n =>
        obtain ⟨g1, w1, ops, a, b, c, _⟩ := first_step hP hg h2 h1
        exact ⟨g1, w1, ops, a, b, c⟩
    have bad : ∃ τ d g1 w1 ops, stepT P (solo g (re w τ d)) = (.next (solo g1 w1), ops) ∧ Fine g1 ∧ Alone P g (re w τ d) g1 w1 ops ∧ ¬ Tree P K g1 w1 := by
      apply Classical.byContradiction
      intro hall
      have one' : ∀ x : Tape × Nat, ∃ y : Goroutine × World × Array MemOp, stepT P (solo g (re w x.1 x.2)) = (.next (solo y.1 y.2.1), y.2.2) ∧ Fine y.1 ∧ Alone P g (re w x.1 x.2) y.1 y.2.1 y.2.2 := fun x => let ⟨g1, w1, ops, h⟩ := one x.1 x.2; ⟨(g1, w1, ops), h⟩
      refine hn (.step (fun τ d => Classical.choose (one' (τ, d))) hg (fun τ d => ?_) (fun τ d => ?_))
      · obtain ⟨a, b, c⟩ := Classical.choose_spec (one' (τ, d))
        exact ⟨b, c, a⟩
      · obtain ⟨a, b, c⟩ := Classical.choose_spec (one' (τ, d))
        apply Classical.byContradiction
        intro ht
        exact hall ⟨τ, d, _, _, _, a, b, c, ht⟩
    obtain ⟨τ, d, g1, w1, ops, a, b, c, ht⟩ := bad
    obtain ⟨m, e1, e2⟩ := c.alike
    have e1' : w1 = re w1 τ (d + m) := e1
    refine ⟨⟨(g1, w1), b, fun τ' d' => ?_, ht⟩, τ, d, m, fun τ2 d2 h2 => ?_⟩
    ·
      let τ2 : Tape := fun p => if p < d + m then τ p else τ' (p - (d + m) + d')
      have hs := e2 τ2 d (fun j hj => by show (if d + j < d + m then τ (d + j) else _) = τ (d + j); rw [if_pos (by omega)])
      rw [re_re] at hs
      obtain ⟨n, g', w', h1, h2, h3⟩ := hr τ2 d
      cases n with
      | zero =>
        simp only [runN, Stepped.next.injEq] at h1
        have e3 := congrArg (fun m : Machine => m.gs[0]?) h1
        have e4 := congrArg (fun m : Machine => m.world) h1
        simp [solo] at e3 e4
        subst e3
        rw [← e4] at h3
        exact absurd (hK g (re w τ2 d) w.tape w.drawn h3) hnk
      | succ n =>
        simp only [runN, step, hs] at h1
        refine comes_shift hP hK n (τ := τ2) (a := d + m) b h2 (fun j => ?_) h1 h3
        show τ' (d' + j) = (if d + m + j < d + m then τ (d + m + j) else τ' (d + m + j - (d + m) + d'))
        rw [if_neg (by omega)]
        congr 1; omega
    · have := e2 τ2 d2 h2
      rw [re_re] at this
      rw [this, a]
  have next' : ∀ s : {s // S s}, ∃ x : {s // S s} × Tape × Nat × Nat, ∀ τ2 d2, (∀ j, j < x.2.2.2 → τ2 (d2 + j) = x.2.1 (x.2.2.1 + j)) → stepT P (solo s.1.1 (re s.1.2 τ2 d2)) = (.next (solo x.1.1.1 (re x.1.1.2 τ2 (d2 + x.2.2.2))), (stepT P (solo s.1.1 (re s.1.2 x.2.1 x.2.2.1))).2) :=
    fun s => let ⟨a, b, c, d, h⟩ := next s; ⟨(a, b, c, d), h⟩
  let nx : {s // S s} → {s // S s} := fun s => (Classical.choose (next' s)).1
  let tp : {s // S s} → Tape := fun s => (Classical.choose (next' s)).2.1
  let pl : {s // S s} → Nat := fun s => (Classical.choose (next' s)).2.2.1
  let cnt : {s // S s} → Nat := fun s => (Classical.choose (next' s)).2.2.2
  have hnx : ∀ s τ2 d2, (∀ j, j < cnt s → τ2 (d2 + j) = tp s (pl s + j)) → stepT P (solo s.1.1 (re s.1.2 τ2 d2)) = (.next (solo (nx s).1.1 (re (nx s).1.2 τ2 (d2 + cnt s))), (stepT P (solo s.1.1 (re s.1.2 (tp s) (pl s)))).2) := fun s => Classical.choose_spec (next' s)
  let s0 : {s // S s} := ⟨(g, w), hg, h, hno⟩
  let sq : Nat → {s // S s} := fun n => Nat.rec s0 (fun _ s => nx s) n
  let D : Nat → Nat := fun n => Nat.rec 0 (fun k a => a + cnt (sq k)) n
  have hD : ∀ n, D (n + 1) = D n + cnt (sq n) := fun _ => rfl
  have hmono : ∀ a b, a ≤ b → D a ≤ D b := by
    intro a b hab
    induction hab with
    | refl => exact Nat.le_refl _
    | step _ ih => exact Nat.le_trans ih (by rw [hD]; omega)
  haveI : ∀ p, Decidable (∃ n, D n ≤ p ∧ p < D (n + 1)) := fun _ => Classical.propDecidable _
  let τs : Tape := fun p => if hp : ∃ n, D n ≤ p ∧ p < D (n + 1) then tp (sq (Classical.choose hp)) (pl (sq (Classical.choose hp)) + (p - D (Classical.choose hp))) else fun _ => 0
  have hτ : ∀ n j, j < cnt (sq n) → τs (D n + j) = tp (sq n) (pl (sq n) + j) := by
    intro n j hj
    have hp : ∃ k, D k ≤ D n + j ∧ D n + j < D (k + 1) := ⟨n, by omega, by rw [hD]; omega⟩
    have hc := Classical.choose_spec hp
    have hk : Classical.choose hp = n := by
      rcases Nat.lt_trichotomy (Classical.choose hp) n with hlt | heq | hgt
      · have := hmono _ _ (show Classical.choose hp + 1 ≤ n from hlt); omega
      · exact heq
      · have h1 := hmono _ _ (show n + 1 ≤ Classical.choose hp from hgt); rw [hD] at h1; omega
    show (if hp : ∃ n', D n' ≤ D n + j ∧ D n + j < D (n' + 1) then _ else _) = _
    rw [dif_pos hp, hk]
    congr 1; omega
  have run : ∀ n, runN P n (solo g (re w τs 0)) = .next (solo (sq n).1.1 (re (sq n).1.2 τs (D n))) := by
    intro n
    induction n with
    | zero => rfl
    | succ n ih =>
      rw [runN_add, ih]
      have := hnx (sq n) τs (D n) (fun j hj => hτ n j hj)
      simp only [runN, step, this]
      rfl
  obtain ⟨n, g', w', h1, _, h3⟩ := h τs 0
  rw [run n] at h1
  simp only [Stepped.next.injEq] at h1
  have e3 := congrArg (fun m : Machine => m.gs[0]?) h1
  have e4 := congrArg (fun m : Machine => m.world) h1
  simp [solo] at e3 e4
  rw [← e3, ← e4] at h3
  exact (sq n).2.2.2 (.stop (hK _ (re (sq n).1.2 τs (D n)) (sq n).1.2.tape (sq n).1.2.drawn h3))
end Go.Proofs.YtpbbmagjhkakgaaGreatDoor.Lf
