/-
  A machine of one goroutine that dies, or waits for nobody, never runs on; the first step of a run that comes to a machine of one goroutine again.
-/
/-
  On every tape the machine of one goroutine comes to K: then there is a tree of its own steps, whatever the tape answers.
-/
/-
  THE TREE IS CARRIED OUT BESIDE GOROUTINES THAT ARE ONLY LEAVING, ON WHATEVER TAPE: the run so far holds no race, and goroutine 0 knows all of it.
-/
import Derived.Test.YtpbbmagjhkakgaaGreatDoorLfOwnToLfAlone
namespace Go.Proofs.YtpbbmagjhkakgaaGreatDoor.Lf
open Go Go.Conc
variable {P : Program}
theorem idle_step {g : Goroutine} (h1 : g.status ≠ .running) (h2 : ∀ t, g.status ≠ .sleeping t) (w : World) : (∃ ops, stepT P (solo g w) = (.next (solo g w), ops)) ∨ ∃ o w' ops, stepT P (solo g w) = (.ended o w', ops) := by
  have hc : g.canRun w.os.mono = false := by
    unfold Goroutine.canRun
    split
    · rename_i h; exact absurd h h1
    · rename_i h; exact absurd h (h2 _)
    · rfl
  have hr : runnable #[g] w.os.mono = [] := by simp [runnable_eq, List.range_succ, hc]
  have ha : ahead (solo g w) false = none := by
    unfold ahead solo
    simp only [List.size_toArray, List.length_nil]
    cases hs : g.status with
    | sleeping t => exact absurd hs (h2 t)
    | _ => simp [hs]
  have hd : due (solo g w).rest.timers w.os.mono = [] := by simp [due, solo]
  have hrs : runnable (solo g w).gs (solo g w).world.os.mono = [] := hr
  have e1 : move P (solo g w) = askOn P (solo g w) := by simp [move, ask, solo]
  have hd' : due (solo g w).rest.timers (solo g w).world.os.mono = [] := hd
  have ha' : ahead { world := (solo g w).world, gs := (solo g w).gs, rest := (solo g w).rest } false = none := ha
  have hany : (solo g w).gs.any (fun x => x.status == .waiting) = (g.status == .waiting) := by simp [solo]
  rw [stepT, e1]
  unfold askOn
  simp only [hrs, hd', List.isEmpty_nil, if_true, pure, Sem.run, List.length_nil, Nat.not_lt_zero, if_false, ha', hany]
  by_cases hw : (g.status == .waiting) = true
  · refine .inl ⟨#[], ?_⟩
    simp only [hw, if_true]
  · refine .inr ?_
    simp only [hw, if_false, Bool.false_eq_true]
    split <;> rename_i heq <;> split at heq <;> cases heq <;> exact ⟨_, _, _, rfl⟩
theorem lost_step (hP : Plain P) {g : Goroutine} (hg : Lost g) {w : World} {m' : Machine} (h : step P (solo g w) = .next m') : 2 ≤ m'.gs.size ∨ ∃ g' w', m' = solo g' w' ∧ Lost g' := by
  by_cases hs : g.status = .running
  · cases hx : stepT P (solo g w) with
    | mk s ops =>
      have : s = .next m' := by have := h; rw [step, hx] at this; exact this
      subst this
      rcases solo_step hP hg.ok hs hx with h2 | ⟨g', w', rfl, h3 | ⟨h3, _⟩⟩
      · exact .inl h2
      · exact .inr ⟨g', w', rfl, h3⟩
      · exact (hg.lost.elim (fun x => x h3) (fun x => x hs)).elim
  · rcases idle_step (P := P) hs hg.awake w with ⟨ops, e⟩ | ⟨o, w', ops, e⟩
    · rw [step, e] at h; cases h; exact .inr ⟨g, w, rfl, hg⟩
    · rw [step, e] at h; cases h
theorem runN_size {n : Nat} {m m' : Machine} (h : runN P n m = .next m') : m.gs.size ≤ m'.gs.size := by
  have h1 := runNT_fst P n m #[]
  cases hx : runNT P n m #[] with
  | mk s t =>
    rw [hx] at h1
    have : s = .next m' := h1.trans h
    subst this
    exact runNT_size P n m m' #[] t hx
theorem lost_run (hP : Plain P) : ∀ {n : Nat} {g : Goroutine} {w : World} {g' : Goroutine} {w' : World}, Lost g → runN P n (solo g w) = .next (solo g' w') → Lost g' := by
  intro n
  induction n with
  | zero => intro g w g' w' hg h; simp only [runN, Stepped.next.injEq] at h; have := congrArg (fun m : Machine => m.gs[0]?) h; simp [solo] at this; exact this ▸ hg
  | succ n ih =>
    intro g w g' w' hg h
    simp only [runN] at h
    cases hs : step P (solo g w) with
    | ended o x => rw [hs] at h; cases h
    | next m1 =>
      rw [hs] at h
      rcases lost_step hP hg hs with h2 | ⟨g1, w1, rfl, h3⟩
      · have := runN_size h; simp [solo] at this; omega
      · exact ih h3 h
theorem Fine.not_lost {g : Goroutine} (h : Fine g) : ¬ Lost g := fun x => x.lost.elim (fun y => y h.dying) (fun y => y h.status)
theorem first_step (hP : Plain P) {n : Nat} {g : Goroutine} {w : World} {g' : Goroutine} {w' : World} (hg : Fine g) (hg' : Fine g') (h : runN P (n + 1) (solo g w) = .next (solo g' w')) :
    ∃ g1 w1 ops, stepT P (solo g w) = (.next (solo g1 w1), ops) ∧ Fine g1 ∧ Alone P g w g1 w1 ops ∧ runN P n (solo g1 w1) = .next (solo g' w') := by
  simp only [runN] at h
  cases hx : stepT P (solo g w) with
  | mk s ops =>
    have hs : step P (solo g w) = s := by rw [step, hx]
    rw [hs] at h
    cases s with
    | ended o x => cases h
    | next m1 =>
      rcases solo_step hP hg.ok hg.status hx with h2 | ⟨g1, w1, rfl, h3 | ⟨_, h4⟩⟩
      · have := runN_size h; simp [solo] at this; omega
      · exact absurd (lost_run hP h3 h) hg'.not_lost
      · exact ⟨g1, w1, ops, rfl, (h4 hg.offers).1, (h4 hg.offers).2, h⟩
end Go.Proofs.YtpbbmagjhkakgaaGreatDoor.Lf

namespace Go.Proofs.YtpbbmagjhkakgaaGreatDoor.Lf
open Go Go.Conc
variable {P : Program}
inductive Tree (P : Program) (K : Goroutine → World → Prop) : Goroutine → World → Prop
  | stop {g : Goroutine} {w : World} : K g w → Tree P K g w
  | step {g : Goroutine} {w : World} (f : Tape → Nat → Goroutine × World × Array MemOp) : Fine g → (∀ τ d, Fine (f τ d).1 ∧ Alone P g (re w τ d) (f τ d).1 (f τ d).2.1 (f τ d).2.2 ∧ stepT P (solo g (re w τ d)) = (.next (solo (f τ d).1 (f τ d).2.1), (f τ d).2.2)) →
      (∀ τ d, Tree P K (f τ d).1 (f τ d).2.1) → Tree P K g w
def Comes1 (P : Program) (K : Goroutine → World → Prop) (g : Goroutine) (w : World) : Prop := ∃ n g' w', runN P n (solo g w) = .next (solo g' w') ∧ Fine g' ∧ K g' w'
theorem comes_shift (hP : Plain P) {K : Goroutine → World → Prop} (hK : ∀ g w τ d, K g w → K g (re w τ d)) :
    ∀ (n : Nat) {g g' : Goroutine} {w w' : World} {τ τ' : Tape} {a b : Nat}, Fine g → Fine g' → (∀ j, τ' (b + j) = τ (a + j)) → runN P n (solo g (re w τ a)) = .next (solo g' w') → K g' w' → Comes1 P K g (re w τ' b) := by
  intro n
  induction n with
  | zero =>
    intro g g' w w' τ τ' a b hg hg' hj h hk
    simp only [runN, Stepped.next.injEq] at h
    have e1 := congrArg (fun m : Machine => m.gs[0]?) h
    have e2 := congrArg (fun m : Machine => m.world) h
    simp [solo] at e1 e2
    subst e1
    refine ⟨0, g, re w τ' b, rfl, hg, ?_⟩
    rw [← e2] at hk
    exact hK g (re w τ a) τ' b hk
  | succ n ih =>
    intro g g' w w' τ τ' a b hg hg' hj h hk
    obtain ⟨g1, w1, ops, h1, h2, h3, h4⟩ := first_step hP hg hg' h
    obtain ⟨m, e1, e2⟩ := h3.alike
    have hs := e2 τ' b (fun j _ => hj j)
    rw [re_re] at hs
    have e1' : w1 = re w1 τ (a + m) := e1
    rw [e1'] at h4
    obtain ⟨k, g2, w2, h5, h6, h7⟩ := ih (w := w1) (τ := τ) (τ' := τ') (a := a + m) (b := b + m) h2 hg' (fun j => by rw [Nat.add_assoc, Nat.add_assoc]; exact hj _) h4 hk
    exact ⟨k + 1, g2, w2, by simp only [runN, step, hs]; exact h5, h6, h7⟩
theorem tree_of_comes (hP : Plain P) {K : Goroutine → World → Prop} (hK : ∀ g w τ d, K g w → K g (re w τ d)) {g : Goroutine} {w : World} (hg : Fine g) (h : ∀ τ d, Comes1 P K g (re w τ d)) : Tree P K g w := by
  apply Classical.byContradiction
  intro hno
  -- a state from which K is always reached, and yet there is no tree
  let S : Goroutine × World → Prop := fun s => Fine s.1 ∧ (∀ τ d, Comes1 P K s.1 (re s.2 τ d)) ∧ ¬ Tree P K s.1 s.2
  have next : ∀ s : {s // S s}, ∃ (s' : {s // S s}) (τ : Tape) (d m : Nat), ∀ τ2 d2, (∀ j, j < m → τ2 (d2 + j) = τ (d + j)) → stepT P (solo s.1.1 (re s.1.2 τ2 d2)) = (.next (solo s'.1.1 (re s'.1.2 τ2 (d2 + m))), (stepT P (solo s.1.1 (re s.1.2 τ d))).2) := by
    rintro ⟨⟨g, w⟩, hg, hr, hn⟩
    simp only at hg hr hn
    have hnk : ¬ K g w := fun hk => hn (.stop hk)
    have one : ∀ τ d, ∃ g1 w1 ops, stepT P (solo g (re w τ d)) = (.next (solo g1 w1), ops) ∧ Fine g1 ∧ Alone P g (re w τ d) g1 w1 ops := by
      intro τ d
      obtain ⟨n, g', w', h1, h2, h3⟩ := hr τ d
      cases n with
      | zero =>
        simp only [runN, Stepped.next.injEq] at h1
        have e1 := congrArg (fun m : Machine => m.gs[0]?) h1
        have e2 := congrArg (fun m : Machine => m.world) h1
        simp [solo] at e1 e2
        subst e1
        rw [← e2] at h3
        exact absurd (hK g (re w τ d) w.tape w.drawn h3) hnk
      | succ n =>
        obtain ⟨g1, w1, ops, a, b, c, _⟩ := first_step hP hg h2 h1
        exact ⟨g1, w1, ops, a, b, c⟩
    have bad : ∃ τ d g1 w1 ops, stepT P (solo g (re w τ d)) = (.next (solo g1 w1), ops) ∧ Fine g1 ∧ Alone P g (re w τ d) g1 w1 ops ∧ ¬ Tree P K g1 w1 := by
      apply Classical.byContradiction
      intro hall
      have one' : ∀ x : Tape × Nat, ∃ y : Goroutine × World × Array MemOp, stepT P (solo g (re w x.1 x.2)) = (.next (solo y.1 y.2.1), y.2.2) ∧ Fine y.1 ∧ Alone P g (re w x.1 x.2) y.1 y.2.1 y.2.2 := fun x => let ⟨g1, w1, ops, h⟩ := one x.1 x.2; ⟨(g1, w1, ops), h⟩
      refine hn (.step (fun τ d => Classical.choose (one' (τ, d))) hg (fun τ d => ?_) (fun τ d => ?_))
      · obtain ⟨a, b, c⟩ := Classical.choose_spec (one' (τ, d))
        exact ⟨b, c, a⟩
      · obtain ⟨a, b, c⟩ := Classical.choose_spec (one' (τ, d))
        apply Classical.byContradiction
        intro ht
        exact hall ⟨τ, d, _, _, _, a, b, c, ht⟩
    obtain ⟨τ, d, g1, w1, ops, a, b, c, ht⟩ := bad
    obtain ⟨m, e1, e2⟩ := c.alike
    have e1' : w1 = re w1 τ (d + m) := e1
    refine ⟨⟨(g1, w1), b, fun τ' d' => ?_, ht⟩, τ, d, m, fun τ2 d2 h2 => ?_⟩
    · -- K is always reached from there, too
      let τ2 : Tape := fun p => if p < d + m then τ p else τ' (p - (d + m) + d')
      have hs := e2 τ2 d (fun j hj => by show (if d + j < d + m then τ (d + j) else _) = τ (d + j); rw [if_pos (by omega)])
      rw [re_re] at hs
      obtain ⟨n, g', w', h1, h2, h3⟩ := hr τ2 d
      cases n with
      | zero =>
        simp only [runN, Stepped.next.injEq] at h1
        have e3 := congrArg (fun m : Machine => m.gs[0]?) h1
        have e4 := congrArg (fun m : Machine => m.world) h1
        simp [solo] at e3 e4
        subst e3
        rw [← e4] at h3
        exact absurd (hK g (re w τ2 d) w.tape w.drawn h3) hnk
      | succ n =>
        simp only [runN, step, hs] at h1
        refine comes_shift hP hK n (τ := τ2) (a := d + m) b h2 (fun j => ?_) h1 h3
        show τ' (d' + j) = (if d + m + j < d + m then τ (d + m + j) else τ' (d + m + j - (d + m) + d'))
        rw [if_neg (by omega)]
        congr 1; omega
    · have := e2 τ2 d2 h2
      rw [re_re] at this
      rw [this, a]
  -- an endless row of them
  have next' : ∀ s : {s // S s}, ∃ x : {s // S s} × Tape × Nat × Nat, ∀ τ2 d2, (∀ j, j < x.2.2.2 → τ2 (d2 + j) = x.2.1 (x.2.2.1 + j)) → stepT P (solo s.1.1 (re s.1.2 τ2 d2)) = (.next (solo x.1.1.1 (re x.1.1.2 τ2 (d2 + x.2.2.2))), (stepT P (solo s.1.1 (re s.1.2 x.2.1 x.2.2.1))).2) :=
    fun s => let ⟨a, b, c, d, h⟩ := next s; ⟨(a, b, c, d), h⟩
  let nx : {s // S s} → {s // S s} := fun s => (Classical.choose (next' s)).1
  let tp : {s // S s} → Tape := fun s => (Classical.choose (next' s)).2.1
  let pl : {s // S s} → Nat := fun s => (Classical.choose (next' s)).2.2.1
  let cnt : {s // S s} → Nat := fun s => (Classical.choose (next' s)).2.2.2
  have hnx : ∀ s τ2 d2, (∀ j, j < cnt s → τ2 (d2 + j) = tp s (pl s + j)) → stepT P (solo s.1.1 (re s.1.2 τ2 d2)) = (.next (solo (nx s).1.1 (re (nx s).1.2 τ2 (d2 + cnt s))), (stepT P (solo s.1.1 (re s.1.2 (tp s) (pl s)))).2) := fun s => Classical.choose_spec (next' s)
  let s0 : {s // S s} := ⟨(g, w), hg, h, hno⟩
  let sq : Nat → {s // S s} := fun n => Nat.rec s0 (fun _ s => nx s) n
  let D : Nat → Nat := fun n => Nat.rec 0 (fun k a => a + cnt (sq k)) n
  have hD : ∀ n, D (n + 1) = D n + cnt (sq n) := fun _ => rfl
  have hmono : ∀ a b, a ≤ b → D a ≤ D b := by
    intro a b hab
    induction hab with
    | refl => exact Nat.le_refl _
    | step _ ih => exact Nat.le_trans ih (by rw [hD]; omega)
  haveI : ∀ p, Decidable (∃ n, D n ≤ p ∧ p < D (n + 1)) := fun _ => Classical.propDecidable _
  let τs : Tape := fun p => if hp : ∃ n, D n ≤ p ∧ p < D (n + 1) then tp (sq (Classical.choose hp)) (pl (sq (Classical.choose hp)) + (p - D (Classical.choose hp))) else fun _ => 0
  have hτ : ∀ n j, j < cnt (sq n) → τs (D n + j) = tp (sq n) (pl (sq n) + j) := by
    intro n j hj
    have hp : ∃ k, D k ≤ D n + j ∧ D n + j < D (k + 1) := ⟨n, by omega, by rw [hD]; omega⟩
    have hc := Classical.choose_spec hp
    have hk : Classical.choose hp = n := by
      rcases Nat.lt_trichotomy (Classical.choose hp) n with hlt | heq | hgt
      · have := hmono _ _ (show Classical.choose hp + 1 ≤ n from hlt); omega
      · exact heq
      · have h1 := hmono _ _ (show n + 1 ≤ Classical.choose hp from hgt); rw [hD] at h1; omega
    show (if hp : ∃ n', D n' ≤ D n + j ∧ D n + j < D (n' + 1) then _ else _) = _
    rw [dif_pos hp, hk]
    congr 1; omega
  have run : ∀ n, runN P n (solo g (re w τs 0)) = .next (solo (sq n).1.1 (re (sq n).1.2 τs (D n))) := by
    intro n
    induction n with
    | zero => rfl
    | succ n ih =>
      rw [runN_add, ih]
      have := hnx (sq n) τs (D n) (fun j hj => hτ n j hj)
      simp only [runN, step, this]
      rfl
  obtain ⟨n, g', w', h1, _, h3⟩ := h τs 0
  rw [run n] at h1
  simp only [Stepped.next.injEq] at h1
  have e3 := congrArg (fun m : Machine => m.gs[0]?) h1
  have e4 := congrArg (fun m : Machine => m.world) h1
  simp [solo] at e3 e4
  rw [← e3, ← e4] at h3
  exact (sq n).2.2.2 (.stop (hK _ (re (sq n).1.2 τs (D n)) (sq n).1.2.tape (sq n).1.2.drawn h3))
end Go.Proofs.YtpbbmagjhkakgaaGreatDoor.Lf

namespace Go.Proofs.YtpbbmagjhkakgaaGreatDoor.Lf
open Go Go.Conc
open Go.ConcN (sumTo upd sumTo_upd upd_ne upd_same)
variable {P : Program}
structure Fr (P : Program) (gs : Array Goroutine) (t : Trace) (g : Goroutine) : Prop where
  zero : gs[0]? = some g
  leave : ∃ q, Leavers P t gs q
  past : ∃ B, Past (fun _ => False) B t
def Leads (P : Program) (K : Goroutine → World → Prop) (g : Goroutine) (w : World) : Prop :=
  ∀ gs sl t, Fr P gs t g → ∃ N gs' g' w' sl' t', runNT P N (crowd gs w sl) t = (.next (crowd gs' w' sl'), t') ∧ Fr P gs' t' g' ∧ K g' w'
theorem runNT_app {m m' m'' : Machine} {t t' t'' : Trace} {N M : Nat} (h : runNT P N m t = (.next m', t')) (hk : runNT P M m' t' = (.next m'', t'')) : runNT P (N + M) m t = (.next m'', t'') := by
  rw [runNT_add, h]; exact hk
theorem Leads.here {K : Goroutine → World → Prop} {g : Goroutine} {w : World} (h : K g w) : Leads P K g w := fun gs sl t hf => ⟨0, gs, g, w, sl, t, rfl, hf, h⟩
theorem Leads.trans {K L : Goroutine → World → Prop} {g : Goroutine} {w : World} (h : Leads P K g w) (hk : ∀ g' w', K g' w' → Leads P L g' w') : Leads P L g w := by
  intro gs sl t hf
  obtain ⟨N, gs1, g1, w1, sl1, t1, h1, h2, h3⟩ := h gs sl t hf
  obtain ⟨M, gs2, g2, w2, sl2, t2, h4, h5, h6⟩ := hk g1 w1 h3 gs1 sl1 t1 h2
  exact ⟨N + M, gs2, g2, w2, sl2, t2, runNT_app h1 h4, h5, h6⟩
theorem Leads.mono {K L : Goroutine → World → Prop} {g : Goroutine} {w : World} (h : Leads P K g w) (hk : ∀ g' w', K g' w' → L g' w') : Leads P L g w := h.trans fun g' w' x => .here (hk g' w' x)
theorem low_any (act : MemAct) : ∃ B, act.low B := by
  cases act with
  | access e =>
    obtain ⟨loc, wr, sy⟩ := e
    cases loc with
    | cell a => exact ⟨a.block + 1, Nat.lt_succ_self _⟩
    | obj r => exact ⟨r + 1, Nat.lt_succ_self _⟩
    | _ => exact ⟨0, trivial⟩
  | mark m =>
    cases m with
    | acquire a => exact ⟨a.block + 1, Nat.lt_succ_self _⟩
    | release a => exact ⟨a.block + 1, Nat.lt_succ_self _⟩
    | releaseMerge a => exact ⟨a.block + 1, Nat.lt_succ_self _⟩
    | read a => exact ⟨a.block + 1, Nat.lt_succ_self _⟩
    | write a => exact ⟨a.block + 1, Nat.lt_succ_self _⟩
    | _ => exact ⟨0, trivial⟩
  | go _ => exact ⟨0, trivial⟩
  | start => exact ⟨0, trivial⟩
  | send c _ => exact ⟨c + 1, Nat.lt_succ_self _⟩
  | sendDone c _ => exact ⟨c + 1, Nat.lt_succ_self _⟩
  | recv c _ _ => exact ⟨c + 1, Nat.lt_succ_self _⟩
  | recvDone c _ => exact ⟨c + 1, Nat.lt_succ_self _⟩
  | close c => exact ⟨c + 1, Nat.lt_succ_self _⟩
  | recvClosed c => exact ⟨c + 1, Nat.lt_succ_self _⟩
theorem low_all (ops : Array MemOp) (B : Nat) : ∃ B', B ≤ B' ∧ ∀ op ∈ ops, op.act.low B' := by
  obtain ⟨l⟩ := ops
  induction l with
  | nil => exact ⟨B, Nat.le_refl _, by simp⟩
  | cons a l ih =>
    obtain ⟨B1, h1, h2⟩ := ih
    obtain ⟨B2, h3⟩ := low_any a.act
    refine ⟨max B1 B2, Nat.le_trans h1 (Nat.le_max_left _ _), fun op hop => ?_⟩
    simp at hop
    rcases hop with rfl | hop
    · exact MemAct.low_mono (Nat.le_max_right _ _) h3
    · exact MemAct.low_mono (Nat.le_max_left _ _) (h2 op (by simpa using hop))
theorem Fr.own {gs : Array Goroutine} {t : Trace} {g g' : Goroutine} (hf : Fr P gs t g) {ops : Array MemOp} {f : Goroutine → Goroutine} (h1 : ∀ op ∈ ops, op.g = 0) (h2 : Deaf t 0 = 0 → Deaf (t ++ ops) 0 = 0) (h3 : ∀ x, (x.status = .running ∨ x.status = .finished) → f x = x) :
    Fr P ((gs.map f).setIfInBounds 0 g') (t ++ ops) g' := by
  obtain ⟨h0, ⟨q, hL⟩, ⟨B, hB⟩⟩ := hf
  have hlt : 0 < gs.size := (Array.getElem?_eq_some_iff.1 h0).1
  obtain ⟨B', hb1, hb2⟩ := low_all ops B
  refine ⟨by simp [hlt], ⟨q, fun j x hj hx => ?_, fun j hj => ?_⟩, ⟨B', ?_⟩⟩
  · have hne : 0 ≠ j := by omega
    rw [Array.getElem?_setIfInBounds_ne hne, Array.getElem?_map] at hx
    obtain ⟨y, hy, rfl⟩ := Option.map_eq_some_iff.1 hx
    have hq := hL.old j y hj hy
    rw [h3 y hq.status, Deaf_other t (by omega) ops h1]
    exact hq
  · rw [Deaf_other t (g' := 0) (by simp at hj; omega) ops h1]
    exact hL.above j (by simpa using hj)
  · refine (hB.mono hb1).app0 h1 (fun _ _ _ _ h => h.elim) ?_ hb2
    rw [h2 hB.hears, hB.hears]
theorem tree_leads {K : Goroutine → World → Prop} {g : Goroutine} {w : World} (h : Tree P K g w) : Leads P K g w := by
  induction h with
  | stop hk => exact .here hk
  | @step g w f hg h1 _ ih =>
    have main : ∀ (M : Nat) (gs : Array Goroutine) (d0 : Nat) (sl : Option (Nat × Nat)) (t : Trace) (q : Nat → Nat), sumTo gs.size q ≤ M → gs[0]? = some g → Leavers P t gs q → (∃ B, Past (fun _ => False) B t) →
        ∃ N gs' g' w' sl' t', runNT P N (crowd gs (w.at d0) sl) t = (.next (crowd gs' w' sl'), t') ∧ Fr P gs' t' g' ∧ K g' w' := by
      intro M
      induction M using Nat.strongRecOn with
      | _ M ihM =>
        intro gs d0 sl t q hM h0 hL hB
        have haw : ∀ x ∈ gs, awake x := by
          intro x hx
          obtain ⟨i, hi, rfl⟩ := Array.mem_iff_getElem.1 hx
          rcases Nat.eq_zero_or_pos i with rfl | hpos
          · have : gs[0] = g := by simpa [Array.getElem?_eq_getElem hi] using h0
            rw [this]; exact awake_of (.inl hg.status)
          · exact awake_of ((hL.old i _ hpos (Array.getElem?_eq_getElem hi)).status.elim .inl fun x => .inr (.inr x))
        obtain ⟨i, x, d, sl', hi, hx, hst⟩ := crowd_pick (P := P) (w := w.at d0) (sl := sl) haw ⟨0, g, h0, hg.status⟩
        have hw : (w.at d0).at d = re w w.tape d := rfl
        rw [hw] at hst
        rcases Nat.eq_zero_or_pos i with rfl | hpos
        · -- goroutine 0 takes its step
          obtain rfl : x = g := by rw [h0] at hi; exact (Option.some.inj hi).symm
          obtain ⟨a1, a2, a3⟩ := h1 w.tape d
          obtain ⟨fw, b1, b2⟩ := a2.beside gs sl' h0 (fun j y hj hy => (hL.old j y hj hy).status)
          have hfr := Fr.own (P := P) (g' := (f w.tape d).1) ⟨h0, ⟨q, hL⟩, hB⟩ a2.own (a2.hears t) b1
          obtain ⟨N, gs', g', w', sl'', t', c1, c2, c3⟩ := ih w.tape d _ sl' _ hfr
          exact ⟨N + 1, gs', g', w', sl'', t', by simp only [runNT, hst, b2]; exact c1, c2, c3⟩
        · -- a leaver slips
          have hq := hL.old i x hpos hi
          have hi0 : (i == 0) = false := by simp; omega
          have hlt : i < gs.size := (Array.getElem?_eq_some_iff.1 hi).1
          cases hqi : q i with
          | zero => rw [hqi] at hq; rw [hq.1] at hx; cases hx
          | succ k =>
            rw [hqi] at hq
            rcases hq with ⟨hfin, _⟩ | ⟨_, x', es, hm, hstp, hq'⟩
            · rw [hfin] at hx; cases hx
            have hrunT := runT_crowd_go (P := P) (w := re w w.tape d) (sl := sl') (i := i) hi (by rw [hi0]; exact hstp (re w w.tape d))
            have hsz : ((gs.map (woken P x x' (re w w.tape d))).setIfInBounds i x').size = gs.size := by simp
            have hsum : sumTo gs.size (upd q i k) + (k + 1) = sumTo gs.size q + k := by
              have := sumTo_upd q k id hlt
              simpa [hqi] using this
            obtain ⟨B, hB⟩ := hB
            obtain ⟨N, gs', g', w', sl'', t', c1, c2, c3⟩ := ihM (sumTo gs.size (upd q i k)) (by omega) ((gs.map (woken P x x' (re w w.tape d))).setIfInBounds i x') d sl' (t ++ MemOp.ofEvents i x.frame.fn x.frame.place es) (upd q i k) (by rw [hsz]; exact Nat.le_refl _)
              (by
                have hne : i ≠ 0 := by omega
                rw [Array.getElem?_setIfInBounds_ne hne, Array.getElem?_map, h0]
                simp [woken_running hg.status])
              ⟨fun j y hj hy => by
                by_cases hji : i = j
                · subst hji
                  rw [Array.getElem?_setIfInBounds_self_of_lt (by simpa using hlt)] at hy
                  obtain rfl := Option.some.inj hy
                  rw [upd_same, Deaf_own]
                  exact hq'
                · rw [Array.getElem?_setIfInBounds_ne hji, Array.getElem?_map] at hy
                  obtain ⟨z, hz, rfl⟩ := Option.map_eq_some_iff.1 hy
                  have hqj := hL.old j z hj hz
                  rw [woken_quitsD hqj, upd_ne q k (Ne.symm hji), Deaf_other t hji _ (fun op hop => by obtain ⟨e, _, rfl⟩ := Go.Conc.mem_ofEvents hop; rfl)]
                  exact hqj, fun j hj => by
                rw [Deaf_other t (g' := i) (by simp at hj; omega) _ (fun op hop => by obtain ⟨e, _, rfl⟩ := Go.Conc.mem_ofEvents hop; rfl)]
                exact hL.above j (by simpa using hj)⟩
              ⟨B, hB.mute (by omega) hm⟩
            exact ⟨N + 1, gs', g', w', sl'', t', by simp only [runNT, hst, hrunT]; exact c1, c2, c3⟩
    intro gs sl t hf
    obtain ⟨h0, ⟨q, hL⟩, hB⟩ := hf
    exact main _ gs w.drawn sl t q (Nat.le_refl _) h0 hL hB
end Go.Proofs.YtpbbmagjhkakgaaGreatDoor.Lf
