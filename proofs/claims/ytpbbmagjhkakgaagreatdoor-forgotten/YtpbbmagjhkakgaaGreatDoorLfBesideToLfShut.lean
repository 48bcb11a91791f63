import Derived.Test.YtpbbmagjhkakgaaGreatDoorLfAloneToLfTree
import Derived.Test.YtpbbmagjhkakgaaGreatDoorLfRelyToLfTape
import Derived.Conc.CrowdComm
namespace Go.Proofs.YtpbbmagjhkakgaaGreatDoor.Lf
open Go Go.Conc
open Go.ConcN (sumTo upd sumTo_upd upd_ne upd_same)
variable {P : Program}
structure Fr (P : Program) (gs : Array Goroutine) (t : Trace) (g : Goroutine) : Prop where
 zero : gs[0]? = some g
 leave : ∃ q, Leavers P t gs q
 past : ∃ B, Past (fun _ => False) B t
def Leads (P : Program) (K : Goroutine → World → Prop) (g : Goroutine) (w : World) : Prop :=
 ∀ gs sl t, Fr P gs t g → ∃ N gs' g' w' sl' t', runNT P N (crowd gs w sl) t = (.next (crowd gs' w' sl'), t') ∧ Fr P gs' t' g' ∧ K g' w'
theorem runNT_app {m m' m'' : Machine} {t t' t'' : Trace} {N M : Nat} (h : runNT P N m t = (.next m', t')) (hk : runNT P M m' t' = (.next m'', t'')) : runNT P (N + M) m t = (.next m'', t'') := by
 rw [runNT_add, h]; exact hk
theorem Leads.here {K : Goroutine → World → Prop} {g : Goroutine} {w : World} (h : K g w) : Leads P K g w := fun gs sl t hf => ⟨0, gs, g, w, sl, t, rfl, hf, h⟩
theorem Leads.trans {K L : Goroutine → World → Prop} {g : Goroutine} {w : World} (h : Leads P K g w) (hk : ∀ g' w', K g' w' → Leads P L g' w') : Leads P L g w := by
 intro gs sl t hf
 obtain ⟨N, gs1, g1, w1, sl1, t1, h1, h2, h3⟩ := h gs sl t hf
 obtain ⟨M, gs2, g2, w2, sl2, t2, h4, h5, h6⟩ := hk g1 w1 h3 gs1 sl1 t1 h2
 exact ⟨N + M, gs2, g2, w2, sl2, t2, runNT_app h1 h4, h5, h6⟩
theorem Leads.mono {K L : Goroutine → World → Prop} {g : Goroutine} {w : World} (h : Leads P K g w) (hk : ∀ g' w', K g' w' → L g' w') : Leads P L g w := h.trans fun g' w' x => .here (hk g' w' x)
theorem low_any (act : MemAct) : ∃ B, act.low B := by
 cases act with
 | access e =>
  obtain ⟨loc, wr, sy⟩ := e
  cases loc with
  | cell a => exact ⟨a.block + 1, Nat.lt_succ_self _⟩
  | obj r => exact ⟨r + 1, Nat.lt_succ_self _⟩
  | _ => exact ⟨0, trivial⟩
 | mark m =>
  cases m with
  | acquire a => exact ⟨a.block + 1, Nat.lt_succ_self _⟩
  | release a => exact ⟨a.block + 1, Nat.lt_succ_self _⟩
  | releaseMerge a => exact ⟨a.block + 1, Nat.lt_succ_self _⟩
  | read a => exact ⟨a.block + 1, Nat.lt_succ_self _⟩
  | write a => exact ⟨a.block + 1, Nat.lt_succ_self _⟩
  | _ => exact ⟨0, trivial⟩
 | go _ => exact ⟨0, trivial⟩
 | start => exact ⟨0, trivial⟩
 | send c _ => exact ⟨c + 1, Nat.lt_succ_self _⟩
 | sendDone c _ => exact ⟨c + 1, Nat.lt_succ_self _⟩
 | recv c _ _ => exact ⟨c + 1, Nat.lt_succ_self _⟩
 | recvDone c _ => exact ⟨c + 1, Nat.lt_succ_self _⟩
 | close c => exact ⟨c + 1, Nat.lt_succ_self _⟩
 | recvClosed c => exact ⟨c + 1, Nat.lt_succ_self _⟩
theorem low_all (ops : Array MemOp) (B : Nat) : ∃ B', B ≤ B' ∧ ∀ op ∈ ops, op.act.low B' := by
 obtain ⟨l⟩ := ops
 induction l with
 | nil => exact ⟨B, Nat.le_refl _, by simp⟩
 | cons a l ih =>
  obtain ⟨B1, h1, h2⟩ := ih
  obtain ⟨B2, h3⟩ := low_any a.act
  refine ⟨max B1 B2, Nat.le_trans h1 (Nat.le_max_left _ _), fun op hop => ?_⟩
  simp at hop
  rcases hop with rfl | hop
  ·exact MemAct.low_mono (Nat.le_max_right _ _) h3
  ·exact MemAct.low_mono (Nat.le_max_left _ _) (h2 op (by simpa using hop))
theorem Fr.own {gs : Array Goroutine} {t : Trace} {g g' : Goroutine} (hf : Fr P gs t g) {ops : Array MemOp} {f : Goroutine → Goroutine} (h1 : ∀ op ∈ ops, op.g = 0) (h2 : Deaf t 0 = 0 → Deaf (t ++ ops) 0 = 0) (h3 : ∀ x, (x.status = .running ∨ x.status = .finished) → f x = x) :
  Fr P ((gs.map f).setIfInBounds 0 g') (t ++ ops) g' := by
 obtain ⟨h0, ⟨q, hL⟩, ⟨B, hB⟩⟩ := hf
 have hlt : 0 < gs.size := (Array.getElem?_eq_some_iff.1 h0).1
 obtain ⟨B', hb1, hb2⟩ := low_all ops B
 refine ⟨by simp [hlt], ⟨q, fun j x hj hx => ?_, fun j hj => ?_⟩, ⟨B', ?_⟩⟩
 ·have hne : 0 ≠ j := by omega
  rw [Array.getElem?_setIfInBounds_ne hne, Array.getElem?_map] at hx
  obtain ⟨y, hy, rfl⟩ := Option.map_eq_some_iff.1 hx
  have hq := hL.old j y hj hy
  rw [h3 y hq.status, Deaf_other t (by omega) ops h1]
  exact hq
 ·rw [Deaf_other t (g' := 0) (by simp at hj; omega) ops h1]
  exact hL.above j (by simpa using hj)
 ·refine (hB.mono hb1).app0 h1 (fun _ _ _ _ h => h.elim) ?_ hb2
  rw [h2 hB.hears, hB.hears]
theorem tree_leads {K : Goroutine → World → Prop} {g : Goroutine} {w : World} (h : Tree P K g w) : Leads P K g w := by
 induction h with
 | stop hk => exact .here hk
 | @step g w f hg h1 _ ih =>
  have main : ∀ (M : Nat) (gs : Array Goroutine) (d0 : Nat) (sl : Option (Nat × Nat)) (t : Trace) (q : Nat → Nat), sumTo gs.size q ≤ M → gs[0]? = some g → Leavers P t gs q → (∃ B, Past (fun _ => False) B t) →
    ∃ N gs' g' w' sl' t', runNT P N (crowd gs (w.at d0) sl) t = (.next (crowd gs' w' sl'), t') ∧ Fr P gs' t' g' ∧ K g' w' := by
   intro M
   induction M using Nat.strongRecOn with
   | _ M ihM =>
    intro gs d0 sl t q hM h0 hL hB
    have haw : ∀ x ∈ gs, awake x := by
     intro x hx
     obtain ⟨i, hi, rfl⟩ := Array.mem_iff_getElem.1 hx
     rcases Nat.eq_zero_or_pos i with rfl | hpos
     ·have : gs[0] = g := by simpa [Array.getElem?_eq_getElem hi] using h0
      rw [this]; exact awake_of (.inl hg.status)
     ·exact awake_of ((hL.old i _ hpos (Array.getElem?_eq_getElem hi)).status.elim .inl fun x => .inr (.inr x))
    obtain ⟨i, x, d, sl', hi, hx, hst⟩ := crowd_pick (P := P) (w := w.at d0) (sl := sl) haw ⟨0, g, h0, hg.status⟩
    have hw : (w.at d0).at d = re w w.tape d := rfl
    rw [hw] at hst
    rcases Nat.eq_zero_or_pos i with rfl | hpos
    ·
     obtain rfl : x = g := by rw [h0] at hi; exact (Option.some.inj hi).symm
     obtain ⟨a1, a2, a3⟩ := h1 w.tape d
     obtain ⟨fw, b1, b2⟩ := a2.beside gs sl' h0 (fun j y hj hy => (hL.old j y hj hy).status)
     have hfr := Fr.own (P := P) (g' := (f w.tape d).1) ⟨h0, ⟨q, hL⟩, hB⟩ a2.own (a2.hears t) b1
     obtain ⟨N, gs', g', w', sl'', t', c1, c2, c3⟩ := ih w.tape d _ sl' _ hfr
     exact ⟨N + 1, gs', g', w', sl'', t', by simp only [runNT, hst, b2]; exact c1, c2, c3⟩
    ·
     have hq := hL.old i x hpos hi
     have hi0 : (i == 0) = false := by simp; omega
     have hlt : i < gs.size := (Array.getElem?_eq_some_iff.1 hi).1
     cases hqi : q i with
     | zero => rw [hqi] at hq; rw [hq.1] at hx; cases hx
     | succ k =>
      rw [hqi] at hq
      rcases hq with ⟨hfin, _⟩ | ⟨_, x', es, hm, hstp, hq'⟩
      ·rw [hfin] at hx; cases hx
      have hrunT := runT_crowd_go (P := P) (w := re w w.tape d) (sl := sl') (i := i) hi (by rw [hi0]; exact hstp (re w w.tape d))
      have hsz : ((gs.map (woken P x x' (re w w.tape d))).setIfInBounds i x').size = gs.size := by simp
      have hsum : sumTo gs.size (upd q i k) + (k + 1) = sumTo gs.size q + k := by
       have := sumTo_upd q k id hlt
       simpa [hqi] using this
      obtain ⟨B, hB⟩ := hB
      obtain ⟨N, gs', g', w', sl'', t', c1, c2, c3⟩ := ihM (sumTo gs.size (upd q i k)) (by omega) ((gs.map (woken P x x' (re w w.tape d))).setIfInBounds i x') d sl' (t ++ MemOp.ofEvents i x.frame.fn x.frame.place es) (upd q i k) (by rw [hsz]; exact Nat.le_refl _)
       (by
        have hne : i ≠ 0 := by omega
        rw [Array.getElem?_setIfInBounds_ne hne, Array.getElem?_map, h0]
        simp [woken_running hg.status])
       ⟨fun j y hj hy => by
        by_cases hji : i = j
        ·subst hji
         rw [Array.getElem?_setIfInBounds_self_of_lt (by simpa using hlt)] at hy
         obtain rfl := Option.some.inj hy
         rw [upd_same, Deaf_own]
         exact hq'
        ·rw [Array.getElem?_setIfInBounds_ne hji, Array.getElem?_map] at hy
         obtain ⟨z, hz, rfl⟩ := Option.map_eq_some_iff.1 hy
         have hqj := hL.old j z hj hz
         rw [woken_quitsD hqj, upd_ne q k (Ne.symm hji), Deaf_other t hji _ (fun op hop => by obtain ⟨e, _, rfl⟩ := Go.Conc.mem_ofEvents hop; rfl)]
         exact hqj, fun j hj => by
        rw [Deaf_other t (g' := i) (by simp at hj; omega) _ (fun op hop => by obtain ⟨e, _, rfl⟩ := Go.Conc.mem_ofEvents hop; rfl)]
        exact hL.above j (by simpa using hj)⟩
       ⟨B, hB.mute (by omega) hm⟩
      exact ⟨N + 1, gs', g', w', sl'', t', by simp only [runNT, hst, hrunT]; exact c1, c2, c3⟩
  intro gs sl t hf
  obtain ⟨h0, ⟨q, hL⟩, hB⟩ := hf
  exact main _ gs w.drawn sl t q (Nat.le_refl _) h0 hL hB
end Go.Proofs.YtpbbmagjhkakgaaGreatDoor.Lf
namespace Go.Proofs.YtpbbmagjhkakgaaGreatDoor.Lf
open Go Go.Conc
open Go.ConcN (sumTo upd sumTo_upd upd_ne upd_same)
variable {P : Program}
theorem Deaf_off (t : Trace) {g : Nat} (u : Trace) (hu : ∀ op ∈ u, op.g ≠ g) : Deaf (t ++ u) g = Deaf t g := by
  have key : ∀ (l : List MemOp) (d : Nat), (∀ op ∈ l, op.g ≠ g) → l.foldl (deafStep g) d = d := by
    intro l
    induction l with
    | nil => intro d _; rfl
    | cons y l ih =>
      intro d h
      have hy : y.g ≠ g := h y (by simp)
      have : deafStep g d y = d := by
        unfold deafStep
        split <;> simp_all
      rw [List.foldl_cons, this]
      exact ih d fun op hop => h op (by simp [hop])
  have e : (t ++ u : Trace) = t ++ u.toList.toArray := by simp
  rw [e, Deaf_append]
  exact key _ _ fun op hop => hu op (by simpa using hop)
structure LeavX (P : Program) (skip : Nat → Prop) (t : Trace) (gs : Array Goroutine) (q : Nat → Nat) : Prop where
  old : ∀ i g, 0 < i → ¬ skip i → gs[i]? = some g → QuitsD P (q i) (Deaf t i) g
  above : ∀ j, gs.size ≤ j → Deaf t j = 0
theorem LeavX.of {t : Trace} {gs : Array Goroutine} {q : Nat → Nat} (h : Leavers P t gs q) (skip : Nat → Prop) : LeavX P skip t gs q := ⟨fun i g h0 _ hg => h.old i g h0 hg, h.above⟩
theorem LeavX.all {t : Trace} {gs : Array Goroutine} {q : Nat → Nat} (h : LeavX P (fun _ => False) t gs q) : Leavers P t gs q := ⟨fun i g h0 hg => h.old i g h0 (fun x => x) hg, h.above⟩
theorem LeavX.turn {skip : Nat → Prop} {t u : Trace} {gs gs' : Array Goroutine} {q : Nat → Nat} (h : LeavX P skip t gs q) (hs : gs'.size = gs.size) (hg : ∀ i x, 0 < i → ¬ skip i → gs'[i]? = some x → gs[i]? = some x) (hu : ∀ op ∈ u, (op.g = 0 ∨ skip op.g) ∧ op.g < gs.size) : LeavX P skip (t ++ u) gs' q := by
  refine ⟨fun i x h0 hk hx => ?_, fun j hj => ?_⟩
  · rw [Deaf_off t u fun op hop e => ?_]
    · exact h.old i x h0 hk (hg i x h0 hk hx)
    · rcases (hu op hop).1 with h1 | h1
      · omega
      · exact hk (e ▸ h1)
  · rw [Deaf_off t u fun op hop e => ?_]
    · exact h.above j (by omega)
    · have := (hu op hop).2; omega
theorem slip {skip : Nat → Prop} {gs : Array Goroutine} {t : Trace} {q : Nat → Nat} {w : World} {sl : Option (Nat × Nat)} {i : Nat} {x : Goroutine} (hL : LeavX P skip t gs q) (hi : gs[i]? = some x) (hx : x.status = .running) (hpos : 0 < i) (hsk : ¬ skip i) :
    ∃ (gs' : Array Goroutine) (u : Trace) (q' : Nat → Nat), runT P (crowd gs w sl) i = (.next (crowd gs' w sl), u) ∧ gs'.size = gs.size ∧ sumTo gs.size q' < sumTo gs.size q ∧ LeavX P skip (t ++ u) gs' q' ∧
      (∀ op ∈ u, op.g = i ∧ op.act.touch? = none ∧ ∀ B, op.act.low B) ∧ ∀ j y, (j = 0 ∨ skip j) → gs[j]? = some y → (∀ a a', woken P a a' w y = y) → gs'[j]? = some y := by
  have hq := hL.old i x hpos hsk hi
  have hi0 : (i == 0) = false := by simp; omega
  have hlt : i < gs.size := (Array.getElem?_eq_some_iff.1 hi).1
  cases hqi : q i with
  | zero => rw [hqi] at hq; rw [hq.1] at hx; cases hx
  | succ k =>
    rw [hqi] at hq
    rcases hq with ⟨hfin, _⟩ | ⟨_, x', es, hm, hstp, hq'⟩
    · rw [hfin] at hx; cases hx
    have hrunT := runT_crowd_go (P := P) (w := w) (sl := sl) (i := i) hi (by rw [hi0]; exact hstp w)
    have hown : ∀ op ∈ MemOp.ofEvents i x.frame.fn x.frame.place es, op.g = i := fun op hop => by obtain ⟨e, _, rfl⟩ := Go.Conc.mem_ofEvents hop; rfl
    refine ⟨(gs.map (woken P x x' w)).setIfInBounds i x', MemOp.ofEvents i x.frame.fn x.frame.place es, upd q i k, hrunT, by simp, ?_, ⟨fun j y hj hjs hy => ?_, fun j hj => ?_⟩, fun op hop => ?_, fun j y hj hy hw => ?_⟩
    · have hsum : sumTo gs.size (upd q i k) + (k + 1) = sumTo gs.size q + k := by
        have := sumTo_upd q k id hlt
        simpa [hqi] using this
      omega
    · by_cases hji : i = j
      · subst hji
        rw [Array.getElem?_setIfInBounds_self_of_lt (by simpa using hlt)] at hy
        obtain rfl := Option.some.inj hy
        rw [upd_same, Deaf_own]
        exact hq'
      · rw [Array.getElem?_setIfInBounds_ne hji, Array.getElem?_map] at hy
        obtain ⟨z, hz, rfl⟩ := Option.map_eq_some_iff.1 hy
        have hqj := hL.old j z hj hjs hz
        rw [woken_quitsD hqj, upd_ne q k (Ne.symm hji), Deaf_off t _ (fun op hop e => hji ((hown op hop).symm.trans e))]
        exact hqj
    · rw [Deaf_off t _ (fun op hop e => by have := hown op hop; simp at hj; omega)]
      exact hL.above j (by simpa using hj)
    · obtain ⟨e, he, rfl⟩ := Go.Conc.mem_ofEvents hop
      exact ⟨rfl, touch_mute (hm e he), low_mute (hm e he)⟩
    · have hne : i ≠ j := by
        rintro rfl
        rcases hj with h | h
        · omega
        · exact hsk h
      rw [Array.getElem?_setIfInBounds_ne hne, Array.getElem?_map, hy]
      simp [hw]
def EvK (C : Touch → Prop) (e : Event) : Prop := (∀ x, (MemAct.ofEvent e).touch? = some x → x.loc.isMemory = true → C x) ∧ e.loc ≠ .mark .disable ∧ e.loc ≠ .mark .enable
structure Apt (B : Nat) (S T : Nat → Prop) (w : World) : Prop where
  s : ∀ b, S b → B ≤ b ∧ b < w.heap.size
  t : ∀ b, T b → B ≤ b ∧ b < w.heap.size
  st : ∀ b, S b → ¬ T b
  low : B ≤ w.heap.size
theorem Apt.same {B : Nat} {S T : Nat → Prop} {w w' : World} (h : Apt B S T w) (e : w'.heap.size = w.heap.size) : Apt B S T w' := ⟨fun b x => by rw [e]; exact h.s b x, fun b x => by rw [e]; exact h.t b x, h.st, by rw [e]; exact h.low⟩
theorem Apt.grow0 {B : Nat} {S T : Nat → Prop} {w w' : World} (h : Apt B S T w) (e : w.heap.size ≤ w'.heap.size) : Apt B (grow S w w') T w' :=
  ⟨fun b x => by
    rcases x with x | x
    · have := h.s b x; omega
    · have := h.low; omega, fun b x => by have := h.t b x; omega, fun b x y => by
    rcases x with x | x
    · exact h.st b x y
    · have := h.t b y; omega, by have := h.low; omega⟩
theorem Apt.growC {B : Nat} {S T : Nat → Prop} {w w' : World} (h : Apt B S T w) (e : w.heap.size ≤ w'.heap.size) : Apt B S (grow T w w') w' :=
  ⟨fun b x => by have := h.s b x; omega, fun b x => by
    rcases x with x | x
    · have := h.t b x; omega
    · have := h.low; omega, fun b x y => by
    rcases y with y | y
    · exact h.st b x y
    · have := h.s b x; omega, by have := h.low; omega⟩
structure Pair (c B : Nat) (R0 : (Nat → Prop) → World → World → Prop) (D0 : (Nat → Prop) → World → World → Array Event → Prop) (RB : (Nat → Prop) → World → World → Prop) (DB : (Nat → Prop) → World → World → Array Event → Prop) (CA CB : (Nat → Prop) → Touch → Prop) : Prop where
  t0 : TermsG R0 D0
  tB : TermsG RB DB
  refl0 : ∀ S w, R0 S w w
  reflB : ∀ S w, RB S w w
  at0 : ∀ S (w : World) (d : Nat), R0 S w (w.at d)
  atB : ∀ S (w : World) (d : Nat), RB S w (w.at d)
  put0 : ∀ S (w : World) n buf cl s r tm, R0 S w (w.setChan c n buf cl s r tm)
  putB : ∀ S (w : World) n buf cl s r tm, RB S w (w.setChan c n buf cl s r tm)
  d0 : ∀ S T w w' es, Apt B S T w → D0 S w w' es → RB T w w' ∧ w'.heap[c]? = w.heap[c]? ∧ (∀ e ∈ es, EvK (CA (grow S w w')) e) ∧ w.heap.size ≤ w'.heap.size
  dB : ∀ S T w w' es, Apt B S T w → DB T w w' es → R0 S w w' ∧ w'.heap[c]? = w.heap[c]? ∧ (∀ e ∈ es, EvK (CB (grow T w w')) e) ∧ w.heap.size ≤ w'.heap.size
  mono : ∀ S S', (∀ b, S b → S' b) → (∀ a, CA S a → CA S' a) ∧ (∀ a, CB S a → CB S' a)
  apart : ∀ S T w, Apt B S T w → ApartT (CA S) (CB T)
theorem grow_sub (S : Nat → Prop) (w w' : World) : ∀ b, S b → grow S w w' b := fun _ h => .inl h
theorem setChan_size (w : World) (c n : Nat) (buf : Array Value) (cl : Bool) (s r : Nat) (tm : Bool) : (w.setChan c n buf cl s r tm).heap.size = w.heap.size := by simp [World.setChan]
section
theorem ops_own {C : Touch → Prop} {g : Nat} {fn : FuncId} {pos : String} {es : Array Event} (h : ∀ e ∈ es, EvK C e) : (∀ op ∈ MemOp.ofEvents g fn pos es, op.g = g) ∧ (∀ op ∈ MemOp.ofEvents g fn pos es, ∀ b, op.act.touch? = some b → b.loc.isMemory = true → C b) ∧ ∀ t : Trace, Deaf (t ++ MemOp.ofEvents g fn pos es) g = Deaf t g :=
  ⟨fun op hop => by obtain ⟨e, _, rfl⟩ := Go.Conc.mem_ofEvents hop; rfl, fun op hop b hb hm => by obtain ⟨e, he, rfl⟩ := Go.Conc.mem_ofEvents hop; exact (h e he).1 b hb hm, fun t => by rw [Deaf_own]; exact deafBehind_still (fun e he => (h e he).2) _⟩
theorem TI.evs0 {hc : Prop} {κ B : Nat} {A C : Touch → Prop} {t : Trace} (hκ : κ ≠ 0) (hA : ApartT A C) (h : TI hc κ B A C t) {fn : FuncId} {pos : String} {es : Array Event} (hes : ∀ e ∈ es, EvK A e) : ∃ B', B ≤ B' ∧ TI hc κ B' A C (t ++ MemOp.ofEvents 0 fn pos es) := by
  obtain ⟨h1, h2, h3⟩ := ops_own (g := 0) (fn := fn) (pos := pos) hes
  obtain ⟨B', hb, hl⟩ := low_all (MemOp.ofEvents 0 fn pos es) B
  exact ⟨B', hb, (h.mono hb (fun _ x => x) (fun _ x => x)).app0 hκ hA h1 h2 ((h3 t).trans h.hears) hl⟩
theorem TI.evsC {hc : Prop} {κ B : Nat} {A C : Touch → Prop} {t : Trace} (hκ : κ ≠ 0) (hA : ApartT A C) (h : TI hc κ B A C t) {fn : FuncId} {pos : String} {es : Array Event} (hes : ∀ e ∈ es, EvK C e) : ∃ B', B ≤ B' ∧ TI hc κ B' A C (t ++ MemOp.ofEvents κ fn pos es) := by
  obtain ⟨h1, h2, h3⟩ := ops_own (g := κ) (fn := fn) (pos := pos) hes
  obtain ⟨B', hb, hl⟩ := low_all (MemOp.ofEvents κ fn pos es) B
  exact ⟨B', hb, (h.mono hb (fun _ x => x) (fun _ x => x)).appC hκ hA h1 h2 (fun x => (h3 t).trans (h.hearsC x)) hl⟩
theorem TI.still {hc : Prop} {κ B : Nat} {A C : Touch → Prop} {t u : Trace} (h : TI hc κ B A C t) (hn : ∀ op ∈ u, op.act.touch? = none) (hd : ∀ op ∈ u, (op.g ≠ 0 ∨ (op.act ≠ .mark .disable ∧ op.act ≠ .mark .enable)) ∧ (op.g ≠ κ ∨ (op.act ≠ .mark .disable ∧ op.act ≠ .mark .enable) ∨ ¬ hc)) : ∃ B', B ≤ B' ∧ TI hc κ B' A C (t ++ u) := by
  have still : ∀ g, (∀ op ∈ u, op.g ≠ g ∨ (op.act ≠ .mark .disable ∧ op.act ≠ .mark .enable)) → Deaf (t ++ u) g = Deaf t g := by
    intro g hg
    have key : ∀ (l : List MemOp) (d : Nat), (∀ op ∈ l, op.g ≠ g ∨ (op.act ≠ .mark .disable ∧ op.act ≠ .mark .enable)) → l.foldl (deafStep g) d = d := by
      intro l
      induction l with
      | nil => intro d _; rfl
      | cons y l ih =>
        intro d h
        have hy := h y (by simp)
        have : deafStep g d y = d := by
          unfold deafStep
          split <;> simp_all
        rw [List.foldl_cons, this]
        exact ih d fun op hop => h op (by simp [hop])
    have e : (t ++ u : Trace) = t ++ u.toList.toArray := by simp
    rw [e, Deaf_append]
    exact key _ _ fun op hop => hg op (by simpa using hop)
  obtain ⟨B', hb, hl⟩ := low_all u B
  refine ⟨B', hb, (h.mono hb (fun _ x => x) (fun _ x => x)).appMute hn ((still 0 fun op hop => (hd op hop).1).trans h.hears) (fun x => (still κ fun op hop => ?_).trans (h.hearsC x)) hl⟩
  rcases (hd op hop).2 with y | y | y
  · exact .inl y
  · exact .inr y
  · exact absurd x y
end
end Go.Proofs.YtpbbmagjhkakgaaGreatDoor.Lf
namespace Go.Proofs.YtpbbmagjhkakgaaGreatDoor.Lf
open Go Go.Conc
open Go.ConcN (sumTo upd sumTo_upd upd_ne upd_same)
variable {P : Program}
section
variable (P : Program) (c : Nat) (z : Value) (R0 : (Nat → Prop) → World → World → Prop) (D0 : (Nat → Prop) → World → World → Array Event → Prop) (RB : (Nat → Prop) → World → World → Prop) (DB : (Nat → Prop) → World → World → Array Event → Prop) (CA CB : (Nat → Prop) → Touch → Prop) (n : Nat)
def AtR (S : Nat → Prop) (g : Goroutine) (w : World) : Prop := ∀ w₁, R0 S w w₁ → ∃ es, stepG P true g w₁ = .comm g #[rcase c z] true (.recv true) w₁ es ∧ ∀ e ∈ es, EvK (CA S) e
inductive SA (K : Goroutine → World → Prop) : List Value → (Nat → Prop) → Goroutine → World → Prop
 | own {L : List Value} {S : Nat → Prop} {g : Goroutine} {w : World} (f : World → Goroutine × World × Array Event) : g.status = .running → (∀ w₁, R0 S w w₁ → stepG P true g w₁ = .go (f w₁).1 (f w₁).2.1 (f w₁).2.2 ∧ D0 S w₁ (f w₁).2.1 (f w₁).2.2) → (∀ w₁, R0 S w w₁ → SA K L (grow S w₁ (f w₁).2.1) (f w₁).1 (f w₁).2.1) → SA K L S g w
 | recv {v : Value} {L : List Value} {S : Nat → Prop} {g : Goroutine} {w : World} : g.status = .running → AtR P c z R0 CA S g w → (∀ w₁, R0 S w w₁ → SA K L S (Go.Conc.served g (recvd true v true)) w₁) → SA K (v :: L) S g w
 | fin {S : Nat → Prop} {g : Goroutine} {w : World} : g.status = .running → AtR P c z R0 CA S g w → (∀ w₁, R0 S w w₁ → K (Go.Conc.served g (recvd true z false)) w₁) → SA K [] S g w
inductive SB : List Value → (Nat → Prop) → Goroutine → World → Prop
 | own {L : List Value} {T : Nat → Prop} {g : Goroutine} {w : World} (f : World → Goroutine × World × Array Event) : g.status = .running → (∀ w₁, RB T w w₁ → stepG P false g w₁ = .go (f w₁).1 (f w₁).2.1 (f w₁).2.2 ∧ DB T w₁ (f w₁).2.1 (f w₁).2.2) → (∀ w₁, RB T w w₁ → SB L (grow T w₁ (f w₁).2.1) (f w₁).1 (f w₁).2.1) → SB L T g w
 | send {v y : Value} {L : List Value} {T : Nat → Prop} {g : Goroutine} {w : World} : g.status = .running → (∀ w₁, RB T w w₁ → ∃ es, stepG P false g w₁ = .comm g #[scase c v y] true .send w₁ es ∧ ∀ e ∈ es, EvK (CB T) e) → (∀ w₁, RB T w w₁ → SB L T (Go.Conc.served g undef) w₁) → SB (v :: L) T g w
 | close {T : Nat → Prop} {g g' : Goroutine} {w : World} {q : Nat} : g.status = .running → mayWake P g = true → (∀ w₁ buf s r, RB T w w₁ → w₁.heap[c]? = some (.chan n buf false s r false) → ∃ es : Array Event, stepG P false g w₁ = .go g' (w₁.setChan c n buf true s r false) (es.push ⟨.obj c, true, true⟩) ∧ ∀ e ∈ es, EvK (CB T) e) → QuitsD P q 0 g' → SB [] T g w
end
section
variable {c : Nat} {z : Value} {B₀ : Nat} {R0 : (Nat → Prop) → World → World → Prop} {D0 : (Nat → Prop) → World → World → Array Event → Prop} {RB : (Nat → Prop) → World → World → Prop} {DB : (Nat → Prop) → World → World → Array Event → Prop} {CA CB : (Nat → Prop) → Touch → Prop} {n : Nat} {K : Goroutine → World → Prop}
theorem SA.running {L : List Value} {S : Nat → Prop} {g : Goroutine} {w : World} (h : SA P c z R0 D0 CA K L S g w) : g.status = .running := by cases h <;> assumption
theorem SA.rely (H : Pair c B₀ R0 D0 RB DB CA CB) {L : List Value} {S : Nat → Prop} {g : Goroutine} {w w' : World} (h : SA P c z R0 D0 CA K L S g w) (hr : R0 S w w') : SA P c z R0 D0 CA K L S g w' := by
 cases h with
 | own f h1 h2 h3 => exact .own f h1 (fun w₁ h₁ => h2 w₁ (H.t0.trans _ _ _ _ hr h₁)) (fun w₁ h₁ => h3 w₁ (H.t0.trans _ _ _ _ hr h₁))
 | recv h1 h2 h3 => exact .recv h1 (fun w₁ h₁ => h2 w₁ (H.t0.trans _ _ _ _ hr h₁)) (fun w₁ h₁ => h3 w₁ (H.t0.trans _ _ _ _ hr h₁))
 | fin h1 h2 h3 => exact .fin h1 (fun w₁ h₁ => h2 w₁ (H.t0.trans _ _ _ _ hr h₁)) (fun w₁ h₁ => h3 w₁ (H.t0.trans _ _ _ _ hr h₁))
structure LooksAs (x g : Goroutine) : Prop where
 status : x.status = .running
 frame : x.frame = g.frame
 callers : x.callers = g.callers
 dying : x.dying = g.dying
theorem LooksAs.step {x g : Goroutine} (h : LooksAs x g) (main : Bool) (w : World) : stepG P main x w = stepG P main g w := stepG_same h.frame h.callers h.dying w
theorem LooksAs.self {g : Goroutine} (h : g.status = .running) : LooksAs g g := ⟨h, rfl, rfl, rfl⟩
def Ends0 (P : Program) (K : Goroutine → World → Prop) (m : Machine) (t : Trace) : Prop := ∃ N gs' g' w' sl' t', runNT P N m t = (.next (crowd gs' w' sl'), t') ∧ Fr P gs' t' g' ∧ K g' w'
theorem Ends0.step {m m' : Machine} {t : Trace} {u : Trace} (h : stepT P m = (.next m', u)) (h' : Ends0 P K m' (t ++ u)) : Ends0 P K m t := by
 obtain ⟨N, gs', g', w', sl', t', h1, h2⟩ := h'
 exact ⟨N + 1, gs', g', w', sl', t', by simp only [runNT, h]; exact h1, h2⟩
theorem no_partners {gs : Array Goroutine} {i r : Nat} {send : Bool} (h : ∀ (j : Nat) (g : Goroutine), j ≠ i → gs[j]? = some g → g.status ≠ .blocked) : partners (gs.setIfInBounds i ph) r send = [] := by
 refine partners_nil fun j g hg => ?_
 rcases getElem?_stand gs i j g hg with ⟨_, rfl⟩ | ⟨hne, hg'⟩
 ·exact offersAt_ph r send
 ·exact offersAt_of_not_blocked (h j g hne hg') r send
theorem setChan_same {w : World} {c cap s r cap' s' r' : Nat} {buf buf' : Array Value} {cl cl' tm tm' : Bool} (h : w.heap[c]? = some (.chan cap' buf' cl' s' r' tm')) : (w.setChan c cap buf cl s r tm).heap[c]? = some (.chan cap buf cl s r tm) := heap_put h
theorem take_head {buf : Array Value} {v : Value} {L : List Value} (hl : v :: L = buf.toList) : 0 < buf.size ∧ buf.getD 0 undef = v ∧ (buf.extract 1 buf.size).toList = L := by
 obtain ⟨l⟩ := buf
 simp only at hl
 subst hl
 simp [Array.getD_eq_getD_getElem?]
theorem phase_shut (H : Pair c B₀ R0 D0 RB DB CA CB) {κ : Nat} (hκ : κ ≠ 0) {L : List Value} {S : Nat → Prop} {g : Goroutine} {w : World} (hA : SA P c z R0 D0 CA K L S g w) :
  ∀ (M : Nat) (T : Nat → Prop) (gs : Array Goroutine) (x : Goroutine) (w₂ : World) (sl : Option (Nat × Nat)) (t : Trace) (q : Nat → Nat) (buf : Array Value) (s r : Nat), sumTo gs.size q ≤ M → Apt B₀ S T w₂ → R0 S w w₂ → LooksAs x g → gs[0]? = some x → κ < gs.size →
   LeavX P (fun _ => False) t gs q → (∃ B, TI False κ B (CA S) (CB T) t) → Shut κ c t → w₂.heap[c]? = some (.chan n buf true s r false) → L = buf.toList → Ends0 P K (crowd gs w₂ sl) t := by
 induction hA with
 | @own L S g w f hs h1 h2 ih =>
  intro M
  induction M using Nat.strongRecOn with
  | _ M ihM =>
   intro T gs x w₂ sl t q buf s r hM hAp hR hx h0 hk hL hT hS hc hl
   have haw : ∀ y ∈ gs, awake y := by
    intro y hy
    obtain ⟨i, hi, rfl⟩ := Array.mem_iff_getElem.1 hy
    rcases Nat.eq_zero_or_pos i with rfl | hpos
    ·have : gs[0] = x := by simpa [Array.getElem?_eq_getElem hi] using h0
     rw [this]; exact awake_of (.inl hx.status)
    ·exact awake_of ((hL.old i _ hpos (fun x => x) (Array.getElem?_eq_getElem hi)).status.elim .inl fun x => .inr (.inr x))
   obtain ⟨i, y, d, sl', hi, hy, hst⟩ := crowd_pick (P := P) (w := w₂) (sl := sl) haw ⟨0, x, h0, hx.status⟩
   have hR' := H.t0.trans _ _ _ _ hR (H.at0 _ w₂ d)
   obtain ⟨B, hT⟩ := hT
   have hT' := hT
   have hAp' : Apt B₀ S T (w₂.at d) := hAp.same rfl
   rcases Nat.eq_zero_or_pos i with rfl | hpos
   ·obtain rfl : y = x := by rw [h0] at hi; exact (Option.some.inj hi).symm
    obtain ⟨a1, a2⟩ := h1 _ hR'
    have hgo := (hx.step (P := P) true (w₂.at d)).trans a1
    obtain ⟨b1, b2, b3, b4⟩ := H.d0 _ _ _ _ _ hAp' a2
    have hrun := runT_crowd_go (P := P) (w := w₂.at d) (sl := sl') (i := 0) hi (show stepG P (0 == 0) y (w₂.at d) = _ from hgo)
    have hlt : 0 < gs.size := (Array.getElem?_eq_some_iff.1 h0).1
    have hmn := H.mono _ _ (grow_sub S (w₂.at d) (f (w₂.at d)).2.1)
    obtain ⟨B', _, hT2⟩ := (hT'.mono (Nat.le_refl B) hmn.1 (fun _ x => x)).evs0 hκ (H.apart _ _ _ (hAp'.grow0 b4)) (fn := y.frame.fn) (pos := y.frame.place) b3
    refine Ends0.step (hst.trans hrun) (ih _ hR' _ T _ _ _ sl' _ q buf s r (Nat.le_refl _) (hAp'.grow0 b4) (H.refl0 _ _) (LooksAs.self (h2 _ hR').running) (by simp [hlt]) (by simpa using hk) ?_ ⟨B', hT2⟩ ?_ (b2.trans hc) hl)
    ·refine hL.turn (by simp) (fun j v hj _ hv => ?_) (fun op hop => by obtain ⟨e, _, rfl⟩ := Go.Conc.mem_ofEvents hop; exact ⟨.inl rfl, hlt⟩)
     rw [Array.getElem?_setIfInBounds_ne (by omega), Array.getElem?_map] at hv
     obtain ⟨z', hz, rfl⟩ := Option.map_eq_some_iff.1 hv
     rw [woken_quitsD (hL.old j z' hj (fun x => x) hz)]
     exact hz
    ·exact hS.app fun op hop e => by obtain ⟨e', _, rfl⟩ := Go.Conc.mem_ofEvents hop; exact absurd e.symm hκ
   ·obtain ⟨gs', u, q', e1, e2, e3, e4, e5, e6⟩ := slip (w := w₂.at d) (sl := sl') hL hi hy hpos (fun x => x)
    obtain ⟨B', _, hT2⟩ := hT'.still (fun op hop => (e5 op hop).2.1) (fun op hop => ⟨.inl (by rw [(e5 op hop).1]; omega), .inr (.inr (fun x => x))⟩)
    exact Ends0.step (hst.trans e1) (ihM _ (Nat.lt_of_lt_of_le e3 hM) T gs' x _ sl' _ q' buf s r (by rw [e2]; exact Nat.le_refl _) hAp' hR' hx (e6 0 x (.inl rfl) h0 fun a a' => woken_running hx.status) (by rw [e2]; exact hk) e4 ⟨B', hT2⟩ (hS.app fun op hop _ => (e5 op hop).2.1) hc hl)
 | @recv v L S g w hs h1 h2 ih =>
  intro M
  induction M using Nat.strongRecOn with
  | _ M ihM =>
   intro T gs x w₂ sl t q buf s r hM hAp hR hx h0 hk hL hT hS hc hl
   have haw : ∀ y ∈ gs, awake y := by
    intro y hy
    obtain ⟨i, hi, rfl⟩ := Array.mem_iff_getElem.1 hy
    rcases Nat.eq_zero_or_pos i with rfl | hpos
    ·have : gs[0] = x := by simpa [Array.getElem?_eq_getElem hi] using h0
     rw [this]; exact awake_of (.inl hx.status)
    ·exact awake_of ((hL.old i _ hpos (fun x => x) (Array.getElem?_eq_getElem hi)).status.elim .inl fun x => .inr (.inr x))
   obtain ⟨i, y, d, sl', hi, hy, hst⟩ := crowd_pick (P := P) (w := w₂) (sl := sl) haw ⟨0, x, h0, hx.status⟩
   have hR' := H.t0.trans _ _ _ _ hR (H.at0 _ w₂ d)
   obtain ⟨B, hT⟩ := hT
   have hT' := hT
   have hAp' : Apt B₀ S T (w₂.at d) := hAp.same rfl
   rcases Nat.eq_zero_or_pos i with rfl | hpos
   ·obtain rfl : y = x := by rw [h0] at hi; exact (Option.some.inj hi).symm
    obtain ⟨es, a1, a2⟩ := h1 _ hR'
    have hcm := (hx.step (P := P) true (w₂.at d)).trans a1
    obtain ⟨hsz, hhd, htl⟩ := take_head hl
    have hlt : 0 < gs.size := (Array.getElem?_eq_some_iff.1 h0).1
    have hrun := crowd_recv_buf (P := P) (gs := gs) (w := w₂.at d) (sl := sl') (i := 0) hi (show stepG P (0 == 0) y (w₂.at d) = _ from hcm) (show (w₂.at d).heap[c]? = _ from hc) hsz
     (no_partners fun j g' hj hg' => by have := (hL.old j g' (by omega) (fun x => x) hg').status; rcases this with e | e <;> rw [e] <;> simp)
    rw [finishComm_recv, hhd] at hrun
    have hput := H.put0 S (w₂.at d) n (buf.extract 1 buf.size) true s (r + 1) false
    obtain ⟨B', _, hT2⟩ := hT'.evs0 hκ (H.apart _ _ _ hAp') (fn := y.frame.fn) (pos := y.frame.place) a2
    obtain ⟨B'', _, hT3⟩ := hT2.still (u := #[{ g := 0, fn := g.frame.fn, pos := g.frame.place, act := .recv c r n }, { g := 0, fn := g.frame.fn, pos := g.frame.place, act := .recvDone c r }]) (fun op hop => by simp at hop; rcases hop with rfl | rfl <;> rfl) (fun op hop => by simp at hop; rcases hop with rfl | rfl <;> simp)
    have hR3 := H.t0.trans _ _ _ _ hR' hput
    refine Ends0.step (hst.trans hrun) (ih _ hR3 _ T _ _ _ sl' _ q (buf.extract 1 buf.size) s (r + 1) (Nat.le_refl _) (hAp'.same (setChan_size _ _ _ _ _ _ _ _)) (H.refl0 _ _) (LooksAs.self rfl) (by simp [hlt]) (by simpa using hk) ?_ ⟨B'', by rw [← Array.append_assoc]; exact hT3⟩ ?_ (setChan_same hc) htl.symm)
    ·refine hL.turn (by simp) (fun j v hj _ hv => ?_) (fun op hop => ?_)
     ·rw [Array.getElem?_setIfInBounds_ne (by omega)] at hv; exact hv
     ·rcases Array.mem_append.1 hop with hop | hop
      ·obtain ⟨e, _, rfl⟩ := Go.Conc.mem_ofEvents hop; exact ⟨.inl rfl, hlt⟩
      ·simp at hop; rcases hop with rfl | rfl <;> exact ⟨.inl rfl, hlt⟩
    ·refine hS.app fun op hop e => ?_
     rcases Array.mem_append.1 hop with hop | hop
     ·obtain ⟨e', _, rfl⟩ := Go.Conc.mem_ofEvents hop; exact absurd e.symm hκ
     ·simp at hop; rcases hop with rfl | rfl <;> rfl
   ·obtain ⟨gs', u, q', e1, e2, e3, e4, e5, e6⟩ := slip (w := w₂.at d) (sl := sl') hL hi hy hpos (fun x => x)
    obtain ⟨B', _, hT2⟩ := hT'.still (fun op hop => (e5 op hop).2.1) (fun op hop => ⟨.inl (by rw [(e5 op hop).1]; omega), .inr (.inr (fun x => x))⟩)
    exact Ends0.step (hst.trans e1) (ihM _ (Nat.lt_of_lt_of_le e3 hM) T gs' x _ sl' _ q' buf s r (by rw [e2]; exact Nat.le_refl _) hAp' hR' hx (e6 0 x (.inl rfl) h0 fun a a' => woken_running hx.status) (by rw [e2]; exact hk) e4 ⟨B', hT2⟩ (hS.app fun op hop _ => (e5 op hop).2.1) hc hl)
 | @fin S g w hs h1 h2 =>
  intro M
  induction M using Nat.strongRecOn with
  | _ M ihM =>
   intro T gs x w₂ sl t q buf s r hM hAp hR hx h0 hk hL hT hS hc hl
   have haw : ∀ y ∈ gs, awake y := by
    intro y hy
    obtain ⟨i, hi, rfl⟩ := Array.mem_iff_getElem.1 hy
    rcases Nat.eq_zero_or_pos i with rfl | hpos
    ·have : gs[0] = x := by simpa [Array.getElem?_eq_getElem hi] using h0
     rw [this]; exact awake_of (.inl hx.status)
    ·exact awake_of ((hL.old i _ hpos (fun x => x) (Array.getElem?_eq_getElem hi)).status.elim .inl fun x => .inr (.inr x))
   obtain ⟨i, y, d, sl', hi, hy, hst⟩ := crowd_pick (P := P) (w := w₂) (sl := sl) haw ⟨0, x, h0, hx.status⟩
   have hR' := H.t0.trans _ _ _ _ hR (H.at0 _ w₂ d)
   obtain ⟨B, hT⟩ := hT
   have hT' := hT
   have hAp' : Apt B₀ S T (w₂.at d) := hAp.same rfl
   rcases Nat.eq_zero_or_pos i with rfl | hpos
   ·obtain rfl : y = x := by rw [h0] at hi; exact (Option.some.inj hi).symm
    obtain ⟨es, a1, a2⟩ := h1 _ hR'
    have hcm := (hx.step (P := P) true (w₂.at d)).trans a1
    obtain rfl : buf = #[] := by
     have : buf.toList = [] := hl.symm
     simpa using this
    have hlt : 0 < gs.size := (Array.getElem?_eq_some_iff.1 h0).1
    have hrun := crowd_recv_closed (P := P) (gs := gs) (w := w₂.at d) (sl := sl') (i := 0) hi (show stepG P (0 == 0) y (w₂.at d) = _ from hcm) (show (w₂.at d).heap[c]? = _ from hc)
     (no_partners fun j g' hj hg' => by have := (hL.old j g' (by omega) (fun x => x) hg').status; rcases this with e | e <;> rw [e] <;> simp)
    rw [finishComm_recv] at hrun
    obtain ⟨B', hb', hT2⟩ := hT'.evs0 hκ (H.apart _ _ _ hAp') (fn := y.frame.fn) (pos := y.frame.place) a2
    have hS2 : Shut κ c (t ++ MemOp.ofEvents 0 y.frame.fn y.frame.place es) := hS.app fun op hop e => by obtain ⟨e', _, rfl⟩ := Go.Conc.mem_ofEvents hop; exact absurd e.symm hκ
    have hP := (hT2.mono (Nat.le_max_left B' (c + 1)) (fun _ x => x) (fun _ x => x)).join hκ hS2 (y := { g := 0, fn := g.frame.fn, pos := g.frame.place, act := .recvClosed c }) ⟨rfl, rfl⟩ (Nat.lt_of_lt_of_le (Nat.lt_succ_self c) (Nat.le_max_right _ _))
    refine Ends0.step (hst.trans hrun) ⟨0, _, _, _, sl', _, rfl, ⟨by simp [hlt], ⟨q, ?_⟩, ⟨_, by rw [← Array.append_assoc]; exact hP⟩⟩, h2 _ hR'⟩
    refine (hL.turn (by simp) (fun j v hj _ hv => ?_) (fun op hop => ?_)).all
    ·rw [Array.getElem?_setIfInBounds_ne (by omega)] at hv; exact hv
    ·rcases Array.mem_append.1 hop with hop | hop
     ·obtain ⟨e, _, rfl⟩ := Go.Conc.mem_ofEvents hop; exact ⟨.inl rfl, hlt⟩
     ·simp at hop; rcases hop with rfl; exact ⟨.inl rfl, hlt⟩
   ·obtain ⟨gs', u, q', e1, e2, e3, e4, e5, e6⟩ := slip (w := w₂.at d) (sl := sl') hL hi hy hpos (fun x => x)
    obtain ⟨B', _, hT2⟩ := hT'.still (fun op hop => (e5 op hop).2.1) (fun op hop => ⟨.inl (by rw [(e5 op hop).1]; omega), .inr (.inr (fun x => x))⟩)
    exact Ends0.step (hst.trans e1) (ihM _ (Nat.lt_of_lt_of_le e3 hM) T gs' x _ sl' _ q' buf s r (by rw [e2]; exact Nat.le_refl _) hAp' hR' hx (e6 0 x (.inl rfl) h0 fun a a' => woken_running hx.status) (by rw [e2]; exact hk) e4 ⟨B', hT2⟩ (hS.app fun op hop _ => (e5 op hop).2.1) hc hl)
end
end Go.Proofs.YtpbbmagjhkakgaaGreatDoor.Lf
