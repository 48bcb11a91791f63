/-
  The goroutines that only leave, beside one that does not; what goroutine 0 and its child promise each other ('Pair').
-/
/-
  The scripts of goroutine 0 (receives) and of its child (sends, closes); when the channel is closed goroutine 0 comes to its end of it.
-/
/-
  As long as the channel is open and the child stands where it stands: goroutine 0's turns.
-/
import Derived.Test.YtpbbmagjhkakgaaGreatDoorEvTake2ToLfRely
import Derived.Test.YtpbbmagjhkakgaaGreatDoorLfJoinToLfFits
import Derived.Test.YtpbbmagjhkakgaaGreatDoorLfLostToLfBeside
import Derived.Conc.CrowdComm
namespace Go.Proofs.YtpbbmagjhkakgaaGreatDoor.Lf
open Go Go.Conc
open Go.ConcN (sumTo upd sumTo_upd upd_ne upd_same)
variable {P : Program}
theorem Deaf_off (t : Trace) {g : Nat} (u : Trace) (hu : ∀ op ∈ u, op.g ≠ g) : Deaf (t ++ u) g = Deaf t g := by
  have key : ∀ (l : List MemOp) (d : Nat), (∀ op ∈ l, op.g ≠ g) → l.foldl (deafStep g) d = d := by
    intro l
    induction l with
    | nil => intro d _; rfl
    | cons y l ih =>
      intro d h
      have hy : y.g ≠ g := h y (by simp)
      have : deafStep g d y = d := by
        unfold deafStep
        split <;> simp_all
      rw [List.foldl_cons, this]
      exact ih d fun op hop => h op (by simp [hop])
  have e : (t ++ u : Trace) = t ++ u.toList.toArray := by simp
  rw [e, Deaf_append]
  exact key _ _ fun op hop => hu op (by simpa using hop)
structure LeavX (P : Program) (skip : Nat → Prop) (t : Trace) (gs : Array Goroutine) (q : Nat → Nat) : Prop where
  old : ∀ i g, 0 < i → ¬ skip i → gs[i]? = some g → QuitsD P (q i) (Deaf t i) g
  above : ∀ j, gs.size ≤ j → Deaf t j = 0
theorem LeavX.of {t : Trace} {gs : Array Goroutine} {q : Nat → Nat} (h : Leavers P t gs q) (skip : Nat → Prop) : LeavX P skip t gs q := ⟨fun i g h0 _ hg => h.old i g h0 hg, h.above⟩
theorem LeavX.all {t : Trace} {gs : Array Goroutine} {q : Nat → Nat} (h : LeavX P (fun _ => False) t gs q) : Leavers P t gs q := ⟨fun i g h0 hg => h.old i g h0 (fun x => x) hg, h.above⟩
theorem LeavX.turn {skip : Nat → Prop} {t u : Trace} {gs gs' : Array Goroutine} {q : Nat → Nat} (h : LeavX P skip t gs q) (hs : gs'.size = gs.size) (hg : ∀ i x, 0 < i → ¬ skip i → gs'[i]? = some x → gs[i]? = some x) (hu : ∀ op ∈ u, (op.g = 0 ∨ skip op.g) ∧ op.g < gs.size) : LeavX P skip (t ++ u) gs' q := by
  refine ⟨fun i x h0 hk hx => ?_, fun j hj => ?_⟩
  · rw [Deaf_off t u fun op hop e => ?_]
    · exact h.old i x h0 hk (hg i x h0 hk hx)
    · rcases (hu op hop).1 with h1 | h1
      · omega
      · exact hk (e ▸ h1)
  · rw [Deaf_off t u fun op hop e => ?_]
    · exact h.above j (by omega)
    · have := (hu op hop).2; omega
theorem slip {skip : Nat → Prop} {gs : Array Goroutine} {t : Trace} {q : Nat → Nat} {w : World} {sl : Option (Nat × Nat)} {i : Nat} {x : Goroutine} (hL : LeavX P skip t gs q) (hi : gs[i]? = some x) (hx : x.status = .running) (hpos : 0 < i) (hsk : ¬ skip i) :
    ∃ (gs' : Array Goroutine) (u : Trace) (q' : Nat → Nat), runT P (crowd gs w sl) i = (.next (crowd gs' w sl), u) ∧ gs'.size = gs.size ∧ sumTo gs.size q' < sumTo gs.size q ∧ LeavX P skip (t ++ u) gs' q' ∧
      (∀ op ∈ u, op.g = i ∧ op.act.touch? = none ∧ ∀ B, op.act.low B) ∧ ∀ j y, (j = 0 ∨ skip j) → gs[j]? = some y → (∀ a a', woken P a a' w y = y) → gs'[j]? = some y := by
  have hq := hL.old i x hpos hsk hi
  have hi0 : (i == 0) = false := by simp; omega
  have hlt : i < gs.size := (Array.getElem?_eq_some_iff.1 hi).1
  cases hqi : q i with
  | zero => rw [hqi] at hq; rw [hq.1] at hx; cases hx
  | succ k =>
    rw [hqi] at hq
    rcases hq with ⟨hfin, _⟩ | ⟨_, x', es, hm, hstp, hq'⟩
    · rw [hfin] at hx; cases hx
    have hrunT := runT_crowd_go (P := P) (w := w) (sl := sl) (i := i) hi (by rw [hi0]; exact hstp w)
    have hown : ∀ op ∈ MemOp.ofEvents i x.frame.fn x.frame.place es, op.g = i := fun op hop => by obtain ⟨e, _, rfl⟩ := Go.Conc.mem_ofEvents hop; rfl
    refine ⟨(gs.map (woken P x x' w)).setIfInBounds i x', MemOp.ofEvents i x.frame.fn x.frame.place es, upd q i k, hrunT, by simp, ?_, ⟨fun j y hj hjs hy => ?_, fun j hj => ?_⟩, fun op hop => ?_, fun j y hj hy hw => ?_⟩
    · have hsum : sumTo gs.size (upd q i k) + (k + 1) = sumTo gs.size q + k := by
        have := sumTo_upd q k id hlt
        simpa [hqi] using this
      omega
    · by_cases hji : i = j
      · subst hji
        rw [Array.getElem?_setIfInBounds_self_of_lt (by simpa using hlt)] at hy
        obtain rfl := Option.some.inj hy
        rw [upd_same, Deaf_own]
        exact hq'
      · rw [Array.getElem?_setIfInBounds_ne hji, Array.getElem?_map] at hy
        obtain ⟨z, hz, rfl⟩ := Option.map_eq_some_iff.1 hy
        have hqj := hL.old j z hj hjs hz
        rw [woken_quitsD hqj, upd_ne q k (Ne.symm hji), Deaf_off t _ (fun op hop e => hji ((hown op hop).symm.trans e))]
        exact hqj
    · rw [Deaf_off t _ (fun op hop e => by have := hown op hop; simp at hj; omega)]
      exact hL.above j (by simpa using hj)
    · obtain ⟨e, he, rfl⟩ := Go.Conc.mem_ofEvents hop
      exact ⟨rfl, touch_mute (hm e he), low_mute (hm e he)⟩
    · have hne : i ≠ j := by
        rintro rfl
        rcases hj with h | h
        · omega
        · exact hsk h
      rw [Array.getElem?_setIfInBounds_ne hne, Array.getElem?_map, hy]
      simp [hw]
def EvK (C : Touch → Prop) (e : Event) : Prop := (∀ x, (MemAct.ofEvent e).touch? = some x → x.loc.isMemory = true → C x) ∧ e.loc ≠ .mark .disable ∧ e.loc ≠ .mark .enable
structure Apt (B : Nat) (S T : Nat → Prop) (w : World) : Prop where
  s : ∀ b, S b → B ≤ b ∧ b < w.heap.size
  t : ∀ b, T b → B ≤ b ∧ b < w.heap.size
  st : ∀ b, S b → ¬ T b
  low : B ≤ w.heap.size
theorem Apt.same {B : Nat} {S T : Nat → Prop} {w w' : World} (h : Apt B S T w) (e : w'.heap.size = w.heap.size) : Apt B S T w' := ⟨fun b x => by rw [e]; exact h.s b x, fun b x => by rw [e]; exact h.t b x, h.st, by rw [e]; exact h.low⟩
theorem Apt.grow0 {B : Nat} {S T : Nat → Prop} {w w' : World} (h : Apt B S T w) (e : w.heap.size ≤ w'.heap.size) : Apt B (grow S w w') T w' :=
  ⟨fun b x => by
    rcases x with x | x
    · have := h.s b x; omega
    · have := h.low; omega, fun b x => by have := h.t b x; omega, fun b x y => by
    rcases x with x | x
    · exact h.st b x y
    · have := h.t b y; omega, by have := h.low; omega⟩
theorem Apt.growC {B : Nat} {S T : Nat → Prop} {w w' : World} (h : Apt B S T w) (e : w.heap.size ≤ w'.heap.size) : Apt B S (grow T w w') w' :=
  ⟨fun b x => by have := h.s b x; omega, fun b x => by
    rcases x with x | x
    · have := h.t b x; omega
    · have := h.low; omega, fun b x y => by
    rcases y with y | y
    · exact h.st b x y
    · have := h.s b x; omega, by have := h.low; omega⟩
structure Pair (c B : Nat) (R0 : (Nat → Prop) → World → World → Prop) (D0 : (Nat → Prop) → World → World → Array Event → Prop) (RB : (Nat → Prop) → World → World → Prop) (DB : (Nat → Prop) → World → World → Array Event → Prop) (CA CB : (Nat → Prop) → Touch → Prop) : Prop where
  t0 : TermsG R0 D0
  tB : TermsG RB DB
  refl0 : ∀ S w, R0 S w w
  reflB : ∀ S w, RB S w w
  at0 : ∀ S (w : World) (d : Nat), R0 S w (w.at d)
  atB : ∀ S (w : World) (d : Nat), RB S w (w.at d)
  put0 : ∀ S (w : World) n buf cl s r tm, R0 S w (w.setChan c n buf cl s r tm)
  putB : ∀ S (w : World) n buf cl s r tm, RB S w (w.setChan c n buf cl s r tm)
  d0 : ∀ S T w w' es, Apt B S T w → D0 S w w' es → RB T w w' ∧ w'.heap[c]? = w.heap[c]? ∧ (∀ e ∈ es, EvK (CA (grow S w w')) e) ∧ w.heap.size ≤ w'.heap.size
  dB : ∀ S T w w' es, Apt B S T w → DB T w w' es → R0 S w w' ∧ w'.heap[c]? = w.heap[c]? ∧ (∀ e ∈ es, EvK (CB (grow T w w')) e) ∧ w.heap.size ≤ w'.heap.size
  mono : ∀ S S', (∀ b, S b → S' b) → (∀ a, CA S a → CA S' a) ∧ (∀ a, CB S a → CB S' a)
  apart : ∀ S T w, Apt B S T w → ApartT (CA S) (CB T)
theorem grow_sub (S : Nat → Prop) (w w' : World) : ∀ b, S b → grow S w w' b := fun _ h => .inl h
theorem setChan_size (w : World) (c n : Nat) (buf : Array Value) (cl : Bool) (s r : Nat) (tm : Bool) : (w.setChan c n buf cl s r tm).heap.size = w.heap.size := by simp [World.setChan]
section
theorem ops_own {C : Touch → Prop} {g : Nat} {fn : FuncId} {pos : String} {es : Array Event} (h : ∀ e ∈ es, EvK C e) : (∀ op ∈ MemOp.ofEvents g fn pos es, op.g = g) ∧ (∀ op ∈ MemOp.ofEvents g fn pos es, ∀ b, op.act.touch? = some b → b.loc.isMemory = true → C b) ∧ ∀ t : Trace, Deaf (t ++ MemOp.ofEvents g fn pos es) g = Deaf t g :=
  ⟨fun op hop => by obtain ⟨e, _, rfl⟩ := Go.Conc.mem_ofEvents hop; rfl, fun op hop b hb hm => by obtain ⟨e, he, rfl⟩ := Go.Conc.mem_ofEvents hop; exact (h e he).1 b hb hm, fun t => by rw [Deaf_own]; exact deafBehind_still (fun e he => (h e he).2) _⟩
theorem TI.evs0 {hc : Prop} {κ B : Nat} {A C : Touch → Prop} {t : Trace} (hκ : κ ≠ 0) (hA : ApartT A C) (h : TI hc κ B A C t) {fn : FuncId} {pos : String} {es : Array Event} (hes : ∀ e ∈ es, EvK A e) : ∃ B', B ≤ B' ∧ TI hc κ B' A C (t ++ MemOp.ofEvents 0 fn pos es) := by
  obtain ⟨h1, h2, h3⟩ := ops_own (g := 0) (fn := fn) (pos := pos) hes
  obtain ⟨B', hb, hl⟩ := low_all (MemOp.ofEvents 0 fn pos es) B
  exact ⟨B', hb, (h.mono hb (fun _ x => x) (fun _ x => x)).app0 hκ hA h1 h2 ((h3 t).trans h.hears) hl⟩
theorem TI.evsC {hc : Prop} {κ B : Nat} {A C : Touch → Prop} {t : Trace} (hκ : κ ≠ 0) (hA : ApartT A C) (h : TI hc κ B A C t) {fn : FuncId} {pos : String} {es : Array Event} (hes : ∀ e ∈ es, EvK C e) : ∃ B', B ≤ B' ∧ TI hc κ B' A C (t ++ MemOp.ofEvents κ fn pos es) := by
  obtain ⟨h1, h2, h3⟩ := ops_own (g := κ) (fn := fn) (pos := pos) hes
  obtain ⟨B', hb, hl⟩ := low_all (MemOp.ofEvents κ fn pos es) B
  exact ⟨B', hb, (h.mono hb (fun _ x => x) (fun _ x => x)).appC hκ hA h1 h2 (fun x => (h3 t).trans (h.hearsC x)) hl⟩
theorem TI.still {hc : Prop} {κ B : Nat} {A C : Touch → Prop} {t u : Trace} (h : TI hc κ B A C t) (hn : ∀ op ∈ u, op.act.touch? = none) (hd : ∀ op ∈ u, (op.g ≠ 0 ∨ (op.act ≠ .mark .disable ∧ op.act ≠ .mark .enable)) ∧ (op.g ≠ κ ∨ (op.act ≠ .mark .disable ∧ op.act ≠ .mark .enable) ∨ ¬ hc)) : ∃ B', B ≤ B' ∧ TI hc κ B' A C (t ++ u) := by
  have still : ∀ g, (∀ op ∈ u, op.g ≠ g ∨ (op.act ≠ .mark .disable ∧ op.act ≠ .mark .enable)) → Deaf (t ++ u) g = Deaf t g := by
    intro g hg
    have key : ∀ (l : List MemOp) (d : Nat), (∀ op ∈ l, op.g ≠ g ∨ (op.act ≠ .mark .disable ∧ op.act ≠ .mark .enable)) → l.foldl (deafStep g) d = d := by
      intro l
      induction l with
      | nil => intro d _; rfl
      | cons y l ih =>
        intro d h
        have hy := h y (by simp)
        have : deafStep g d y = d := by
          unfold deafStep
          split <;> simp_all
        rw [List.foldl_cons, this]
        exact ih d fun op hop => h op (by simp [hop])
    have e : (t ++ u : Trace) = t ++ u.toList.toArray := by simp
    rw [e, Deaf_append]
    exact key _ _ fun op hop => hg op (by simpa using hop)
  obtain ⟨B', hb, hl⟩ := low_all u B
  refine ⟨B', hb, (h.mono hb (fun _ x => x) (fun _ x => x)).appMute hn ((still 0 fun op hop => (hd op hop).1).trans h.hears) (fun x => (still κ fun op hop => ?_).trans (h.hearsC x)) hl⟩
  rcases (hd op hop).2 with y | y | y
  · exact .inl y
  · exact .inr y
  · exact absurd x y
end
end Go.Proofs.YtpbbmagjhkakgaaGreatDoor.Lf

namespace Go.Proofs.YtpbbmagjhkakgaaGreatDoor.Lf
open Go Go.Conc
open Go.ConcN (sumTo upd sumTo_upd upd_ne upd_same)
variable {P : Program}
section
variable (P : Program) (c : Nat) (z : Value) (R0 : (Nat → Prop) → World → World → Prop) (D0 : (Nat → Prop) → World → World → Array Event → Prop) (RB : (Nat → Prop) → World → World → Prop) (DB : (Nat → Prop) → World → World → Array Event → Prop) (CA CB : (Nat → Prop) → Touch → Prop) (n : Nat)
def AtR (S : Nat → Prop) (g : Goroutine) (w : World) : Prop := ∀ w₁, R0 S w w₁ → ∃ es, stepG P true g w₁ = .comm g #[rcase c z] true (.recv true) w₁ es ∧ ∀ e ∈ es, EvK (CA S) e
inductive SA (K : Goroutine → World → Prop) : List Value → (Nat → Prop) → Goroutine → World → Prop
  | own {L : List Value} {S : Nat → Prop} {g : Goroutine} {w : World} (f : World → Goroutine × World × Array Event) : g.status = .running → (∀ w₁, R0 S w w₁ → stepG P true g w₁ = .go (f w₁).1 (f w₁).2.1 (f w₁).2.2 ∧ D0 S w₁ (f w₁).2.1 (f w₁).2.2) → (∀ w₁, R0 S w w₁ → SA K L (grow S w₁ (f w₁).2.1) (f w₁).1 (f w₁).2.1) → SA K L S g w
  | recv {v : Value} {L : List Value} {S : Nat → Prop} {g : Goroutine} {w : World} : g.status = .running → AtR P c z R0 CA S g w → (∀ w₁, R0 S w w₁ → SA K L S (Go.Conc.served g (recvd true v true)) w₁) → SA K (v :: L) S g w
  | fin {S : Nat → Prop} {g : Goroutine} {w : World} : g.status = .running → AtR P c z R0 CA S g w → (∀ w₁, R0 S w w₁ → K (Go.Conc.served g (recvd true z false)) w₁) → SA K [] S g w
inductive SB : List Value → (Nat → Prop) → Goroutine → World → Prop
  | own {L : List Value} {T : Nat → Prop} {g : Goroutine} {w : World} (f : World → Goroutine × World × Array Event) : g.status = .running → (∀ w₁, RB T w w₁ → stepG P false g w₁ = .go (f w₁).1 (f w₁).2.1 (f w₁).2.2 ∧ DB T w₁ (f w₁).2.1 (f w₁).2.2) → (∀ w₁, RB T w w₁ → SB L (grow T w₁ (f w₁).2.1) (f w₁).1 (f w₁).2.1) → SB L T g w
  | send {v y : Value} {L : List Value} {T : Nat → Prop} {g : Goroutine} {w : World} : g.status = .running → (∀ w₁, RB T w w₁ → ∃ es, stepG P false g w₁ = .comm g #[scase c v y] true .send w₁ es ∧ ∀ e ∈ es, EvK (CB T) e) → (∀ w₁, RB T w w₁ → SB L T (Go.Conc.served g undef) w₁) → SB (v :: L) T g w
  | close {T : Nat → Prop} {g g' : Goroutine} {w : World} {q : Nat} : g.status = .running → mayWake P g = true → (∀ w₁ buf s r, RB T w w₁ → w₁.heap[c]? = some (.chan n buf false s r false) → ∃ es : Array Event, stepG P false g w₁ = .go g' (w₁.setChan c n buf true s r false) (es.push ⟨.obj c, true, true⟩) ∧ ∀ e ∈ es, EvK (CB T) e) → QuitsD P q 0 g' → SB [] T g w
end
section
variable {c : Nat} {z : Value} {B₀ : Nat} {R0 : (Nat → Prop) → World → World → Prop} {D0 : (Nat → Prop) → World → World → Array Event → Prop} {RB : (Nat → Prop) → World → World → Prop} {DB : (Nat → Prop) → World → World → Array Event → Prop} {CA CB : (Nat → Prop) → Touch → Prop} {n : Nat} {K : Goroutine → World → Prop}
theorem SA.running {L : List Value} {S : Nat → Prop} {g : Goroutine} {w : World} (h : SA P c z R0 D0 CA K L S g w) : g.status = .running := by cases h <;> assumption
theorem SA.rely (H : Pair c B₀ R0 D0 RB DB CA CB) {L : List Value} {S : Nat → Prop} {g : Goroutine} {w w' : World} (h : SA P c z R0 D0 CA K L S g w) (hr : R0 S w w') : SA P c z R0 D0 CA K L S g w' := by
  cases h with
  | own f h1 h2 h3 => exact .own f h1 (fun w₁ h₁ => h2 w₁ (H.t0.trans _ _ _ _ hr h₁)) (fun w₁ h₁ => h3 w₁ (H.t0.trans _ _ _ _ hr h₁))
  | recv h1 h2 h3 => exact .recv h1 (fun w₁ h₁ => h2 w₁ (H.t0.trans _ _ _ _ hr h₁)) (fun w₁ h₁ => h3 w₁ (H.t0.trans _ _ _ _ hr h₁))
  | fin h1 h2 h3 => exact .fin h1 (fun w₁ h₁ => h2 w₁ (H.t0.trans _ _ _ _ hr h₁)) (fun w₁ h₁ => h3 w₁ (H.t0.trans _ _ _ _ hr h₁))
structure LooksAs (x g : Goroutine) : Prop where
  status : x.status = .running
  frame : x.frame = g.frame
  callers : x.callers = g.callers
  dying : x.dying = g.dying
theorem LooksAs.step {x g : Goroutine} (h : LooksAs x g) (main : Bool) (w : World) : stepG P main x w = stepG P main g w := stepG_same h.frame h.callers h.dying w
theorem LooksAs.self {g : Goroutine} (h : g.status = .running) : LooksAs g g := ⟨h, rfl, rfl, rfl⟩
def Ends0 (P : Program) (K : Goroutine → World → Prop) (m : Machine) (t : Trace) : Prop := ∃ N gs' g' w' sl' t', runNT P N m t = (.next (crowd gs' w' sl'), t') ∧ Fr P gs' t' g' ∧ K g' w'
theorem Ends0.step {m m' : Machine} {t : Trace} {u : Trace} (h : stepT P m = (.next m', u)) (h' : Ends0 P K m' (t ++ u)) : Ends0 P K m t := by
  obtain ⟨N, gs', g', w', sl', t', h1, h2⟩ := h'
  exact ⟨N + 1, gs', g', w', sl', t', by simp only [runNT, h]; exact h1, h2⟩
theorem no_partners {gs : Array Goroutine} {i r : Nat} {send : Bool} (h : ∀ (j : Nat) (g : Goroutine), j ≠ i → gs[j]? = some g → g.status ≠ .blocked) : partners (gs.setIfInBounds i ph) r send = [] := by
  refine partners_nil fun j g hg => ?_
  rcases getElem?_stand gs i j g hg with ⟨_, rfl⟩ | ⟨hne, hg'⟩
  · exact offersAt_ph r send
  · exact offersAt_of_not_blocked (h j g hne hg') r send
theorem setChan_same {w : World} {c cap s r cap' s' r' : Nat} {buf buf' : Array Value} {cl cl' tm tm' : Bool} (h : w.heap[c]? = some (.chan cap' buf' cl' s' r' tm')) : (w.setChan c cap buf cl s r tm).heap[c]? = some (.chan cap buf cl s r tm) := heap_put h
theorem take_head {buf : Array Value} {v : Value} {L : List Value} (hl : v :: L = buf.toList) : 0 < buf.size ∧ buf.getD 0 undef = v ∧ (buf.extract 1 buf.size).toList = L := by
  obtain ⟨l⟩ := buf
  simp only at hl
  subst hl
  simp [Array.getD_eq_getD_getElem?]
theorem phase_shut (H : Pair c B₀ R0 D0 RB DB CA CB) {κ : Nat} (hκ : κ ≠ 0) {L : List Value} {S : Nat → Prop} {g : Goroutine} {w : World} (hA : SA P c z R0 D0 CA K L S g w) :
    ∀ (M : Nat) (T : Nat → Prop) (gs : Array Goroutine) (x : Goroutine) (w₂ : World) (sl : Option (Nat × Nat)) (t : Trace) (q : Nat → Nat) (buf : Array Value) (s r : Nat), sumTo gs.size q ≤ M → Apt B₀ S T w₂ → R0 S w w₂ → LooksAs x g → gs[0]? = some x → κ < gs.size →
      LeavX P (fun _ => False) t gs q → (∃ B, TI False κ B (CA S) (CB T) t) → Shut κ c t → w₂.heap[c]? = some (.chan n buf true s r false) → L = buf.toList → Ends0 P K (crowd gs w₂ sl) t := by
  induction hA with
  | @own L S g w f hs h1 h2 ih =>
    intro M
    induction M using Nat.strongRecOn with
    | _ M ihM =>
      intro T gs x w₂ sl t q buf s r hM hAp hR hx h0 hk hL hT hS hc hl
      have haw : ∀ y ∈ gs, awake y := by
        intro y hy
        obtain ⟨i, hi, rfl⟩ := Array.mem_iff_getElem.1 hy
        rcases Nat.eq_zero_or_pos i with rfl | hpos
        · have : gs[0] = x := by simpa [Array.getElem?_eq_getElem hi] using h0
          rw [this]; exact awake_of (.inl hx.status)
        · exact awake_of ((hL.old i _ hpos (fun x => x) (Array.getElem?_eq_getElem hi)).status.elim .inl fun x => .inr (.inr x))
      obtain ⟨i, y, d, sl', hi, hy, hst⟩ := crowd_pick (P := P) (w := w₂) (sl := sl) haw ⟨0, x, h0, hx.status⟩
      have hR' := H.t0.trans _ _ _ _ hR (H.at0 _ w₂ d)
      obtain ⟨B, hT⟩ := hT
      have hT' := hT
      have hAp' : Apt B₀ S T (w₂.at d) := hAp.same rfl
      rcases Nat.eq_zero_or_pos i with rfl | hpos
      · obtain rfl : y = x := by rw [h0] at hi; exact (Option.some.inj hi).symm
        obtain ⟨a1, a2⟩ := h1 _ hR'
        have hgo := (hx.step (P := P) true (w₂.at d)).trans a1
        obtain ⟨b1, b2, b3, b4⟩ := H.d0 _ _ _ _ _ hAp' a2
        have hrun := runT_crowd_go (P := P) (w := w₂.at d) (sl := sl') (i := 0) hi (show stepG P (0 == 0) y (w₂.at d) = _ from hgo)
        have hlt : 0 < gs.size := (Array.getElem?_eq_some_iff.1 h0).1
        have hmn := H.mono _ _ (grow_sub S (w₂.at d) (f (w₂.at d)).2.1)
        obtain ⟨B', _, hT2⟩ := (hT'.mono (Nat.le_refl B) hmn.1 (fun _ x => x)).evs0 hκ (H.apart _ _ _ (hAp'.grow0 b4)) (fn := y.frame.fn) (pos := y.frame.place) b3
        refine Ends0.step (hst.trans hrun) (ih _ hR' _ T _ _ _ sl' _ q buf s r (Nat.le_refl _) (hAp'.grow0 b4) (H.refl0 _ _) (LooksAs.self (h2 _ hR').running) (by simp [hlt]) (by simpa using hk) ?_ ⟨B', hT2⟩ ?_ (b2.trans hc) hl)
        · refine hL.turn (by simp) (fun j v hj _ hv => ?_) (fun op hop => by obtain ⟨e, _, rfl⟩ := Go.Conc.mem_ofEvents hop; exact ⟨.inl rfl, hlt⟩)
          rw [Array.getElem?_setIfInBounds_ne (by omega), Array.getElem?_map] at hv
          obtain ⟨z', hz, rfl⟩ := Option.map_eq_some_iff.1 hv
          rw [woken_quitsD (hL.old j z' hj (fun x => x) hz)]
          exact hz
        · exact hS.app fun op hop e => by obtain ⟨e', _, rfl⟩ := Go.Conc.mem_ofEvents hop; exact absurd e.symm hκ
      · obtain ⟨gs', u, q', e1, e2, e3, e4, e5, e6⟩ := slip (w := w₂.at d) (sl := sl') hL hi hy hpos (fun x => x)
        obtain ⟨B', _, hT2⟩ := hT'.still (fun op hop => (e5 op hop).2.1) (fun op hop => ⟨.inl (by rw [(e5 op hop).1]; omega), .inr (.inr (fun x => x))⟩)
        exact Ends0.step (hst.trans e1) (ihM _ (Nat.lt_of_lt_of_le e3 hM) T gs' x _ sl' _ q' buf s r (by rw [e2]; exact Nat.le_refl _) hAp' hR' hx (e6 0 x (.inl rfl) h0 fun a a' => woken_running hx.status) (by rw [e2]; exact hk) e4 ⟨B', hT2⟩ (hS.app fun op hop _ => (e5 op hop).2.1) hc hl)
  | @recv v L S g w hs h1 h2 ih =>
    intro M
    induction M using Nat.strongRecOn with
    | _ M ihM =>
      intro T gs x w₂ sl t q buf s r hM hAp hR hx h0 hk hL hT hS hc hl
      have haw : ∀ y ∈ gs, awake y := by
        intro y hy
        obtain ⟨i, hi, rfl⟩ := Array.mem_iff_getElem.1 hy
        rcases Nat.eq_zero_or_pos i with rfl | hpos
        · have : gs[0] = x := by simpa [Array.getElem?_eq_getElem hi] using h0
          rw [this]; exact awake_of (.inl hx.status)
        · exact awake_of ((hL.old i _ hpos (fun x => x) (Array.getElem?_eq_getElem hi)).status.elim .inl fun x => .inr (.inr x))
      obtain ⟨i, y, d, sl', hi, hy, hst⟩ := crowd_pick (P := P) (w := w₂) (sl := sl) haw ⟨0, x, h0, hx.status⟩
      have hR' := H.t0.trans _ _ _ _ hR (H.at0 _ w₂ d)
      obtain ⟨B, hT⟩ := hT
      have hT' := hT
      have hAp' : Apt B₀ S T (w₂.at d) := hAp.same rfl
      rcases Nat.eq_zero_or_pos i with rfl | hpos
      · obtain rfl : y = x := by rw [h0] at hi; exact (Option.some.inj hi).symm
        obtain ⟨es, a1, a2⟩ := h1 _ hR'
        have hcm := (hx.step (P := P) true (w₂.at d)).trans a1
        obtain ⟨hsz, hhd, htl⟩ := take_head hl
        have hlt : 0 < gs.size := (Array.getElem?_eq_some_iff.1 h0).1
        have hrun := crowd_recv_buf (P := P) (gs := gs) (w := w₂.at d) (sl := sl') (i := 0) hi (show stepG P (0 == 0) y (w₂.at d) = _ from hcm) (show (w₂.at d).heap[c]? = _ from hc) hsz
          (no_partners fun j g' hj hg' => by have := (hL.old j g' (by omega) (fun x => x) hg').status; rcases this with e | e <;> rw [e] <;> simp)
        rw [finishComm_recv, hhd] at hrun
        have hput := H.put0 S (w₂.at d) n (buf.extract 1 buf.size) true s (r + 1) false
        obtain ⟨B', _, hT2⟩ := hT'.evs0 hκ (H.apart _ _ _ hAp') (fn := y.frame.fn) (pos := y.frame.place) a2
        obtain ⟨B'', _, hT3⟩ := hT2.still (u := #[{ g := 0, fn := g.frame.fn, pos := g.frame.place, act := .recv c r n }, { g := 0, fn := g.frame.fn, pos := g.frame.place, act := .recvDone c r }]) (fun op hop => by simp at hop; rcases hop with rfl | rfl <;> rfl) (fun op hop => by simp at hop; rcases hop with rfl | rfl <;> simp)
        have hR3 := H.t0.trans _ _ _ _ hR' hput
        refine Ends0.step (hst.trans hrun) (ih _ hR3 _ T _ _ _ sl' _ q (buf.extract 1 buf.size) s (r + 1) (Nat.le_refl _) (hAp'.same (setChan_size _ _ _ _ _ _ _ _)) (H.refl0 _ _) (LooksAs.self rfl) (by simp [hlt]) (by simpa using hk) ?_ ⟨B'', by rw [← Array.append_assoc]; exact hT3⟩ ?_ (setChan_same hc) htl.symm)
        · refine hL.turn (by simp) (fun j v hj _ hv => ?_) (fun op hop => ?_)
          · rw [Array.getElem?_setIfInBounds_ne (by omega)] at hv; exact hv
          · rcases Array.mem_append.1 hop with hop | hop
            · obtain ⟨e, _, rfl⟩ := Go.Conc.mem_ofEvents hop; exact ⟨.inl rfl, hlt⟩
            · simp at hop; rcases hop with rfl | rfl <;> exact ⟨.inl rfl, hlt⟩
        · refine hS.app fun op hop e => ?_
          rcases Array.mem_append.1 hop with hop | hop
          · obtain ⟨e', _, rfl⟩ := Go.Conc.mem_ofEvents hop; exact absurd e.symm hκ
          · simp at hop; rcases hop with rfl | rfl <;> rfl
      · obtain ⟨gs', u, q', e1, e2, e3, e4, e5, e6⟩ := slip (w := w₂.at d) (sl := sl') hL hi hy hpos (fun x => x)
        obtain ⟨B', _, hT2⟩ := hT'.still (fun op hop => (e5 op hop).2.1) (fun op hop => ⟨.inl (by rw [(e5 op hop).1]; omega), .inr (.inr (fun x => x))⟩)
        exact Ends0.step (hst.trans e1) (ihM _ (Nat.lt_of_lt_of_le e3 hM) T gs' x _ sl' _ q' buf s r (by rw [e2]; exact Nat.le_refl _) hAp' hR' hx (e6 0 x (.inl rfl) h0 fun a a' => woken_running hx.status) (by rw [e2]; exact hk) e4 ⟨B', hT2⟩ (hS.app fun op hop _ => (e5 op hop).2.1) hc hl)
  | @fin S g w hs h1 h2 =>
    intro M
    induction M using Nat.strongRecOn with
    | _ M ihM =>
      intro T gs x w₂ sl t q buf s r hM hAp hR hx h0 hk hL hT hS hc hl
      have haw : ∀ y ∈ gs, awake y := by
        intro y hy
        obtain ⟨i, hi, rfl⟩ := Array.mem_iff_getElem.1 hy
        rcases Nat.eq_zero_or_pos i with rfl | hpos
        · have : gs[0] = x := by simpa [Array.getElem?_eq_getElem hi] using h0
          rw [this]; exact awake_of (.inl hx.status)
        · exact awake_of ((hL.old i _ hpos (fun x => x) (Array.getElem?_eq_getElem hi)).status.elim .inl fun x => .inr (.inr x))
      obtain ⟨i, y, d, sl', hi, hy, hst⟩ := crowd_pick (P := P) (w := w₂) (sl := sl) haw ⟨0, x, h0, hx.status⟩
      have hR' := H.t0.trans _ _ _ _ hR (H.at0 _ w₂ d)
      obtain ⟨B, hT⟩ := hT
      have hT' := hT
      have hAp' : Apt B₀ S T (w₂.at d) := hAp.same rfl
      rcases Nat.eq_zero_or_pos i with rfl | hpos
      · obtain rfl : y = x := by rw [h0] at hi; exact (Option.some.inj hi).symm
        obtain ⟨es, a1, a2⟩ := h1 _ hR'
        have hcm := (hx.step (P := P) true (w₂.at d)).trans a1
        obtain rfl : buf = #[] := by
          have : buf.toList = [] := hl.symm
          simpa using this
        have hlt : 0 < gs.size := (Array.getElem?_eq_some_iff.1 h0).1
        have hrun := crowd_recv_closed (P := P) (gs := gs) (w := w₂.at d) (sl := sl') (i := 0) hi (show stepG P (0 == 0) y (w₂.at d) = _ from hcm) (show (w₂.at d).heap[c]? = _ from hc)
          (no_partners fun j g' hj hg' => by have := (hL.old j g' (by omega) (fun x => x) hg').status; rcases this with e | e <;> rw [e] <;> simp)
        rw [finishComm_recv] at hrun
        obtain ⟨B', hb', hT2⟩ := hT'.evs0 hκ (H.apart _ _ _ hAp') (fn := y.frame.fn) (pos := y.frame.place) a2
        have hS2 : Shut κ c (t ++ MemOp.ofEvents 0 y.frame.fn y.frame.place es) := hS.app fun op hop e => by obtain ⟨e', _, rfl⟩ := Go.Conc.mem_ofEvents hop; exact absurd e.symm hκ
        have hP := (hT2.mono (Nat.le_max_left B' (c + 1)) (fun _ x => x) (fun _ x => x)).join hκ hS2 (y := { g := 0, fn := g.frame.fn, pos := g.frame.place, act := .recvClosed c }) ⟨rfl, rfl⟩ (Nat.lt_of_lt_of_le (Nat.lt_succ_self c) (Nat.le_max_right _ _))
        refine Ends0.step (hst.trans hrun) ⟨0, _, _, _, sl', _, rfl, ⟨by simp [hlt], ⟨q, ?_⟩, ⟨_, by rw [← Array.append_assoc]; exact hP⟩⟩, h2 _ hR'⟩
        refine (hL.turn (by simp) (fun j v hj _ hv => ?_) (fun op hop => ?_)).all
        · rw [Array.getElem?_setIfInBounds_ne (by omega)] at hv; exact hv
        · rcases Array.mem_append.1 hop with hop | hop
          · obtain ⟨e, _, rfl⟩ := Go.Conc.mem_ofEvents hop; exact ⟨.inl rfl, hlt⟩
          · simp at hop; rcases hop with rfl; exact ⟨.inl rfl, hlt⟩
      · obtain ⟨gs', u, q', e1, e2, e3, e4, e5, e6⟩ := slip (w := w₂.at d) (sl := sl') hL hi hy hpos (fun x => x)
        obtain ⟨B', _, hT2⟩ := hT'.still (fun op hop => (e5 op hop).2.1) (fun op hop => ⟨.inl (by rw [(e5 op hop).1]; omega), .inr (.inr (fun x => x))⟩)
        exact Ends0.step (hst.trans e1) (ihM _ (Nat.lt_of_lt_of_le e3 hM) T gs' x _ sl' _ q' buf s r (by rw [e2]; exact Nat.le_refl _) hAp' hR' hx (e6 0 x (.inl rfl) h0 fun a a' => woken_running hx.status) (by rw [e2]; exact hk) e4 ⟨B', hT2⟩ (hS.app fun op hop _ => (e5 op hop).2.1) hc hl)
end
end Go.Proofs.YtpbbmagjhkakgaaGreatDoor.Lf

namespace Go.Proofs.YtpbbmagjhkakgaaGreatDoor.Lf
open Go Go.Conc
open Go.ConcN (sumTo upd sumTo_upd upd_ne upd_same)
variable {P : Program}
section
variable {c : Nat} {z : Value} {B₀ : Nat} {R0 : (Nat → Prop) → World → World → Prop} {D0 : (Nat → Prop) → World → World → Array Event → Prop} {RB : (Nat → Prop) → World → World → Prop} {DB : (Nat → Prop) → World → World → Array Event → Prop} {CA CB : (Nat → Prop) → Touch → Prop} {n κ : Nat} {K : Goroutine → World → Prop}
structure St (P : Program) (c B₀ : Nat) (z : Value) (R0 RB : (Nat → Prop) → World → World → Prop) (CA CB : (Nat → Prop) → Touch → Prop) (n κ : Nat) (LB : List Value) (T : Nat → Prop) (b : Goroutine) (wb : World) (LA : List Value) (S : Nat → Prop) (g : Goroutine) (wa : World) (gs : Array Goroutine) (x : Goroutine) (w : World) (t : Trace) (q : Nat → Nat) (buf : Array Value) (s r : Nat) : Prop where
  r0 : R0 S wa w
  rB : RB T wb w
  apt : Apt B₀ S T w
  zero : gs[0]? = some x
  child : gs[κ]? = some b
  sit : LooksAs x g ∨ (x = parked g #[rcase c z] (.recv true) ∧ AtR P c z R0 CA S g wa ∧ buf = #[])
  leave : LeavX P (fun j => j = κ) t gs q
  trace : ∃ B, TI True κ B (CA S) (CB T) t
  chan : w.heap[c]? = some (.chan n buf false s r false)
  list : LA = buf.toList ++ LB
  room : buf.size + LB.length ≤ n
section
variable {LB LA : List Value} {S T : Nat → Prop} {b g x : Goroutine} {wb wa w : World} {gs : Array Goroutine} {t : Trace} {q : Nat → Nat} {buf : Array Value} {s r : Nat}
theorem St.at (H : Pair c B₀ R0 D0 RB DB CA CB) (h : St P c B₀ z R0 RB CA CB n κ LB T b wb LA S g wa gs x w t q buf s r) (d : Nat) : St P c B₀ z R0 RB CA CB n κ LB T b wb LA S g wa gs x (w.at d) t q buf s r := by
  exact ⟨H.t0.trans _ _ _ _ h.r0 (H.at0 _ w d), H.tB.trans _ _ _ _ h.rB (H.atB _ w d), h.apt.same rfl, h.zero, h.child, h.sit, h.leave, h.trace, h.chan, h.list, h.room⟩
theorem St.stays (h : St P c B₀ z R0 RB CA CB n κ LB T b wb LA S g wa gs x w t q buf s r) (a a' : Goroutine) : woken P a a' w x = x := by
  rcases h.sit with h1 | ⟨rfl, _, _⟩
  · exact woken_running h1.status
  · exact woken_recv_open a a' h.chan
theorem St.awake (h : St P c B₀ z R0 RB CA CB n κ LB T b wb LA S g wa gs x w t q buf s r) (hb : b.status = .running) : ∀ y ∈ gs, awake y := by
  intro y hy
  obtain ⟨i, hi, rfl⟩ := Array.mem_iff_getElem.1 hy
  rcases Nat.eq_zero_or_pos i with rfl | hpos
  · have : gs[0] = x := by simpa [Array.getElem?_eq_getElem hi] using h.zero
    rw [this]
    rcases h.sit with h1 | ⟨h1, _, _⟩
    · exact awake_of (.inl h1.status)
    · exact awake_of (.inr (.inl (by rw [h1]; rfl)))
  · by_cases hk : i = κ
    · subst hk
      have : gs[i] = b := by simpa [Array.getElem?_eq_getElem hi] using h.child
      rw [this]; exact awake_of (.inl hb)
    · exact awake_of ((h.leave.old i _ hpos hk (Array.getElem?_eq_getElem hi)).status.elim .inl fun x => .inr (.inr x))
theorem St.slip (hb : b.status = .running) (h : St P c B₀ z R0 RB CA CB n κ LB T b wb LA S g wa gs x w t q buf s r) {i : Nat} {y : Goroutine} {sl : Option (Nat × Nat)} (hi : gs[i]? = some y) (hy : y.status = .running) (hpos : 0 < i) (hk : i ≠ κ) :
    ∃ gs' u q', runT P (crowd gs w sl) i = (.next (crowd gs' w sl), u) ∧ gs'.size = gs.size ∧ sumTo gs.size q' < sumTo gs.size q ∧ St P c B₀ z R0 RB CA CB n κ LB T b wb LA S g wa gs' x w (t ++ u) q' buf s r := by
  obtain ⟨gs', u, q', e1, e2, e3, e4, e5, e6⟩ := Go.Proofs.YtpbbmagjhkakgaaGreatDoor.Lf.slip (w := w) (sl := sl) h.leave hi hy hpos hk
  obtain ⟨B, hT⟩ := h.trace
  obtain ⟨B', _, hT2⟩ := hT.still (fun op hop => (e5 op hop).2.1) (fun op hop => ⟨.inl (by rw [(e5 op hop).1]; omega), .inl (by rw [(e5 op hop).1]; exact hk)⟩)
  exact ⟨gs', u, q', e1, e2, e3, h.r0, h.rB, h.apt, e6 0 x (.inl rfl) h.zero h.stays, e6 κ b (.inr rfl) h.child (fun a a' => woken_running hb), h.sit, e4, ⟨B', hT2⟩, h.chan, h.list, h.room⟩
end
theorem phase_core (H : Pair c B₀ R0 D0 RB DB CA CB) (hκ : κ ≠ 0) {LB : List Value} {T : Nat → Prop} {b : Goroutine} {wb : World} (hb : b.status = .running)
    (mv : ∀ {LA : List Value} {S : Nat → Prop} {g : Goroutine} {wa : World}, SA P c z R0 D0 CA K LA S g wa → ∀ gs x w sl t q buf s r, St P c B₀ z R0 RB CA CB n κ LB T b wb LA S g wa gs x w t q buf s r → ∃ m' u, runT P (crowd gs w sl) κ = (.next m', u) ∧ Ends0 P K m' (t ++ u))
    {LA : List Value} {S : Nat → Prop} {g : Goroutine} {wa : World} (hA : SA P c z R0 D0 CA K LA S g wa) :
    ∀ (M : Nat) (gs : Array Goroutine) (x : Goroutine) (w : World) (sl : Option (Nat × Nat)) (t : Trace) (q : Nat → Nat) (buf : Array Value) (s r : Nat), sumTo gs.size q ≤ M → St P c B₀ z R0 RB CA CB n κ LB T b wb LA S g wa gs x w t q buf s r → Ends0 P K (crowd gs w sl) t := by
  have hparked : ∀ {LA : List Value} {S : Nat → Prop} {g : Goroutine} {wa : World}, SA P c z R0 D0 CA K LA S g wa → ∀ (M : Nat) (gs : Array Goroutine) (x : Goroutine) (w : World) (sl : Option (Nat × Nat)) (t : Trace) (q : Nat → Nat) (buf : Array Value) (s r : Nat), sumTo gs.size q ≤ M → x.status = .blocked →
      St P c B₀ z R0 RB CA CB n κ LB T b wb LA S g wa gs x w t q buf s r → Ends0 P K (crowd gs w sl) t := by
    intro LA S g wa hA M
    induction M using Nat.strongRecOn with
    | _ M ihM =>
      intro gs x w sl t q buf s r hM hx hS
      obtain ⟨i, y, d, sl', hi, hy, hst⟩ := crowd_pick (P := P) (w := w) (sl := sl) (hS.awake hb) ⟨κ, b, hS.child, hb⟩
      have hS' := hS.at H d
      rcases Nat.eq_zero_or_pos i with rfl | hpos
      · rw [hS.zero] at hi
        obtain rfl := Option.some.inj hi
        rw [hx] at hy; cases hy
      · by_cases hk : i = κ
        · subst hk
          obtain ⟨m', u, e1, e2⟩ := mv hA gs x (w.at d) sl' t q buf s r hS'
          exact Ends0.step (hst.trans e1) e2
        · obtain ⟨gs', u, q', e1, e2, e3, e4⟩ := hS'.slip hb (sl := sl') hi hy hpos hk
          exact Ends0.step (hst.trans e1) (ihM _ (Nat.lt_of_lt_of_le e3 hM) gs' x _ sl' _ q' buf s r (by rw [e2]; exact Nat.le_refl _) hx e4)
  induction hA with
  | @own LA S g wa f hs h1 h2 ih =>
    intro M
    induction M using Nat.strongRecOn with
    | _ M ihM =>
      intro gs x w sl t q buf s r hM hS
      rcases hS.sit with hx | ⟨hx, _, _⟩
      case inr => exact hparked (.own f hs h1 h2) M gs x w sl t q buf s r hM (by rw [hx]; rfl) hS
      obtain ⟨i, y, d, sl', hi, hy, hst⟩ := crowd_pick (P := P) (w := w) (sl := sl) (hS.awake hb) ⟨κ, b, hS.child, hb⟩
      have hS' := hS.at H d
      rcases Nat.eq_zero_or_pos i with rfl | hpos
      · obtain rfl : y = x := by rw [hS.zero] at hi; exact (Option.some.inj hi).symm
        obtain ⟨a1, a2⟩ := h1 _ hS'.r0
        have hgo := (hx.step (P := P) true (w.at d)).trans a1
        obtain ⟨b1, b2, b3, b4⟩ := H.d0 _ _ _ _ _ hS'.apt a2
        have hrun := runT_crowd_go (P := P) (w := w.at d) (sl := sl') (i := 0) hi (show stepG P (0 == 0) y (w.at d) = _ from hgo)
        have hlt : 0 < gs.size := (Array.getElem?_eq_some_iff.1 hi).1
        have hmn := H.mono _ _ (grow_sub S (w.at d) (f (w.at d)).2.1)
        obtain ⟨B, hT⟩ := hS'.trace
        obtain ⟨B', _, hT2⟩ := (hT.mono (Nat.le_refl B) hmn.1 (fun _ x => x)).evs0 hκ (H.apart _ _ _ (hS'.apt.grow0 b4)) (fn := y.frame.fn) (pos := y.frame.place) b3
        refine Ends0.step (hst.trans hrun) (ih _ hS'.r0 _ _ _ _ sl' _ q buf s r (Nat.le_refl _) ⟨H.refl0 _ _, H.tB.trans _ _ _ _ hS'.rB b1, hS'.apt.grow0 b4, by simp [hlt], ?_, .inl (.self (h2 _ hS'.r0).running), ?_, ⟨B', hT2⟩, b2.trans hS'.chan, hS.list, hS.room⟩)
        · rw [Array.getElem?_setIfInBounds_ne (Ne.symm hκ), Array.getElem?_map, hS.child]
          simp [woken_running hb]
        · refine hS.leave.turn (by simp) (fun j v hj hjk hv => ?_) (fun op hop => by obtain ⟨e, _, rfl⟩ := Go.Conc.mem_ofEvents hop; exact ⟨.inl rfl, hlt⟩)
          rw [Array.getElem?_setIfInBounds_ne (by omega), Array.getElem?_map] at hv
          obtain ⟨z', hz, rfl⟩ := Option.map_eq_some_iff.1 hv
          rw [woken_quitsD (hS.leave.old j z' hj hjk hz)]
          exact hz
      · by_cases hk : i = κ
        · subst hk
          obtain ⟨m', u, e1, e2⟩ := mv (.own f hs h1 h2) gs x (w.at d) sl' t q buf s r hS'
          exact Ends0.step (hst.trans e1) e2
        · obtain ⟨gs', u, q', e1, e2, e3, e4⟩ := hS'.slip hb (sl := sl') hi hy hpos hk
          exact Ends0.step (hst.trans e1) (ihM _ (Nat.lt_of_lt_of_le e3 hM) gs' x _ sl' _ q' buf s r (by rw [e2]; exact Nat.le_refl _) e4)
  | @recv v LA S g wa hs h1 h2 ih =>
    intro M
    induction M using Nat.strongRecOn with
    | _ M ihM =>
      intro gs x w sl t q buf s r hM hS
      rcases hS.sit with hx | ⟨hx, _, _⟩
      case inr => exact hparked (.recv hs h1 h2) M gs x w sl t q buf s r hM (by rw [hx]; rfl) hS
      obtain ⟨i, y, d, sl', hi, hy, hst⟩ := crowd_pick (P := P) (w := w) (sl := sl) (hS.awake hb) ⟨κ, b, hS.child, hb⟩
      have hS' := hS.at H d
      rcases Nat.eq_zero_or_pos i with rfl | hpos
      · obtain rfl : y = x := by rw [hS.zero] at hi; exact (Option.some.inj hi).symm
        obtain ⟨es, a1, a2⟩ := h1 _ hS'.r0
        have hcm := (hx.step (P := P) true (w.at d)).trans a1
        have hlt : 0 < gs.size := (Array.getElem?_eq_some_iff.1 hi).1
        obtain ⟨B, hT⟩ := hS'.trace
        obtain ⟨B', _, hT2⟩ := hT.evs0 hκ (H.apart _ _ _ hS'.apt) (fn := y.frame.fn) (pos := y.frame.place) a2
        have hnb : ∀ (j : Nat) (g' : Goroutine), j ≠ 0 → gs[j]? = some g' → g'.status ≠ .blocked := fun j g' hj hg' => by
          by_cases hk : j = κ
          · subst hk; rw [hS.child] at hg'; obtain rfl := Option.some.inj hg'; rw [hb]; simp
          · rcases (hS.leave.old j g' (by omega) hk hg').status with e | e <;> rw [e] <;> simp
        by_cases hsz : buf = #[]
        · -- nothing is there: it waits
          subst hsz
          have hrun := crowd_waits (P := P) (gs := gs) (w := w.at d) (sl := sl') (i := 0) hi (show stepG P (0 == 0) y (w.at d) = _ from hcm) (fun cc hcc => by
            simp at hcc; subst hcc
            exact ways_recv_none hS'.chan (no_partners hnb))
          refine Ends0.step (hst.trans hrun) (hparked (.recv hs h1 h2) _ _ (parked g #[rcase c z] (.recv true)) _ sl' _ q #[] s r (Nat.le_refl _) rfl ⟨hS'.r0, hS'.rB, hS'.apt, by simp [hlt], ?_, .inr ⟨rfl, h1, rfl⟩, ?_, ⟨B', hT2⟩, hS'.chan, hS.list, hS.room⟩)
          · rw [Array.getElem?_setIfInBounds_ne (Ne.symm hκ)]; exact hS.child
          · refine hS.leave.turn (by simp) (fun j v hj hjk hv => ?_) (fun op hop => by obtain ⟨e, _, rfl⟩ := Go.Conc.mem_ofEvents hop; exact ⟨.inl rfl, hlt⟩)
            rw [Array.getElem?_setIfInBounds_ne (by omega)] at hv; exact hv
        · -- it takes from the buffer
          obtain ⟨l0, hl0⟩ : ∃ l0, buf.toList = v :: l0 := by
            have := hS.list
            cases hbl : buf.toList with
            | nil => exact absurd (by simpa using hbl) hsz
            | cons a l => rw [hbl] at this; simp at this; exact ⟨l, by rw [this.1]⟩
          obtain ⟨hsz', hhd, htl⟩ := take_head hl0.symm
          have hrun := crowd_recv_buf (P := P) (gs := gs) (w := w.at d) (sl := sl') (i := 0) hi (show stepG P (0 == 0) y (w.at d) = _ from hcm) hS'.chan hsz' (no_partners hnb)
          rw [finishComm_recv, hhd] at hrun
          have hput := H.put0 S (w.at d) n (buf.extract 1 buf.size) false s (r + 1) false
          have hputB := H.putB T (w.at d) n (buf.extract 1 buf.size) false s (r + 1) false
          obtain ⟨B'', _, hT3⟩ := hT2.still (u := #[{ g := 0, fn := g.frame.fn, pos := g.frame.place, act := .recv c r n }, { g := 0, fn := g.frame.fn, pos := g.frame.place, act := .recvDone c r }]) (fun op hop => by simp at hop; rcases hop with rfl | rfl <;> rfl) (fun op hop => by simp at hop; rcases hop with rfl | rfl <;> simp)
          refine Ends0.step (hst.trans hrun) (ih _ (H.t0.trans _ _ _ _ hS'.r0 hput) _ _ _ _ sl' _ q (buf.extract 1 buf.size) s (r + 1) (Nat.le_refl _) ⟨H.refl0 _ _, H.tB.trans _ _ _ _ hS'.rB hputB, hS'.apt.same (setChan_size _ _ _ _ _ _ _ _), by simp [hlt], ?_, .inl (.self rfl), ?_, ⟨B'', by rw [← Array.append_assoc]; exact hT3⟩, setChan_same hS'.chan, ?_, ?_⟩)
          · rw [Array.getElem?_setIfInBounds_ne (Ne.symm hκ)]; exact hS.child
          · refine hS.leave.turn (by simp) (fun j v hj hjk hv => ?_) (fun op hop => ?_)
            · rw [Array.getElem?_setIfInBounds_ne (by omega)] at hv; exact hv
            · rcases Array.mem_append.1 hop with hop | hop
              · obtain ⟨e, _, rfl⟩ := Go.Conc.mem_ofEvents hop; exact ⟨.inl rfl, hlt⟩
              · simp at hop; rcases hop with rfl | rfl <;> exact ⟨.inl rfl, hlt⟩
          · have := hS.list
            rw [hl0] at this
            simp at this
            rw [htl]; exact this
          · have := hS.room
            simp
            omega
      · by_cases hk : i = κ
        · subst hk
          obtain ⟨m', u, e1, e2⟩ := mv (.recv hs h1 h2) gs x (w.at d) sl' t q buf s r hS'
          exact Ends0.step (hst.trans e1) e2
        · obtain ⟨gs', u, q', e1, e2, e3, e4⟩ := hS'.slip hb (sl := sl') hi hy hpos hk
          exact Ends0.step (hst.trans e1) (ihM _ (Nat.lt_of_lt_of_le e3 hM) gs' x _ sl' _ q' buf s r (by rw [e2]; exact Nat.le_refl _) e4)
  | @fin S g wa hs h1 h2 =>
    intro M
    induction M using Nat.strongRecOn with
    | _ M ihM =>
      intro gs x w sl t q buf s r hM hS
      rcases hS.sit with hx | ⟨hx, _, _⟩
      case inr => exact hparked (.fin hs h1 h2) M gs x w sl t q buf s r hM (by rw [hx]; rfl) hS
      obtain ⟨i, y, d, sl', hi, hy, hst⟩ := crowd_pick (P := P) (w := w) (sl := sl) (hS.awake hb) ⟨κ, b, hS.child, hb⟩
      have hS' := hS.at H d
      rcases Nat.eq_zero_or_pos i with rfl | hpos
      · obtain rfl : y = x := by rw [hS.zero] at hi; exact (Option.some.inj hi).symm
        obtain ⟨es, a1, a2⟩ := h1 _ hS'.r0
        have hcm := (hx.step (P := P) true (w.at d)).trans a1
        have hlt : 0 < gs.size := (Array.getElem?_eq_some_iff.1 hi).1
        obtain ⟨B, hT⟩ := hS'.trace
        obtain ⟨B', _, hT2⟩ := hT.evs0 hκ (H.apart _ _ _ hS'.apt) (fn := y.frame.fn) (pos := y.frame.place) a2
        have hnb : ∀ (j : Nat) (g' : Goroutine), j ≠ 0 → gs[j]? = some g' → g'.status ≠ .blocked := fun j g' hj hg' => by
          by_cases hk : j = κ
          · subst hk; rw [hS.child] at hg'; obtain rfl := Option.some.inj hg'; rw [hb]; simp
          · rcases (hS.leave.old j g' (by omega) hk hg').status with e | e <;> rw [e] <;> simp
        obtain rfl : buf = #[] := by
          have := hS.list
          simp at this
          exact this.1
        have hrun := crowd_waits (P := P) (gs := gs) (w := w.at d) (sl := sl') (i := 0) hi (show stepG P (0 == 0) y (w.at d) = _ from hcm) (fun cc hcc => by
          simp at hcc; subst hcc
          exact ways_recv_none hS'.chan (no_partners hnb))
        refine Ends0.step (hst.trans hrun) (hparked (.fin hs h1 h2) _ _ (parked g #[rcase c z] (.recv true)) _ sl' _ q #[] s r (Nat.le_refl _) rfl ⟨hS'.r0, hS'.rB, hS'.apt, by simp [hlt], ?_, .inr ⟨rfl, h1, rfl⟩, ?_, ⟨B', hT2⟩, hS'.chan, hS.list, hS.room⟩)
        · rw [Array.getElem?_setIfInBounds_ne (Ne.symm hκ)]; exact hS.child
        · refine hS.leave.turn (by simp) (fun j v hj hjk hv => ?_) (fun op hop => by obtain ⟨e, _, rfl⟩ := Go.Conc.mem_ofEvents hop; exact ⟨.inl rfl, hlt⟩)
          rw [Array.getElem?_setIfInBounds_ne (by omega)] at hv; exact hv
      · by_cases hk : i = κ
        · subst hk
          obtain ⟨m', u, e1, e2⟩ := mv (.fin hs h1 h2) gs x (w.at d) sl' t q buf s r hS'
          exact Ends0.step (hst.trans e1) e2
        · obtain ⟨gs', u, q', e1, e2, e3, e4⟩ := hS'.slip hb (sl := sl') hi hy hpos hk
          exact Ends0.step (hst.trans e1) (ihM _ (Nat.lt_of_lt_of_le e3 hM) gs' x _ sl' _ q' buf s r (by rw [e2]; exact Nat.le_refl _) e4)
end
end Go.Proofs.YtpbbmagjhkakgaaGreatDoor.Lf
