/-
  The walk beside goroutines that are only leaving: several pieces of code of the lone machine's at once; a condition, a block, a loop on the way to whatever end; for every program.
-/
/-
  From a contract beside goroutines that are only leaving to one good run from the start: for a function with one result; for every program.
-/
/-
  Plain laws: texts with the signs of ASCII, with or without a blank behind a window, are read as the sentences that they are written for; no condition but those that stand in each theorem.
-/
import Derived.Test.YtpbbmagjhkakgaaGreatDoorLfLeadToLfPlain
import Derived.Test.YtpbbmagjhkakgaaGreatDoorPureSizeToPureSem
import Derived.Conc.LeavingOf
import Derived.Conc.Beside
namespace Go.Proofs.YtpbbmagjhkakgaaGreatDoor.Lf
open Go Go.Conc
variable {P : Program} {K : Goroutine → World → Prop} {b : Frame} {k : List Item} {cs : List Frame} {a : Act} {w : World}
def unseq : List Code → Code → Code
  | [], z => z
  | c :: l, z => .seq c (unseq l z)
def wps (P : Program) : List Code → (Act → World → Prop) → Act → World → Prop
  | [], J, a, w => J a w
  | c :: l, J, a, w => c.wp P (fun e a' w' => e = .normal ∧ wps P l J a' w') a w
theorem wps_steps {z : Code} {J : Act → World → Prop} : ∀ (l : List Code) (a : Act) (w : World), wps P l J a w → ∃ a' w', J a' w' ∧ Steps P (lone (b.at a (.code (unseq l z) :: k)) cs w) (lone (b.at a' (.code z :: k)) cs w')
  | [], a, w, h => ⟨a, w, h, .refl _ _⟩
  | c :: l, a, w, h => by
    obtain ⟨e, a1, w1, h1, h2⟩ := h b (.code (unseq l z) :: k) cs
    obtain ⟨rfl, h1⟩ := h1
    obtain ⟨a', w', h3, h4⟩ := wps_steps l a1 w1 h1
    exact ⟨a', w', h3, .head step_seq (Steps.trans h2 h4)⟩
theorem LeadsR.pieces (hP : Plain P) (l : List Code) {z : Code} (J : Act → World → Prop) (hJ : ∀ a w τ d, J a w → J a (re w τ d)) (hi : ∀ it ∈ k, okItem it) (hc : ∀ fr ∈ cs, okFrame fr) (h : ∀ τ d, wps P l J a (re w τ d))
    (hk : ∀ a' w', J a' w' → LeadsR P K (G (b.at a' (.code z :: k)) cs) w') : LeadsR P K (G (b.at a (.code (unseq l z) :: k)) cs) w := by
  have h1 : LeadsR P (fun g w' => ∃ a', J a' w' ∧ g = G (b.at a' (.code z :: k)) cs) (G (b.at a (.code (unseq l z) :: k)) cs) w := by
    refine .of_steps hP ?_ (fine_at hi hc) fun τ d => ?_
    · rintro g w τ d ⟨a', h1, h2⟩
      exact ⟨a', hJ _ _ _ _ h1, h2⟩
    · obtain ⟨a', w', h1, h2⟩ := wps_steps (b := b) (k := k) (cs := cs) (z := z) l a (re w τ d) (h τ d)
      exact ⟨_, w', h2, G_not_lost _ _, fun _ => ⟨a', h1, rfl⟩⟩
  refine h1.trans ?_
  rintro g w' ⟨a', h1, rfl⟩
  exact hk a' w' h1
theorem bodyPost_re {fn : Func} {R : Ending → World → Prop} (hR : ∀ e w τ d, R e w → R e (re w τ d)) : ∀ e a w τ d, bodyPost P fn R e a w → bodyPost P fn R e a (re w τ d) := by
  intro e a w τ d h
  cases e with
  | normal => obtain ⟨hd, v, hr, hv⟩ := h; exact ⟨hd, v, results_re hr τ d, hR _ _ _ _ hv⟩
  | ret => obtain ⟨hd, v, hr, hv⟩ := h; exact ⟨hd, v, results_re hr τ d, hR _ _ _ _ hv⟩
  | panic chain => obtain ⟨hd, hv⟩ := h; exact ⟨hd, hR _ _ _ _ hv⟩
  | exit id => exact h
  | goto l => exact h
  | outgrown => exact hR _ _ _ _ h
theorem LeadsR.last (hP : Plain P) {f : FuncId} {fn : Func} {z : Code} {R : Ending → World → Prop} (hc : ∀ fr ∈ cs, okFrame fr) (hf : P.funcs[f]? = some fn) (hR : ∀ e w τ d, R e w → R e (re w τ d)) (hno : ∀ w, ¬ R .outgrown w)
    (h : ∀ τ d, z.wp P (bodyPost P fn R) a (re w τ d)) : LeadsR P (fun g w' => ∃ e fr, g = G fr cs ∧ okFrame fr ∧ R e w' ∧ fr.fn = f ∧ fr.leaving P w' e) (G ((base f).at a [.code z]) cs) w := by
  refine LeadsR.code (Q := bodyPost P fn R) (HWp.of_wp hP (bodyPost_re hR) (fun a w x => hno w x) h) ⟨fun _ h => (by cases h), hc, fun _ _ _ x => x.elim, fun _ _ _ x => x.elim⟩ fun e a' w' g h1 h2 => ?_
  cases e with
  | normal =>
    cases h2
    obtain ⟨hd, v, hr, hv⟩ := h1
    exact LeadsR.move hP (fine_G (okFrame_at (fun _ h => by cases h)) hc) (fun _ => .one step_end) fun hf' => .here fun τ d => ⟨.returned v, _, rfl, hf'.ok.frame, hR _ _ _ _ hv, rfl, rfl, hd, rfl, fn, hf, results_re hr τ d⟩
  | ret =>
    obtain ⟨todo, h3, rfl⟩ := h2
    obtain ⟨hd, v, hr, hv⟩ := h1
    exact .here fun τ d => ⟨.returned v, _, rfl, h3, hR _ _ _ _ hv, rfl, rfl, hd, rfl, fn, hf, results_re hr τ d⟩
  | panic chain =>
    obtain ⟨todo, h3, rfl⟩ := h2
    obtain ⟨hd, hv⟩ := h1
    exact .here fun τ d => ⟨.panicked chain, _, rfl, h3, hR _ _ _ _ hv, rfl, rfl, hd, fn, hf⟩
  | exit id => exact h1.elim
  | goto l => exact h1.elim
  | outgrown => exact h2.elim
theorem LeadsR.hpiece {c : Code} (J : Act → World → Prop) (hi : ∀ it ∈ k, okItem it) (hc : ∀ fr ∈ cs, okFrame fr) (h : HWp P c (fun e a' w' => e = .normal ∧ J a' w') a w) (hk : ∀ a' w', J a' w' → LeadsR P K (G (b.at a' k) cs) w') : LeadsR P K (G (b.at a (.code c :: k)) cs) w :=
  LeadsR.code h ⟨hi, hc, fun _ _ _ x => (by cases x.1), fun _ _ _ x => (by cases x.1)⟩ fun e a' w' g x y => by
    obtain ⟨rfl, x⟩ := x
    obtain rfl : g = _ := y
    exact hk a' w' x
theorem HWp.seqL (hP : Plain P) {x y : Code} {Q : Exit → Act → World → Prop} (J : Act → World → Prop) (hJ : ∀ a w τ d, J a w → J a (re w τ d)) (h : ∀ τ d, x.wp P (fun e a' w' => e = .normal ∧ J a' w') a (re w τ d)) (hk : ∀ a w, J a w → HWp P y Q a w) : HWp P (.seq x y) Q a w :=
  HWp.seq' hP J ((HWp.of_wp hP (Q := fun e a' w' => e = .normal ∧ J a' w') (fun e a w τ d x => ⟨x.1, hJ _ _ _ _ x.2⟩) (fun a w x => by cases x.1) h).mono fun e a w x => by obtain ⟨rfl, x⟩ := x; exact x) hk
theorem HWp.seqH (hP : Plain P) {x y : Code} {Q : Exit → Act → World → Prop} (J : Act → World → Prop) (h : HWp P x (fun e a' w' => e = .normal ∧ J a' w') a w) (hk : ∀ a w, J a w → HWp P y Q a w) : HWp P (.seq x y) Q a w :=
  HWp.seq' hP J (h.mono fun e a w x => by obtain ⟨rfl, x⟩ := x; exact x) hk
theorem HWp.of_lead {c : Code} {J : Act → World → Prop} (h : ∀ (b : Frame) (k : List Item) (cs : List Frame), (∀ it ∈ k, okItem it) → (∀ fr ∈ cs, okFrame fr) → LeadsR P (fun g w' => ∃ a', J a' w' ∧ g = G (b.at a' k) cs) (G (b.at a (.code c :: k)) cs) w) : HWp P c (fun e a' w' => e = .normal ∧ J a' w') a w :=
  fun b k cs hb => (h b k cs hb.items hb.frames).mono fun _ _ ⟨a', h1, h2⟩ => ⟨.normal, a', ⟨rfl, h1⟩, h2⟩
theorem HWp.blockN (hP : Plain P) {id : Nat} {c : Code} {J : Act → World → Prop} (hJ : ∀ a w τ d, J a w → J a (re w τ d)) (h : HWp P c (fun e a' w' => e = .normal ∧ J a' w') a w) : HWp P (.block id c) (fun e a' w' => e = .normal ∧ J a' w') a w :=
  HWp.block hP (fun a w τ d x => ⟨rfl, hJ _ _ _ _ x.2⟩) (h.mono fun e a w x => by obtain ⟨rfl, x⟩ := x; exact ⟨rfl, x⟩)
theorem HWp.loneN (hP : Plain P) {c : Code} {J : Act → World → Prop} (hJ : ∀ a w τ d, J a w → J a (re w τ d)) (h : ∀ τ d, c.wp P (fun e a' w' => e = .normal ∧ J a' w') a (re w τ d)) : HWp P c (fun e a' w' => e = .normal ∧ J a' w') a w :=
  HWp.of_wp hP (fun e a w τ d x => ⟨x.1, hJ _ _ _ _ x.2⟩) (fun a w x => by cases x.1) h
theorem HWp.blockLoop (hP : Plain P) {id : Nat} {c : Code} (I : Nat → Act → World → Prop) (J : Act → World → Prop) (hJ : ∀ a w τ d, J a w → J a (re w τ d)) (n₀ : Nat) (h₀ : I n₀ a w)
    (round : ∀ n a w, I n a w → HWp P c (fun e a' w' => (e = .normal ∧ ∃ m, m < n ∧ I m a' w') ∨ (e = .exit id ∧ J a' w')) a w) : HWp P (.block id (.loop c)) (fun e a' w' => e = .normal ∧ J a' w') a w := by
  refine HWp.block hP (fun a w τ d x => ⟨rfl, hJ _ _ _ _ x.2⟩) (HWp.loop hP I n₀ h₀ fun n a w hI => (round n a w hI).mono fun e a w x => ?_)
  rcases x with ⟨rfl, x⟩ | ⟨rfl, x⟩
  · exact x
  · simp only [Exit.then, Exit.inBlock, if_true]
    exact ⟨trivial, x⟩
end Go.Proofs.YtpbbmagjhkakgaaGreatDoor.Lf

namespace Go.Proofs.YtpbbmagjhkakgaaGreatDoor.Lf
open Go Go.Conc
variable {P : Program}
theorem stepG_end {fr : Frame} {fn : Func} {t : Tmp} {w : World} {v : Value} (h : fr.leaving P w (.returned v)) (hf : P.funcs[fr.fn]? = some fn) (hr : fn.results = #[.tmp t]) (hin : P.inits.idxOf? fr.fn = none) : stepG P true (G fr []) w = .ended (.done v) w #[] := by
  obtain ⟨hm, hd, hk, fn', hf', hr'⟩ := h
  rw [hf] at hf'
  cases hf'
  rw [results_tmp hr] at hr'
  simp only [Result.ok.injEq, and_true] at hr'
  simp only [Array.getD_eq_getD_getElem?] at hr'
  simp [stepG, unwind, doReturn, hm, hd, hf, hk, hin, results, hr, hr', G]
  have e : seen P fr.fn #[] = #[] := by simp [seen]
  rw [e]
  rfl
theorem HCalls.good {f : FuncId} {fn : Func} {t : Tmp} {args : Array Value} {W : World} {R : Ending → World → Prop} (h : HCalls P f args W R) (hf : P.funcs[f]? = some fn) (hr : fn.results = #[.tmp t]) (hin : P.inits.idxOf? f = none) (hR : ∀ e w τ d, R e w → R e (re w τ d)) (hret : ∀ e w, R e w → ∃ v, e = .returned v) :
    ∃ M last o w' t', runNT P (M + 1) (solo (G (Frame.enter P f args .normal) []) W) #[] = (.ended o w', t') ∧ runN P M (solo (G (Frame.enter P f args .normal) []) W) = .next last ∧ step P last = .ended o w' ∧ Conc.Good P (fun v w' => R (.returned v) w') last o w' t' := by
  obtain ⟨N, gs', g', w', sl', t', h1, ⟨f0, ⟨q, fq⟩, ⟨B, fB⟩⟩, e, fr, rfl, _, h3, h4, h5⟩ := (h [] (fun _ hx => by cases hx)).leads #[G (Frame.enter P f args .normal) []] none #[] ⟨rfl, ⟨_, leavers_one P _⟩, ⟨0, past_nil⟩⟩
  obtain ⟨v, rfl⟩ := hret e w' h3
  have hG : Goes P true AtRel (fun _ _ _ => False) (AtEnd P (fun _ => False) B (fun v w' => R (.returned v) w')) 0 (G fr []) w' := by
    rintro w₁ ⟨d, rfl⟩
    have hl : fr.leaving P (re w' w'.tape d) (.returned v) := leaving_re h5 w'.tape d
    exact ⟨rfl, v, #[], stepG_end hl (by rw [h4]; exact hf) hr (by rw [h4]; exact hin), fun e he => by simp at he, hR _ _ w'.tape d h3⟩
  obtain ⟨M, last, o, w2, t2, k1, k2, k3, k4⟩ := beside_ends (fun _ _ _ x => x.elim) (sl := sl') f0 fq fB hG
  refine ⟨N + M, last, o, w2, t2, ?_, ?_, k3, k4⟩
  · rw [Nat.add_assoc, runNT_add]
    show (match runNT P N (crowd #[G (Frame.enter P f args .normal) []] W none) #[] with | (.next m', t') => runNT P (M + 1) m' t' | x => x) = _
    rw [h1]
    exact k1
  · have h1' : runN P N (solo (G (Frame.enter P f args .normal) []) W) = .next (crowd gs' w' sl') := by
      rw [← runNT_fst P N _ #[]]
      exact congrArg Prod.fst h1
    rw [runN_add, h1']
    exact k2
end Go.Proofs.YtpbbmagjhkakgaaGreatDoor.Lf

namespace Go.Proofs.YtpbbmagjhkakgaaGreatDoor
open Go.Deep (BT)
def winW (a b : Int) : List UInt8 := [91] ++ (Lib.itoa a ++ ([44] ++ (Lib.itoa b ++ [93])))
end Go.Proofs.YtpbbmagjhkakgaaGreatDoor
