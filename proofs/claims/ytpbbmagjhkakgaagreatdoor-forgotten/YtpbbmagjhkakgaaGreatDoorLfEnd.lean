
import Derived.Test.YtpbbmagjhkakgaaGreatDoorEdInvToSnReach
import Derived.Conc.LeavingOf
import Derived.Conc.Beside
namespace Go.Proofs.YtpbbmagjhkakgaaGreatDoor.Lf
open Go Go.Conc
variable {P : Program}
theorem stepG_end {fr : Frame} {fn : Func} {t : Tmp} {w : World} {v : Value} (h : fr.leaving P w (.returned v)) (hf : P.funcs[fr.fn]? = some fn) (hr : fn.results = #[.tmp t]) (hin : P.inits.idxOf? fr.fn = none) : stepG P true (G fr []) w = .ended (.done v) w #[] := by
  obtain ⟨hm, hd, hk, fn', hf', hr'⟩ := h
  rw [hf] at hf'
  cases hf'
  rw [results_tmp hr] at hr'
  simp only [Result.ok.injEq, and_true] at hr'
  simp only [Array.getD_eq_getD_getElem?] at hr'
  simp [stepG, unwind, doReturn, hm, hd, hf, hk, hin, results, hr, hr', G]
  have e : seen P fr.fn #[] = #[] := by simp [seen]
  rw [e]
  rfl
theorem HCalls.good {f : FuncId} {fn : Func} {t : Tmp} {args : Array Value} {W : World} {R : Ending → World → Prop} (h : HCalls P f args W R) (hf : P.funcs[f]? = some fn) (hr : fn.results = #[.tmp t]) (hin : P.inits.idxOf? f = none) (hR : ∀ e w τ d, R e w → R e (re w τ d)) (hret : ∀ e w, R e w → ∃ v, e = .returned v) :
    ∃ M last o w' t', runNT P (M + 1) (solo (G (Frame.enter P f args .normal) []) W) #[] = (.ended o w', t') ∧ runN P M (solo (G (Frame.enter P f args .normal) []) W) = .next last ∧ step P last = .ended o w' ∧ Conc.Good P (fun v w' => R (.returned v) w') last o w' t' := by
  obtain ⟨N, gs', g', w', sl', t', h1, ⟨f0, ⟨q, fq⟩, ⟨B, fB⟩⟩, e, fr, rfl, _, h3, h4, h5⟩ := (h [] (fun _ hx => by cases hx)).leads #[G (Frame.enter P f args .normal) []] none #[] ⟨rfl, ⟨_, leavers_one P _⟩, ⟨0, past_nil⟩⟩
  obtain ⟨v, rfl⟩ := hret e w' h3
  have hG : Goes P true AtRel (fun _ _ _ => False) (AtEnd P (fun _ => False) B (fun v w' => R (.returned v) w')) 0 (G fr []) w' := by
    rintro w₁ ⟨d, rfl⟩
    have hl : fr.leaving P (re w' w'.tape d) (.returned v) := leaving_re h5 w'.tape d
    exact ⟨rfl, v, #[], stepG_end hl (by rw [h4]; exact hf) hr (by rw [h4]; exact hin), fun e he => by simp at he, hR _ _ w'.tape d h3⟩
  obtain ⟨M, last, o, w2, t2, k1, k2, k3, k4⟩ := beside_ends (fun _ _ _ x => x.elim) (sl := sl') f0 fq fB hG
  refine ⟨N + M, last, o, w2, t2, ?_, ?_, k3, k4⟩
  · rw [Nat.add_assoc, runNT_add]
    show (match runNT P N (crowd #[G (Frame.enter P f args .normal) []] W none) #[] with | (.next m', t') => runNT P (M + 1) m' t' | x => x) = _
    rw [h1]
    exact k1
  · have h1' : runN P N (solo (G (Frame.enter P f args .normal) []) W) = .next (crowd gs' w' sl') := by
      rw [← runNT_fst P N _ #[]]
      exact congrArg Prod.fst h1
    rw [runN_add, h1']
    exact k2
end Go.Proofs.YtpbbmagjhkakgaaGreatDoor.Lf
