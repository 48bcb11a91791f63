/-
  Forgotten, proved of every list of raw numbers and every list of raw events: on every schedule the call returns true, without a data race, the goroutines that it started are done or only leaving, and the input reads as it did; the package-level variables start as the program's text lays them (the tie is given).
-/
import Derived.Test.YtpbbmagjhkakgaaGreatDoorRowKeepToRowSame0
import Derived.Test.YtpbbmagjhkakgaaGreatDoorSnSeen4ToEfForg
namespace Go.Proofs.YtpbbmagjhkakgaaGreatDoor
open Go.ChangeShapes Go.WideShapes Go.ChangeAt Go.RowKit Go.Deep Go.Conc Go.Proofs.YtpbbmagjhkakgaaGreatDoor.Ev Go.Proofs.YtpbbmagjhkakgaaGreatDoor.Lf
set_option maxRecDepth 100000 in
theorem forgotten_runs {H : Type} {enc : TypeId × Value → H} (W : World) (base : Nat) (args : Array Value) (ds gs : List (DataW H)) (before : List MemPlace)
    (hval0 : ∀ (j : Nat) t v, Tryz.f8.params[j]? = some t → args[j]? = some v → Value.okWide Tryz.prog W .any base t v)
    (hW : DataW.Whole enc Tryz.prog Tryz.f8.params.toList Rows.forgottenSpec.vars false W args.toList ds gs before)
    (hz : (DataW.weightsEach Tryz.prog (Tryz.f8.params.toList ++ Rows.forgottenSpec.plain.varTypes Tryz.prog) (ds ++ gs)).all (· ≤ reachBytes) = true) (hL : laidMetH Tryz.prog Rows.printedRow.laid W) :
    ∃ M last o w' t', runNT Tryz.prog (M + 1) (solo (G (Frame.enter Tryz.prog 8 args .normal) []) W) #[] = (.ended o w', t') ∧ runN Tryz.prog M (solo (G (Frame.enter Tryz.prog 8 args .normal) []) W) = .next last ∧
      step Tryz.prog last = .ended o w' ∧ Conc.Good Tryz.prog (fun v W' => Rows.forgottenSpec.post enc Tryz.prog Tryz.f8 false true false false W args v W') last o w' t' := by
  have hval : ∀ (j : Nat) t v, Tryz.f8.params[j]? = some t → args[j]? = some v → Value.okWide Tryz.prog W .any base t v := hval0
  have hW' := hW
  obtain ⟨p, q, hA0, hV, rfl, hfz, hnd⟩ := hW
  have hA : DataW.TrodAll enc Tryz.prog W 0 (fun _ => true) true Tryz.f8.params.toList args.toList ds p := hA0
  rw [Tryz.params8] at hA hval hz
  obtain ⟨al⟩ := args
  obtain ⟨v0, vs0, d0, ds0, p0, q0, ha0, rfl, rfl, h0, hA⟩ := trodAll_cons hA
  obtain ⟨v2, vs2, d2, ds2, p2, q2, rfl, rfl, rfl, h2, hA⟩ := trodAll_cons hA
  obtain ⟨rfl, rfl, rfl⟩ := trodAll_nil hA
  have ha0 : al = [v0, v2] := ha0
  subst ha0
  obtain ⟨rfl, rfl⟩ := trodVars_none hV
  have hz0 : (d0.weights Tryz.prog 33).all (· ≤ reachBytes) = true := by
    simp only [List.cons_append, List.nil_append, DataW.weightsEach, List.all_append, Bool.and_eq_true] at hz
    exact hz.1
  obtain ⟨oR, R, cR, rfl, hlR, hIR, hR⟩ := raw_open (hval 0 33 v0 rfl rfl) h0 hz0
  obtain ⟨eo, L, cap, rfl, hLm, hL64, hC⟩ := comes_open (hval 1 34 v2 rfl rfl) h2
  obtain ⟨hg, h7⟩ := glob_of_laid hL
  clear hA0 hval0 hA hz
  have hlt : ∀ x ∈ p0 ++ (p2 ++ []) ++ [], x.block < W.heap.size := hW'.lt
  have e1 : Rows.forgottenSpec.fn H ([d0, d2] ++ []) = { results := [.lit (.bool true)], args := [d0, d2] } := by simp [Rows.forgottenSpec]
  obtain ⟨M, last, o, w', t', r1, r2, r3, r4⟩ := (forgotten_H R oR cR L eo cap W hg h7 hlR hIR hR hLm hL64 hC).good Tryz.func8 (t := 4) rfl (by kernel_rfl) LawPost.tapeR (fun e w h => ⟨_, h.1⟩)
  refine ⟨M, last, o, w', t', r1, r2, r3, r4.mono fun v hp => ?_⟩
  obtain ⟨he, hs⟩ := hp
  cases he
  refine ⟨_, _, _, [], p0 ++ (p2 ++ []), [], hW', ?_, ?_, ?_, spare_frame hs _, fun h => by cases h⟩
  · rw [e1]; exact trodAll_mk1 (shut_bool Tryz.underlying4 true)
  · rw [e1]
    exact trodAll_more (spare_trod laidOutK readRaw rowRaw h0 hs fun x hx => hlt x (by simp [hx])) (trodAll_more (spare_trod laidOutK readComes rowComes h2 hs fun x hx => hlt x (by simp [hx])) trodAll_mk0)
  · rw [e1]; rfl
set_option maxRecDepth 100000 in
theorem forgotten_lifted (os : Os) (started : os.Started) (H : Type) (enc : TypeId × Value → H) :
    ReturnsInLeavingWide {} Tryz.checked os 8 .any (fun w args => (Rows.forgottenSpec.pre enc Tryz.prog Tryz.f8 [] false w args ∧ laidMetH Tryz.prog Rows.forgottenRow.laid w) ∧ sizedMet enc Tryz.prog Tryz.f8 (OpenSpec.ofChange Rows.forgottenSpec) false w args)
      (Rows.forgottenSpec.post enc Tryz.prog Tryz.f8 false true false false) := by
  refine leaving_of_change_and (C := Tryz.checked) (X := fun w _ => laidMetH Tryz.prog Rows.forgottenRow.laid w) (fun _ _ _ hh h => h.of_heap hh) zown started Tryz.func8
    (ChangeSpec.witness_shaped (enc := enc) (C := Tryz.checked) (os := os) (X := fun w _ => laidMetH Tryz.prog Rows.forgottenRow.laid w) false (World.doorLaid Tryz.prog 600 os) #[.slice none 0 0, .slice none 0 0] 8 rfl (World.shaped_of_RefB (by kernel_rfl) (by kernel_rfl)) (by kernel_rfl) (by kernel_rfl) (by kernel_rfl) (door_met os _)) ?_
  intro W base args ds gs before hval hW hz hL
  exact forgotten_runs W base args ds gs before hval hW hz hL
theorem forgotten_row : Rows.ForgottenSaid :=
  OpenClaim.holds_of_wide_leaving 8 Tryz.f8 rfl rfl rfl rfl rfl rfl rfl ⟨rfl, rfl, rfl, rfl, rfl⟩ rfl rfl rfl rfl rfl (by kernel_rfl) Tryz.func8 (by kernel_rfl)
    (of_decide_eq_true (by kernel_rfl)) (by unfold Func.isWrapper; rw [if_neg (of_decide_eq_false (by kernel_rfl))]; exact ⟨rfl, rfl⟩)
    (fun os started H enc _ => forgotten_lifted os started H enc)
theorem forgotten_holds : Rows.ForgottenCardSaid :=
  holds_tied_goes .later [.data, .data, .data, .handle, .sentinel, .sentinel, .sentinel, .sentinel, .sentinel, .sentinel, .sentinel, .sentinel, .sentinel] true Rows.forgottenCard.stood.harness true
    forgotten_row (by kernel_rfl) forgotten_row_tie rfl ⟨rfl, rfl⟩ (by kernel_rfl) rfl
    (fun f fn hf hfn => by
      obtain rfl : f = 8 := Option.some.inj ((show Tryz.prog.funcNamed "vigil/vigilkeep.Forgotten" = some 8 by kernel_rfl).symm.trans hf) |>.symm
      obtain rfl : fn = Tryz.f8 := (Option.some.inj (Tryz.func8.symm.trans hfn)).symm
      exact ⟨by kernel_rfl, fun j t ht => by
        rw [Tryz.params8] at ht
        have h3 : t = 33 ∨ t = 34 := by
          rcases j with _ | _ | j
          · left; simpa using ht.symm
          · right; simpa using ht.symm
          · simp at ht
        rcases h3 with rfl | rfl
        · exact (show Tryz.prog.wantsStandIn 33 = false by kernel_rfl)
        · exact (show Tryz.prog.wantsStandIn 34 = false by kernel_rfl)⟩)
    (by kernel_rfl)
end Go.Proofs.YtpbbmagjhkakgaaGreatDoor
