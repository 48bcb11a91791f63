/-
  Sentences, proved of every script whose bulk is at most 1,048,576: on every schedule the call returns true, without a data race, no other goroutine is left, and the script reads as it did; the package-level variables start as the program's text lays them (the tie is given).
-/
import Derived.Test.YtpbbmagjhkakgaaGreatDoorRowSent
import Derived.Test.YtpbbmagjhkakgaaGreatDoorRowSentC
namespace Go.Proofs.YtpbbmagjhkakgaaGreatDoor
open Go.ChangeShapes Go.WideShapes Go.ChangeAt Go.RowKit Go.Deep

section
variable {H : Type} {enc : TypeId × Value → H} {w : World}

set_option maxRecDepth 100000 in
theorem sentences_contract (W : World) (base : Nat) (args : Array Value) (ds gs : List (DataW H)) (before : List MemPlace)
    (hval0 : ∀ (j : Nat) t v, Tryz.f3.params[j]? = some t → args[j]? = some v → Value.okWide Tryz.prog W .any base t v)
    (hW : DataW.Whole enc Tryz.prog Tryz.f3.params.toList Rows.sentencesSpec.vars false W args.toList ds gs before) (hk : Rows.uptoSmall H (ds ++ gs) = true) (hL : laidMetH Tryz.prog Rows.printedRow.laid W) :
    Calls Tryz.prog 3 args W fun e W' => ∃ v, e = .returned v ∧ Rows.sentencesSpec.post enc Tryz.prog Tryz.f3 false true false false W args v W' := by
  have hval : ∀ (j : Nat) t v, Tryz.f3.params[j]? = some t → args[j]? = some v → Value.okWide Tryz.prog W .any base t v := hval0
  have hW' := hW
  obtain ⟨p, q, hA0, hV, rfl, hfz, hnd⟩ := hW
  have hA : DataW.TrodAll enc Tryz.prog W 0 (fun _ => true) true Tryz.f3.params.toList args.toList ds p := hA0
  rw [Tryz.params3] at hA hval
  obtain ⟨v0, d0, rfl, rfl, h0⟩ := trodAll_one hA
  obtain ⟨rfl, rfl⟩ := trodVars_none hV
  have hb : Rows.uptoBulkAll [d0] ≤ 1048576 := of_decide_eq_true hk
  simp only [Rows.uptoBulkAll] at hb
  obtain ⟨S, hS, hn⟩ := script_open (hval 0 22 v0 rfl rfl) h0 (by omega)
  obtain ⟨hg, h7⟩ := glob_of_laid hL
  clear hA0 hval0
  simp only [List.append_nil] at hW'
  have hlt : ∀ x ∈ p, x.block < W.heap.size := hW'.lt
  have e1 : Rows.sentencesSpec.fn H ([d0] ++ []) = { results := [.lit (.bool true)], args := [d0] } := by simp [Rows.sentencesSpec]
  refine (sentences_any S v0 W hS (by omega) hg h7).mono fun e W' ⟨he, hbel⟩ => ?_
  subst he
  refine ⟨_, rfl, _, _, _, [], p, [], hW', ?_, ?_, ?_, hbel.frame _, fun h => by cases h⟩
  · rw [e1]; exact trodAll_mk1 (shut_bool Tryz.underlying4 true)
  · rw [e1]; exact trodAll_mk1 (Below.trod laidOutZ readS rowS h0 hbel hlt)
  · rw [e1]; rfl

end

theorem sent_reads (os : Os) {H : Type} (enc : TypeId × Value → H) : DataW.whole enc Tryz.prog ((World.doorLaid Tryz.prog 600 os).forCall (fun _ _ => 0) ⟨#[], #[.slice none 0 0], []⟩).memory Tryz.f3.params.toList Rows.sentencesSpec.vars false #[Value.slice none 0 0].toList 8 = some ([.nil], [], []) := by kernel_rfl

set_option maxRecDepth 100000 in
theorem sentences_lifted (os : Os) (started : os.Started) (H : Type) (enc : TypeId × Value → H) (F : Stop.Interp) :
    ReturnsInHanded {} Tryz.checked os 3 .any ((Rows.OpenSpec.upto Rows.sentencesSpec).preRow enc Tryz.prog Tryz.f3 Rows.sentencesUptoRow.domain false Rows.sentencesUptoRow.laid) (((Rows.OpenSpec.upto Rows.sentencesSpec).at F).post enc Tryz.prog Tryz.f3 false true false false) := by
  refine returnsInHanded_of_row (C := Tryz.checked) (s := Rows.OpenSpec.upto Rows.sentencesSpec) zown started (by kernel_rfl) Tryz.func3
    (witness_row_atRef (enc := enc) (C := Tryz.checked) false (World.doorLaid Tryz.prog 600 os) #[.slice none 0 0] rfl (by kernel_rfl) (by kernel_rfl) (by kernel_rfl)
      (OpenSpec.preRow_of_cond 8 (sent_reads os enc) (by kernel_rfl) (fun k hk => by cases hk; kernel_rfl) (by kernel_rfl) (door_met os _))) ?_
  intro W base args ds gs before hval hW _ hcond _ hL _ _
  exact sentences_contract W base args ds gs before hval hW (hcond _ rfl) hL

/-- A row at whose return no other goroutine is left is also one at whose return the others are only leaving. -/
theorem holds_leaving {p : Pinned} {s : OpenSpec} {c : OpenClaim} (hl : c.leaving = false) (hst : c.start = .entering) (hsp : c.stops = []) (hwf : ({ c with leaving := true } : OpenClaim).wf s = true) (h : c.holds p s) : ({ c with leaving := true } : OpenClaim).holds p s := by
  obtain ⟨_, k2, k3, k4, k5, k6, k7, k8, f, fn, m1, m2, m3, m4, m5, m6, m7, m8, m9, m10, m11, m12, m13, m14, m15, m16, m17, m18, m19, m20, m21, L, hL, hform⟩ := h
  refine ⟨hwf, k2, k3, k4, k5, k6, k7, k8, f, fn, m1, m2, m3, m4, m5, m6, m7, m8, m9, m10, m11, m12, m13, m14, m15, m16, m17, m18, m19, m20, m21, L, hL, fun os h1 h2 H enc inj => ?_⟩
  have hf := hform os h1 h2 H enc inj
  unfold OpenClaim.form at hf ⊢
  simp only [hst, hsp] at hf ⊢
  intro F
  refine ReturnsInOpen.mono (fun m _ _ x => ?_) (fun _ x => x) (hf F)
  unfold OpenClaim.atReturn at x
  rw [hl] at x
  exact ⟨x.2.1, ⟨fun g hg => ⟨0, by
    have h1 := x.1.1
    unfold Machine.othersDone at h1
    rw [List.all_eq_true] at h1
    have h2 := h1 g hg
    show g.status = .finished
    simpa using h2⟩, x.1.2⟩, x.2.2⟩

theorem sentences_lone : ({ Rows.sentencesUptoRow with leaving := false } : OpenClaim).holds Tryz.pinned (Rows.OpenSpec.upto Rows.sentencesSpec) :=
  OpenClaim.holds_of_cond 3 Tryz.f3 rfl rfl rfl rfl rfl rfl rfl ⟨rfl, rfl, rfl, rfl, rfl⟩ rfl rfl rfl rfl rfl sent_named Tryz.func3 sent_closed
    sent_inst sent_wrap
    (fun os started H enc _ F => by rw [OpenClaim.pre_eq_preRow]; exact sentences_lifted os started H enc F)

theorem sentences_row : Rows.SentencesUptoSaid := holds_leaving (c := { Rows.sentencesUptoRow with leaving := false }) rfl rfl rfl (by kernel_rfl) sentences_lone

theorem sentences_holds : Rows.SentencesUptoCardSaid :=
  holds_tied_goes .later [.data, .data, .data, .handle, .sentinel, .sentinel, .sentinel, .sentinel, .sentinel, .sentinel, .sentinel, .sentinel, .sentinel] true Rows.sentencesUptoCard.stood.harness true
    sentences_row (by kernel_rfl) sentencesUpto_row_tie rfl ⟨rfl, rfl⟩ (by kernel_rfl) rfl
    (fun f fn hf hfn => by
      obtain rfl : f = 3 := Option.some.inj ((show Tryz.prog.funcNamed "vigil/vigillaw.Sentences" = some 3 by kernel_rfl).symm.trans hf) |>.symm
      obtain rfl : fn = Tryz.f3 := (Option.some.inj (Tryz.func3.symm.trans hfn)).symm
      exact ⟨by kernel_rfl, fun j t ht => by
        rw [Tryz.params3] at ht
        have h3 : t = 22 := by
          rcases j with _ | j
          · simpa using ht.symm
          · simp at ht
        subst h3
        exact (show Tryz.prog.wantsStandIn 22 = false by kernel_rfl)⟩)
    (by kernel_rfl)

end Go.Proofs.YtpbbmagjhkakgaaGreatDoor
