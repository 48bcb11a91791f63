/-
  Printed, proved of every text: the call returns true, and the text reads as it did; the package-level variables start as the program's text lays them (the tie is given).
-/
import Derived.Test.YtiilkkahpbnogaaGreatDoorRows
import Derived.Test.YtiilkkahpbnogaaGreatDoorCards
import Derived.Test.YtiilkkahpbnogaaGreatDoorTie
import Derived.Test.YtiilkkahpbnogaaGreatDoorPrinted
import Derived.ProofKit
import Derived.ChangeMaps5
import Derived.LaidMore
import Derived.LaidHandle
import Derived.Lib.LaidTab
import Derived.Stop.LaidErr
import Derived.Stop.Joined
import Derived.SevenTiedAt
namespace Go.Proofs.YtiilkkahpbnogaaGreatDoor
open Go.ChangeShapes Go.WideShapes Go.ChangeAt Go.RowKit
open Go.ChangeMaps (open_string shut_string)

theorem zown : ownKnob Tryz.prog.godebug = none := by kernel_rfl
theorem zrt : (Tryz.prog.cutTypes.find? (·.1 == "internal/reflectlite.rtype")).map (·.2) = some 176 := by kernel_rfl
theorem zoneRow : ((List.range 277).filter fun t => Tryz.prog.rowNamed t [101, 114, 114, 111, 114]) = [45] := by kernel_rfl
theorem zsize : Tryz.prog.types.size = 277 := by kernel_rfl
theorem gNs : Tryz.prog.globalNamed "vigil/sentence.ErrNoSentence" = some 0 := by kernel_rfl
theorem gEt : Tryz.prog.globalNamed "errors.errorType" = some 1 := by kernel_rfl
theorem gTab : Tryz.prog.globalNamed "internal/strconv.uint64pow10" = some 2 := by kernel_rfl
theorem gSyn : Tryz.prog.globalNamed "strconv.ErrSyntax" = some 3 := by kernel_rfl
theorem gRng : Tryz.prog.globalNamed "strconv.ErrRange" = some 4 := by kernel_rfl
theorem gB64 : Tryz.prog.globalNamed "math/bits.deBruijn64tab" = some 6 := by kernel_rfl
theorem yNs : (Tryz.prog.globals[0]?).map (·.type) = some 45 := by kernel_rfl
theorem ySyn : (Tryz.prog.globals[3]?).map (·.type) = some 45 := by kernel_rfl
theorem yRng : (Tryz.prog.globals[4]?).map (·.type) = some 45 := by kernel_rfl
theorem yTab : (Tryz.prog.globals[2]?).map (·.type) = some 228 := by kernel_rfl
theorem cUint64 : Tryz.prog.cellsOf 220 = 1 := by kernel_rfl
theorem cTab : Tryz.prog.cellsOf 228 = 20 := by kernel_rfl
theorem cErrS : Tryz.prog.cellsOf 248 = 1 := by kernel_rfl
theorem zstar : ("*errors.errorString" : String) = "*" ++ "errors.errorString" := by decide
theorem rowErrS (u : TypeId) (h : Tryz.prog.typeName? 3 u = some "*errors.errorString") : u = 246 :=
  typeName_ptr_named (nm := "errors.errorString") (by rw [← zstar]; kernel_rfl) (by kernel_rfl) (by decide) u (by rw [← zstar]; exact h)

theorem pow_eq : (Rows.laid_internal_strconv_uint64pow10 : DataW Unit) = Lib.tabData .u64 Lib.pow10Tab := by kernel_rfl

theorem var_heap {P : Program} {w : World} {n : String} {g : Nat} {cs : Array Value} (hg : P.globalNamed n = some g) (h : w.var? P n = some cs) : ∃ e m, w.heap[g]? = some (.cells cs e m) := by
  unfold World.var? at h
  rw [hg] at h
  simp only [Option.bind_some] at h
  split at h
  · rename_i cs' e m hc
    injection h with h
    subst h
    exact ⟨e, m, hc⟩
  · cases h

/-- What the condition gives the walks. -/
theorem glob_of_laid {W : World} (h : laidMetH Tryz.prog Rows.printedRow.laid W) : Glob W ∧ 7 ≤ W.heap.size := by
  have h' : laidMet Tryz.prog [("math/bits.deBruijn32tab", Rows.laid_math_bits_deBruijn32tab), ("math/bits.deBruijn64tab", Rows.laid_math_bits_deBruijn64tab), ("internal/strconv.uint64pow10", Rows.laid_internal_strconv_uint64pow10), ("strconv.ErrRange", Rows.laid_strconv_ErrRange), ("strconv.ErrSyntax", Rows.laid_strconv_ErrSyntax), ("vigil/sentence.ErrNoSentence", Rows.laid_vigil_sentence_ErrNoSentence)] W ∧ handlesMet Tryz.prog [("errors.errorType", Rows.laid_errors_errorType)] W := h
  obtain ⟨hd, hh⟩ := h'
  have hd2 := hd.tail.tail
  rw [pow_eq] at hd2
  have htab := Lib.tabIs_of_head gTab yTab Tryz.underlying228 Tryz.underlying220 cUint64 cTab hd2
  obtain ⟨a4, s4, hv4, hc4, _, _⟩ := laid_sentinel hd2.tail gRng yRng Tryz.underlying45 rowErrS Tryz.underlying246 Tryz.underlying248 rfl rfl Tryz.underlying9 cErrS kcStr
  obtain ⟨a3, s3, hv3, hc3, _, _⟩ := laid_sentinel hd2.tail.tail gSyn ySyn Tryz.underlying45 rowErrS Tryz.underlying246 Tryz.underlying248 rfl rfl Tryz.underlying9 cErrS kcStr
  obtain ⟨a0, s0, hv0, hc0, _, _⟩ := laid_sentinel hd2.tail.tail.tail gNs yNs Tryz.underlying45 rowErrS Tryz.underlying246 Tryz.underlying248 rfl rfl Tryz.underlying9 cErrS kcStr
  obtain ⟨_, _, cs6, _, _, _, _, _, hv6, _⟩ : ∃ g t cs fuel p q, Tryz.prog.globalNamed "math/bits.deBruijn64tab" = some g ∧ (Tryz.prog.globals[g]?).map (·.type) = some t ∧ W.var? Tryz.prog "math/bits.deBruijn64tab" = some cs ∧ (∃ x : Nat, x = fuel) ∧ p = p ∧ q = (q : List MemPlace) := by
    obtain ⟨ps, ⟨g, t, cs, fuel, p, q, h1, h2, h3, _⟩, _⟩ := hd.tail
    exact ⟨g, t, cs, fuel, p, q, h1, h2, h3, ⟨_, rfl⟩, rfl, rfl⟩
  obtain ⟨e6, m6, hp6⟩ := var_heap gB64 hv6
  obtain ⟨e2, m2, hp2⟩ := var_heap gTab htab
  obtain ⟨b0, o0, sp0⟩ := a0
  have hsp : sp0 = none := World.cell?_spot hc0
  subst hsp
  obtain ⟨name, u, ty, e1, q2, q3, q4, q5⟩ := hh _ (List.mem_singleton.2 rfl)
  have en : name = [101, 114, 114, 111, 114] := (Option.some.inj e1).symm
  subst en
  obtain rfl := Option.some.inj (zrt.symm.trans q2)
  have hm : ty ∈ (List.range 277).filter fun t => Tryz.prog.rowNamed t [101, 114, 114, 111, 114] := List.mem_filter.2 ⟨List.mem_range.2 (by rw [← zsize]; exact q3), q4⟩
  rw [zoneRow] at hm
  obtain rfl := List.mem_singleton.1 hm
  have hth : typeHandle Tryz.prog 45 = .pointer (some ⟨7, 45, none⟩) := by kernel_rfl
  rw [hth] at q5
  refine ⟨⟨⟨⟨_, _, by simpa using World.var?_cell gSyn hv3 0⟩, ⟨_, _, by simpa using World.var?_cell gRng hv4 0⟩⟩, ⟨b0, o0, by simpa using World.var?_cell gNs hv0 0⟩, by simpa using World.var?_cell gEt q5 0, ⟨e2, m2, hp2⟩⟩, heap_lt hp6⟩

/-- The door's own heap meets the condition. -/
theorem door_met (os : Os) (args : Array Value) : laidMetH Tryz.prog Rows.printedRow.laid ((World.doorLaid Tryz.prog 600 os).forCall (fun _ _ => 0) ⟨#[], args, []⟩).memory :=
  laidMetH_of_parts3 (fuel := 8) (laidMet_of_run' 8 (by kernel_rfl) (by kernel_rfl)) (by kernel_rfl) (by kernel_rfl)

set_option maxRecDepth 100000 in
theorem printed_lifted (os : Os) (started : os.Started) (H : Type) (enc : TypeId × Value → H) :
    ReturnsInHanded {} Tryz.checked os 4 .any (fun w args => (Rows.printedSpec.pre enc Tryz.prog Tryz.f4 [] false w args ∧ laidMetH Tryz.prog Rows.printedRow.laid w) ∧ sizedMet enc Tryz.prog Tryz.f4 (OpenSpec.ofChange Rows.printedSpec) false w args)
      (Rows.printedSpec.post enc Tryz.prog Tryz.f4 false true false false) := by
  refine returnsInHanded_of_change_and (C := Tryz.checked) (X := fun w _ => laidMetH Tryz.prog Rows.printedRow.laid w) (fun _ _ _ hh h => h.of_heap hh) zown started (by kernel_rfl) Tryz.func4
    (ChangeSpec.witness_shaped (enc := enc) (C := Tryz.checked) (os := os) (X := fun w _ => laidMetH Tryz.prog Rows.printedRow.laid w) false (World.doorLaid Tryz.prog 600 os) #[.string ⟨#[]⟩] 8 rfl (World.shaped_of_RefB (by kernel_rfl) (by kernel_rfl)) (by kernel_rfl) (by kernel_rfl) (by kernel_rfl) (door_met os _)) ?_
  intro W base args ds gs before hval0 hW _ _ hL _
  have hval : ∀ (j : Nat) t v, Tryz.f4.params[j]? = some t → args[j]? = some v → Value.okWide Tryz.prog W .any base t v := hval0
  have hW' := hW
  obtain ⟨p, q, hA0, hV, rfl, hfz, hnd⟩ := hW
  have hA : DataW.TrodAll enc Tryz.prog W 0 (fun _ => true) true Tryz.f4.params.toList args.toList ds p := hA0
  rw [Tryz.params4] at hA hval
  obtain ⟨v0, d0, rfl, rfl, h0⟩ := trodAll_one hA
  obtain ⟨rfl, rfl⟩ := trodVars_none hV
  obtain ⟨s, rfl, rfl, rfl, hs⟩ := open_string Tryz.underlying9 (hval 0 9 v0 rfl rfl) h0
  obtain ⟨hg, h7⟩ := glob_of_laid hL
  clear hA0 hval0
  simp only [List.append_nil] at hW'
  have e1 : Rows.printedSpec.fn H ([.lit (.string s.data.toList)] ++ []) = { results := [.lit (.bool true)], args := [.lit (.string s.data.toList)] } := by simp [Rows.printedSpec]
  refine (printed_any s W hs hg h7).mono fun e W' ⟨he, hb⟩ => ?_
  subst he
  refine ⟨_, rfl, _, _, _, [], [], [], hW', ?_, ?_, ?_, hb.frame _, fun h => by cases h⟩
  · rw [e1]; exact trodAll_mk1 (shut_bool Tryz.underlying4 true)
  · rw [e1]; exact trodAll_mk1 (shut_string Tryz.underlying9 hs)
  · rw [e1]; rfl

theorem printed_row : Rows.PrintedSaid :=
  OpenClaim.holds_of_wide 4 Tryz.f4 rfl rfl rfl rfl rfl rfl rfl ⟨rfl, rfl, rfl, rfl, rfl⟩ rfl rfl rfl rfl rfl (by kernel_rfl) Tryz.func4 (by kernel_rfl)
    (of_decide_eq_true (by kernel_rfl)) (by unfold Func.isWrapper; rw [if_neg (of_decide_eq_false (by kernel_rfl))]; exact ⟨rfl, rfl⟩)
    (fun os started H enc _ => printed_lifted os started H enc)

theorem printed_holds : Rows.PrintedCardSaid :=
  Claim7.holds_tied_plain_at .later [] [.data, .data, .data, .handle, .sentinel, .sentinel, .sentinel] true Rows.printedCard.stood.harness true
    printed_row (fun _ h => by cases h) (by kernel_rfl) (fun _ h => by cases h) printed_row_tie rfl ⟨rfl, rfl⟩ (by kernel_rfl) rfl
    (fun f fn hf hfn => by
      obtain rfl : f = 4 := Option.some.inj ((show Tryz.prog.funcNamed "vigil/vigilkeep.Printed" = some 4 by kernel_rfl).symm.trans hf) |>.symm
      obtain rfl : fn = Tryz.f4 := (Option.some.inj (Tryz.func4.symm.trans hfn)).symm
      exact ⟨by kernel_rfl, fun j t ht => by
        rw [Tryz.params4] at ht
        have h3 : t = 9 := by
          rcases j with _ | j
          · simpa using ht.symm
          · simp at ht
        subst h3
        exact (show Tryz.prog.wantsStandIn 9 = false by kernel_rfl)⟩)
    (by kernel_rfl)

end Go.Proofs.YtiilkkahpbnogaaGreatDoor
