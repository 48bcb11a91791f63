/-
  What the given reader's signs does: the signs of a text, as its plain function says; for every text of at most two million bytes.
-/
import Derived.Test.YtpbbmagjhkakgaaGreatDoorRSentPToRSentI
import Derived.Deep.CutRange
import Derived.Laws.IdiomStrings
namespace Go.Proofs.YtpbbmagjhkakgaaGreatDoor
open Go.RowKit Go.Deep

theorem ext2 {s : ByteArray} {i : Nat} (h : i + 1 < s.size) : (s.extract i (i + 2)).toList = [s.get! i, s.get! (i + 1)] := by
  rw [Lib.toList_data, extract_list, show i + 2 - i = 2 by omega]
  have hl : i < s.data.toList.length := by rw [size_list]; omega
  have hl2 : i + 1 < s.data.toList.length := by rw [size_list]; omega
  rw [List.drop_eq_getElem_cons hl, List.drop_eq_getElem_cons hl2, gB_at (show i < s.size by omega), gB_at h]
  rfl

theorem ext3 {s : ByteArray} {i : Nat} (h : i + 2 < s.size) : (s.extract i (i + 3)).toList = [s.get! i, s.get! (i + 1), s.get! (i + 2)] := by
  rw [Lib.toList_data, extract_list, show i + 3 - i = 3 by omega]
  have hl : i < s.data.toList.length := by rw [size_list]; omega
  have hl2 : i + 1 < s.data.toList.length := by rw [size_list]; omega
  have hl3 : i + 1 + 1 < s.data.toList.length := by rw [size_list]; omega
  rw [List.drop_eq_getElem_cons hl, List.drop_eq_getElem_cons hl2, List.drop_eq_getElem_cons hl3, gB_at (show i < s.size by omega), gB_at (show i + 1 < s.size by omega), gB_at h]
  rfl

theorem plain_cases (n : Nat) : (decide (97 ≤ (n : Int)) = true ∧ decide ((n : Int) ≤ 122) = true ∧ plainB n = true) ∨ (decide (97 ≤ (n : Int)) = false ∧ decide (48 ≤ (n : Int)) = true ∧ decide ((n : Int) ≤ 57) = true ∧ plainB n = true) ∨ (decide (97 ≤ (n : Int)) = false ∧ decide (48 ≤ (n : Int)) = true ∧ decide ((n : Int) ≤ 57) = false ∧ ((n : Int) == 89) = true ∧ plainB n = true) ∨ (decide (97 ≤ (n : Int)) = false ∧ decide (48 ≤ (n : Int)) = true ∧ decide ((n : Int) ≤ 57) = false ∧ ((n : Int) == 89) = false ∧ ((n : Int) == 79) = true ∧ plainB n = true) ∨ (decide (97 ≤ (n : Int)) = false ∧ decide (48 ≤ (n : Int)) = true ∧ decide ((n : Int) ≤ 57) = false ∧ ((n : Int) == 89) = false ∧ ((n : Int) == 79) = false ∧ ((n : Int) == 72) = true ∧ plainB n = true) ∨ (decide (97 ≤ (n : Int)) = false ∧ decide (48 ≤ (n : Int)) = true ∧ decide ((n : Int) ≤ 57) = false ∧ ((n : Int) == 89) = false ∧ ((n : Int) == 79) = false ∧ ((n : Int) == 72) = false ∧ ((n : Int) == 83) = true ∧ plainB n = true) ∨ (decide (97 ≤ (n : Int)) = false ∧ decide (48 ≤ (n : Int)) = false ∧ ((n : Int) == 89) = false ∧ ((n : Int) == 79) = false ∧ ((n : Int) == 72) = false ∧ ((n : Int) == 83) = false ∧ ((n : Int) == 40) = true ∧ plainB n = true) ∨ (decide (97 ≤ (n : Int)) = false ∧ decide (48 ≤ (n : Int)) = false ∧ ((n : Int) == 89) = false ∧ ((n : Int) == 79) = false ∧ ((n : Int) == 72) = false ∧ ((n : Int) == 83) = false ∧ ((n : Int) == 40) = false ∧ ((n : Int) == 41) = true ∧ plainB n = true) ∨ (decide (97 ≤ (n : Int)) = false ∧ decide (48 ≤ (n : Int)) = true ∧ decide ((n : Int) ≤ 57) = false ∧ ((n : Int) == 89) = false ∧ ((n : Int) == 79) = false ∧ ((n : Int) == 72) = false ∧ ((n : Int) == 83) = false ∧ ((n : Int) == 40) = false ∧ ((n : Int) == 41) = false ∧ ((n : Int) == 91) = true ∧ plainB n = true) ∨ (decide (97 ≤ (n : Int)) = false ∧ decide (48 ≤ (n : Int)) = true ∧ decide ((n : Int) ≤ 57) = false ∧ ((n : Int) == 89) = false ∧ ((n : Int) == 79) = false ∧ ((n : Int) == 72) = false ∧ ((n : Int) == 83) = false ∧ ((n : Int) == 40) = false ∧ ((n : Int) == 41) = false ∧ ((n : Int) == 91) = false ∧ ((n : Int) == 93) = true ∧ plainB n = true) ∨ (decide (97 ≤ (n : Int)) = false ∧ decide (48 ≤ (n : Int)) = false ∧ ((n : Int) == 89) = false ∧ ((n : Int) == 79) = false ∧ ((n : Int) == 72) = false ∧ ((n : Int) == 83) = false ∧ ((n : Int) == 40) = false ∧ ((n : Int) == 41) = false ∧ ((n : Int) == 91) = false ∧ ((n : Int) == 93) = false ∧ ((n : Int) == 44) = true ∧ plainB n = true) ∨ (decide (97 ≤ (n : Int)) = false ∧ decide (48 ≤ (n : Int)) = false ∧ ((n : Int) == 89) = false ∧ ((n : Int) == 79) = false ∧ ((n : Int) == 72) = false ∧ ((n : Int) == 83) = false ∧ ((n : Int) == 40) = false ∧ ((n : Int) == 41) = false ∧ ((n : Int) == 91) = false ∧ ((n : Int) == 93) = false ∧ ((n : Int) == 44) = false ∧ ((n : Int) == 33) = true ∧ plainB n = true) ∨ (decide (97 ≤ (n : Int)) = false ∧ decide (48 ≤ (n : Int)) = false ∧ ((n : Int) == 89) = false ∧ ((n : Int) == 79) = false ∧ ((n : Int) == 72) = false ∧ ((n : Int) == 83) = false ∧ ((n : Int) == 40) = false ∧ ((n : Int) == 41) = false ∧ ((n : Int) == 91) = false ∧ ((n : Int) == 93) = false ∧ ((n : Int) == 44) = false ∧ ((n : Int) == 33) = false ∧ ((n : Int) == 38) = true ∧ plainB n = true) ∨ (decide (97 ≤ (n : Int)) = true ∧ decide ((n : Int) ≤ 122) = false ∧ decide (48 ≤ (n : Int)) = true ∧ decide ((n : Int) ≤ 57) = false ∧ ((n : Int) == 89) = false ∧ ((n : Int) == 79) = false ∧ ((n : Int) == 72) = false ∧ ((n : Int) == 83) = false ∧ ((n : Int) == 40) = false ∧ ((n : Int) == 41) = false ∧ ((n : Int) == 91) = false ∧ ((n : Int) == 93) = false ∧ ((n : Int) == 44) = false ∧ ((n : Int) == 33) = false ∧ ((n : Int) == 38) = false ∧ ((n : Int) == 124) = true ∧ plainB n = true) ∨ (decide (97 ≤ (n : Int)) = false ∧ decide (48 ≤ (n : Int)) = false ∧ ((n : Int) == 89) = false ∧ ((n : Int) == 79) = false ∧ ((n : Int) == 72) = false ∧ ((n : Int) == 83) = false ∧ ((n : Int) == 40) = false ∧ ((n : Int) == 41) = false ∧ ((n : Int) == 91) = false ∧ ((n : Int) == 93) = false ∧ ((n : Int) == 44) = false ∧ ((n : Int) == 33) = false ∧ ((n : Int) == 38) = false ∧ ((n : Int) == 124) = false ∧ plainB n = false) ∨ (decide (97 ≤ (n : Int)) = false ∧ decide (48 ≤ (n : Int)) = true ∧ decide ((n : Int) ≤ 57) = false ∧ ((n : Int) == 89) = false ∧ ((n : Int) == 79) = false ∧ ((n : Int) == 72) = false ∧ ((n : Int) == 83) = false ∧ ((n : Int) == 40) = false ∧ ((n : Int) == 41) = false ∧ ((n : Int) == 91) = false ∧ ((n : Int) == 93) = false ∧ ((n : Int) == 44) = false ∧ ((n : Int) == 33) = false ∧ ((n : Int) == 38) = false ∧ ((n : Int) == 124) = false ∧ plainB n = false) ∨ (decide (97 ≤ (n : Int)) = true ∧ decide ((n : Int) ≤ 122) = false ∧ decide (48 ≤ (n : Int)) = true ∧ decide ((n : Int) ≤ 57) = false ∧ ((n : Int) == 89) = false ∧ ((n : Int) == 79) = false ∧ ((n : Int) == 72) = false ∧ ((n : Int) == 83) = false ∧ ((n : Int) == 40) = false ∧ ((n : Int) == 41) = false ∧ ((n : Int) == 91) = false ∧ ((n : Int) == 93) = false ∧ ((n : Int) == 44) = false ∧ ((n : Int) == 33) = false ∧ ((n : Int) == 38) = false ∧ ((n : Int) == 124) = false ∧ plainB n = false) := by
  have hq : ∀ k : Nat, ¬ n = k → ((n : Int) == (k : Int)) = false := fun k h => by simp only [beq_eq_false_iff_ne]; omega
  unfold plainB
  by_cases hl : 97 ≤ n ∧ n ≤ 122
  · exact .inl ⟨by simp; omega, by simp; omega, by simp; omega⟩
  by_cases hd : 48 ≤ n ∧ n ≤ 57
  · exact .inr (.inl ⟨by simp; omega, by simp; omega, by simp; omega, by simp; omega⟩)
  by_cases h89 : n = 89
  · subst h89; exact .inr (.inr (.inl ⟨by decide, by decide, by decide, by decide, by decide⟩))
  by_cases h79 : n = 79
  · subst h79; exact .inr (.inr (.inr (.inl ⟨by decide, by decide, by decide, by decide, by decide, by decide⟩)))
  by_cases h72 : n = 72
  · subst h72; exact .inr (.inr (.inr (.inr (.inl ⟨by decide, by decide, by decide, by decide, by decide, by decide, by decide⟩))))
  by_cases h83 : n = 83
  · subst h83; exact .inr (.inr (.inr (.inr (.inr (.inl ⟨by decide, by decide, by decide, by decide, by decide, by decide, by decide, by decide⟩)))))
  by_cases h40 : n = 40
  · subst h40; exact .inr (.inr (.inr (.inr (.inr (.inr (.inl ⟨by decide, by decide, by decide, by decide, by decide, by decide, by decide, by decide⟩))))))
  by_cases h41 : n = 41
  · subst h41; exact .inr (.inr (.inr (.inr (.inr (.inr (.inr (.inl ⟨by decide, by decide, by decide, by decide, by decide, by decide, by decide, by decide, by decide⟩)))))))
  by_cases h91 : n = 91
  · subst h91; exact .inr (.inr (.inr (.inr (.inr (.inr (.inr (.inr (.inl ⟨by decide, by decide, by decide, by decide, by decide, by decide, by decide, by decide, by decide, by decide, by decide⟩))))))))
  by_cases h93 : n = 93
  · subst h93; exact .inr (.inr (.inr (.inr (.inr (.inr (.inr (.inr (.inr (.inl ⟨by decide, by decide, by decide, by decide, by decide, by decide, by decide, by decide, by decide, by decide, by decide, by decide⟩)))))))))
  by_cases h44 : n = 44
  · subst h44; exact .inr (.inr (.inr (.inr (.inr (.inr (.inr (.inr (.inr (.inr (.inl ⟨by decide, by decide, by decide, by decide, by decide, by decide, by decide, by decide, by decide, by decide, by decide, by decide⟩))))))))))
  by_cases h33 : n = 33
  · subst h33; exact .inr (.inr (.inr (.inr (.inr (.inr (.inr (.inr (.inr (.inr (.inr (.inl ⟨by decide, by decide, by decide, by decide, by decide, by decide, by decide, by decide, by decide, by decide, by decide, by decide, by decide⟩)))))))))))
  by_cases h38 : n = 38
  · subst h38; exact .inr (.inr (.inr (.inr (.inr (.inr (.inr (.inr (.inr (.inr (.inr (.inr (.inl ⟨by decide, by decide, by decide, by decide, by decide, by decide, by decide, by decide, by decide, by decide, by decide, by decide, by decide, by decide⟩))))))))))))
  by_cases h124 : n = 124
  · subst h124; exact .inr (.inr (.inr (.inr (.inr (.inr (.inr (.inr (.inr (.inr (.inr (.inr (.inr (.inl ⟨by decide, by decide, by decide, by decide, by decide, by decide, by decide, by decide, by decide, by decide, by decide, by decide, by decide, by decide, by decide, by decide, by decide⟩)))))))))))))
  by_cases a : n < 48
  · exact .inr (.inr (.inr (.inr (.inr (.inr (.inr (.inr (.inr (.inr (.inr (.inr (.inr (.inr (.inl ⟨by simp; omega, by simp; omega, hq 89 h89, hq 79 h79, hq 72 h72, hq 83 h83, hq 40 h40, hq 41 h41, hq 91 h91, hq 93 h93, hq 44 h44, hq 33 h33, hq 38 h38, hq 124 h124, by simp only [Bool.or_eq_false_iff, Bool.and_eq_false_iff, decide_eq_false_iff_not, beq_eq_false_iff_ne]; omega⟩))))))))))))))
  by_cases b : n < 97
  · exact .inr (.inr (.inr (.inr (.inr (.inr (.inr (.inr (.inr (.inr (.inr (.inr (.inr (.inr (.inr (.inl ⟨by simp; omega, by simp; omega, by simp; omega, hq 89 h89, hq 79 h79, hq 72 h72, hq 83 h83, hq 40 h40, hq 41 h41, hq 91 h91, hq 93 h93, hq 44 h44, hq 33 h33, hq 38 h38, hq 124 h124, by simp only [Bool.or_eq_false_iff, Bool.and_eq_false_iff, decide_eq_false_iff_not, beq_eq_false_iff_ne]; omega⟩)))))))))))))))
  exact .inr (.inr (.inr (.inr (.inr (.inr (.inr (.inr (.inr (.inr (.inr (.inr (.inr (.inr (.inr (.inr (⟨by simp; omega, by simp; omega, by simp; omega, by simp; omega, hq 89 h89, hq 79 h79, hq 72 h72, hq 83 h83, hq 40 h40, hq 41 h41, hq 91 h91, hq 93 h93, hq 44 h44, hq 33 h33, hq 38 h38, hq 124 h124, by simp only [Bool.or_eq_false_iff, Bool.and_eq_false_iff, decide_eq_false_iff_not, beq_eq_false_iff_ne]; omega⟩))))))))))))))))

theorem app_list (a : ByteArray) (l : List UInt8) (b : UInt8) (h : a.data.toList = l) : (a ++ ⟨#[b]⟩).data.toList = l ++ [b] := by
  rw [← h]
  simp [ByteArray.data_append]

set_option maxHeartbeats 8000000 in
set_option maxRecDepth 100000 in
theorem rsigns_any (s : ByteArray) (w : World) (hs : s.size ≤ 2000000) :
    Calls Tryz.prog 178 #[.string s] w fun e w' => Below w.heap.size w w' ∧ ((∃ u d, sigB s s.size 0 [] = some u ∧ d.data.toList = u ∧ e = .returned (.tuple #[.string d, .bool true])) ∨ (sigB s s.size 0 [] = none ∧ e = .returned (.tuple #[.string ⟨#[]⟩, .bool false]))) := by
  generalize hres : sigB s s.size 0 [] = res
  go_enter Tryz.func178, Tryz.ntmps178
  go_wp2_with fail
  go_loopw [4, 5] (fun ov iv wr => ∃ (i f : Nat) (out : List UInt8) (ob : ByteArray), ov = .string ob ∧ ob.data.toList = out ∧ iv = .int .i64 i ∧ i ≤ s.size ∧ s.size ≤ i + f ∧ out.length ≤ i ∧ Below w.heap.size w wr ∧ Hid (sigB s f i out = res)) (fun _ iv _ => s.size - (intOf iv).toNat)
  case atStart => exact ⟨0, s.size, [], ⟨#[]⟩, rfl, rfl, rfl, Nat.zero_le _, by omega, Nat.le_refl _, Below.refl _ _, hres⟩
  case round =>
    clear hres
    obtain ⟨i, f, out, ob, rfl, hob, rfl, hi, hf, hol, hbw, hR⟩ := hrel
    have hos : ob.size = out.length := by rw [← hob, size_list]
    by_cases hl : i < s.size
    · have hlt : decide ((i : Int) < (s.size : Int)) = true := by simp; omega
      have eg : gB s i = (s[i]'hl).toNat := by unfold gB; rw [gB_at hl]
      have ecs : s.get! i = s[i]'hl := gB_at hl
      have hcl := UInt8.toNat_lt (s[i]'hl)
      generalize hc : s[i]'hl = c at *
      obtain ⟨f, rfl⟩ : ∃ g, f = g + 1 := ⟨f - 1, by omega⟩
      obtain ⟨bA, hbA⟩ : ∃ b, b = decide (i + 1 < s.size ∧ gB s i = 194 ∧ gB s (i + 1) = 172) := ⟨_, rfl⟩
      have HA : Hid (bA = decide (i + 1 < s.size ∧ gB s i = 194 ∧ gB s (i + 1) = 172)) := hbA
      have HA2 : Hid ((2 : Int) ≤ (s.size : Int) - (i : Int) → ((s.extract i (i + 2)).toList == [194, 172]) = bA) := by
        intro h
        rw [hbA, ext2 (by omega), Bool.eq_iff_iff]
        unfold gB
        simp [← UInt8.toNat_inj]
        omega
      have HA3 : Hid (¬ (2 : Int) ≤ (s.size : Int) - (i : Int) → bA = false) := by
        intro h
        rw [hbA]
        simp only [decide_eq_false_iff_not]
        omega
      clear hbA
      go_upto_region 8 with fail
      go_cut [22] from 9 to 150 (fun v wx => v = .bool bA ∧ wx = wr)
      case first =>
        by_cases h2 : (2 : Int) ≤ (s.size : Int) - (i : Int)
        · have e2 := HA2.out h2
          as_aux_lemma =>
            go_wp2_with fail
            go_meet
            exact ⟨rfl, rfl⟩
        · have h2' : decide ((2 : Int) ≤ (s.size : Int) - (i : Int)) = false := by simp; omega
          have e2 := HA3.out h2
          as_aux_lemma =>
            go_wp2_with fail
            go_meet
            exact ⟨by rw [e2], rfl⟩
      case rest =>
        obtain ⟨rfl, hwc⟩ := hcut
        have hwc2 := hwc.symm
        subst hwc2
        clear hwc
        cases hbb : bA with
        | true =>
          have hcnd := of_decide_eq_true (HA.out.symm.trans hbb)
          have hR2 : Hid (sigB s f (i + 2) (out ++ [33]) = res) := by
            show _ = _
            rw [← hR.out, sigB, if_pos hl, if_pos hcnd]
          subst hbb
          as_aux_lemma =>
            go_wp2_with fail
            go_roundw
            case rel =>
              exact ⟨i + 2, f, out ++ [33], _, rfl, app_list ob out 33 hob, by go_num, by omega, by omega, by simp; omega, hbw, hR2⟩
            case measure => simp only [intOf]; omega
        | false =>
          subst hbb
          have hnA := of_decide_eq_false HA.out.symm
          obtain ⟨bB, hbB⟩ : ∃ b, b = decide (i + 2 < s.size ∧ gB s i = 226 ∧ gB s (i + 1) = 136 ∧ gB s (i + 2) = 167) := ⟨_, rfl⟩
          have HAB : Hid (bB = decide (i + 2 < s.size ∧ gB s i = 226 ∧ gB s (i + 1) = 136 ∧ gB s (i + 2) = 167)) := hbB
          have HBB : Hid ((3 : Int) ≤ (s.size : Int) - (i : Int) → ((s.extract i (i + 3)).toList == [226, 136, 167]) = bB) := by
            intro h
            rw [hbB, ext3 (by omega), Bool.eq_iff_iff]
            unfold gB
            simp [← UInt8.toNat_inj]
            omega
          have HCB : Hid (¬ (3 : Int) ≤ (s.size : Int) - (i : Int) → bB = false) := by
            intro h
            rw [hbB]
            simp only [decide_eq_false_iff_not]
            omega
          clear hbB
          go_upto_region 11 with fail
          go_cut [37] from 9 to 150 (fun v wx => v = .bool bB ∧ wx = wr)
          case first =>
            by_cases h2 : (3 : Int) ≤ (s.size : Int) - (i : Int)
            · have e2 := HBB.out h2
              as_aux_lemma =>
                go_wp2_with fail
                go_meet
                exact ⟨rfl, rfl⟩
            · have h2' : decide ((3 : Int) ≤ (s.size : Int) - (i : Int)) = false := by simp; omega
              have e2 := HCB.out h2
              as_aux_lemma =>
                go_wp2_with fail
                go_meet
                exact ⟨by rw [e2], rfl⟩
          case rest =>
            obtain ⟨rfl, hwc⟩ := hcut
            have hwc2 := hwc.symm
            subst hwc2
            clear hwc
            cases hbbB : bB with
            | true =>
              have hcnd := of_decide_eq_true (HAB.out.symm.trans hbbB)
              have hR2 : Hid (sigB s f (i + 3) (out ++ [38]) = res) := by
                show _ = _
                rw [← hR.out, sigB, if_pos hl, if_neg hnA, if_pos hcnd]
              subst hbbB
              as_aux_lemma =>
                go_wp2_with fail
                go_roundw
                case rel => exact ⟨i + 3, f, out ++ [38], _, rfl, app_list ob out 38 hob, by go_num, by omega, by omega, by simp; omega, hbw, hR2⟩
                case measure => simp only [intOf]; omega
            | false =>
              subst hbbB
              have hnB := of_decide_eq_false HAB.out.symm
              obtain ⟨bC, hbC⟩ : ∃ b, b = decide (i + 2 < s.size ∧ gB s i = 226 ∧ gB s (i + 1) = 136 ∧ gB s (i + 2) = 168) := ⟨_, rfl⟩
              have HAC : Hid (bC = decide (i + 2 < s.size ∧ gB s i = 226 ∧ gB s (i + 1) = 136 ∧ gB s (i + 2) = 168)) := hbC
              have HBC : Hid ((3 : Int) ≤ (s.size : Int) - (i : Int) → ((s.extract i (i + 3)).toList == [226, 136, 168]) = bC) := by
                intro h
                rw [hbC, ext3 (by omega), Bool.eq_iff_iff]
                unfold gB
                simp [← UInt8.toNat_inj]
                omega
              have HCC : Hid (¬ (3 : Int) ≤ (s.size : Int) - (i : Int) → bC = false) := by
                intro h
                rw [hbC]
                simp only [decide_eq_false_iff_not]
                omega
              clear hbC
              go_upto_region 14 with fail
              go_cut [52] from 9 to 150 (fun v wx => v = .bool bC ∧ wx = wr)
              case first =>
                by_cases h2 : (3 : Int) ≤ (s.size : Int) - (i : Int)
                · have e2 := HBC.out h2
                  as_aux_lemma =>
                    go_wp2_with fail
                    go_meet
                    exact ⟨rfl, rfl⟩
                · have h2' : decide ((3 : Int) ≤ (s.size : Int) - (i : Int)) = false := by simp; omega
                  have e2 := HCC.out h2
                  as_aux_lemma =>
                    go_wp2_with fail
                    go_meet
                    exact ⟨by rw [e2], rfl⟩
              case rest =>
                obtain ⟨rfl, hwc⟩ := hcut
                have hwc2 := hwc.symm
                subst hwc2
                clear hwc
                cases hbbC : bC with
                | true =>
                  have hcnd := of_decide_eq_true (HAC.out.symm.trans hbbC)
                  have hR2 : Hid (sigB s f (i + 3) (out ++ [124]) = res) := by
                    show _ = _
                    rw [← hR.out, sigB, if_pos hl, if_neg hnA, if_neg hnB, if_pos hcnd]
                  subst hbbC
                  as_aux_lemma =>
                    go_wp2_with fail
                    go_roundw
                    case rel => exact ⟨i + 3, f, out ++ [124], _, rfl, app_list ob out 124 hob, by go_num, by omega, by omega, by simp; omega, hbw, hR2⟩
                    case measure => simp only [intOf]; omega
                | false =>
                  subst hbbC
                  have hnC := of_decide_eq_false HAC.out.symm
                  by_cases h32 : c.toNat = 32
                  · have q32 : ((c.toNat : Int) == 32) = true := by rw [h32]; rfl
                    have e32 : gB s i = 32 := by rw [eg]; exact h32
                    have hR2 : Hid (sigB s f (i + 1) (if out ≠ [] ∧ out.getLast? ≠ some 32 then out ++ [32] else out) = res) := by
                      show _ = _
                      rw [← hR.out, sigB, if_pos hl, if_neg hnA, if_neg hnB, if_neg hnC, if_pos e32]
                    by_cases ho : out = []
                    · have l0 : ¬ 0 < out.length := by rw [ho]; simp
                      have l0' : decide (0 < (out.length : Int)) = false := by simp; exact ho
                      have hR3 : Hid (sigB s f (i + 1) out = res) := by
                        show _ = _
                        rw [← hR2.out, if_neg (fun x => x.1 ho)]
                      clear hR2 hR
                      as_aux_lemma =>
                        go_wp2_with fail
                        go_roundw
                        case rel => exact ⟨i + 1, f, out, _, rfl, hob, by go_num, by omega, by omega, by omega, hbw, hR3⟩
                        case measure => simp only [intOf]; omega
                    · have l0 : 0 < out.length := List.length_pos_iff.2 ho
                      have l1 : 1 ≤ (out.length : Int) ∧ (out.length : Int) - 1 < (out.length : Int) := by omega
                      obtain ⟨hz, hzc⟩ := list_at hob (i := out.length - 1) (by omega)
                      have hgl : out.getLast? = some (out[out.length - 1]'(by omega)) := by rw [List.getLast?_eq_getElem?, List.getElem?_eq_getElem]
                      generalize out[out.length - 1]'(by omega) = lc at *
                      by_cases hlc : lc.toNat = 32
                      · have hlc2 : lc = 32 := toNat_lit (n := 32) hlc (by decide)
                        have q2 : ((lc.toNat : Int) != 32) = false := by rw [hlc]; rfl
                        have hR3 : Hid (sigB s f (i + 1) out = res) := by
                          show _ = _
                          rw [← hR2.out, if_neg (fun x => x.2 (by rw [hgl, hlc2]))]
                        clear hR2 hR hlc2
                        as_aux_lemma =>
                          go_wp2_with fail
                          go_roundw
                          case rel => exact ⟨i + 1, f, out, _, rfl, hob, by go_num, by omega, by omega, by omega, hbw, hR3⟩
                          case measure => simp only [intOf]; omega
                      · have q2 : ((lc.toNat : Int) != 32) = true := by simp only [bne_iff_ne]; omega
                        have hR3 : Hid (sigB s f (i + 1) (out ++ [32]) = res) := by
                          show _ = _
                          rw [← hR2.out, if_pos ⟨ho, fun e => hlc (by rw [hgl] at e; injection e with e; rw [e]; rfl)⟩]
                        clear hR2 hR
                        as_aux_lemma =>
                          go_wp2_with fail
                          go_roundw
                          case rel => exact ⟨i + 1, f, out ++ [32], _, rfl, app_list ob out 32 hob, by go_num, by omega, by omega, by simp; omega, hbw, hR3⟩
                          case measure => simp only [intOf]; omega
                  · have q32 : ((c.toNat : Int) == 32) = false := by simp only [beq_eq_false_iff_ne]; omega
                    have e32 : ¬ gB s i = 32 := by rw [eg]; exact h32
                    have hR2 : Hid (res = if plainB c.toNat = true then sigB s f (i + 1) (out ++ [c]) else none) := by
                      show _ = _
                      rw [← hR.out, sigB, if_pos hl, if_neg hnA, if_neg hnB, if_neg hnC, if_neg e32, eg, ecs]
                    obtain ⟨pb, hpb⟩ : ∃ b, b = plainB c.toNat := ⟨_, rfl⟩
                    have HP : Hid (pb = plainB c.toNat) := hpb
                    clear hpb hR
                    go_upto_region 21 with fail
                    go_cut [83] from 9 to 150 (fun v wx => v = .bool pb ∧ wx = wr)
                    case first =>
                      have hpc := plain_cases c.toNat
                      rw [← HP.out] at hpc
                      generalize (c.toNat : Int) = cc at *
                      rcases hpc with ⟨p0, p1, hpb⟩ | ⟨p0, p1, p2, hpb⟩ | ⟨p0, p1, p2, p3, hpb⟩ | ⟨p0, p1, p2, p3, p4, hpb⟩ | ⟨p0, p1, p2, p3, p4, p5, hpb⟩ | ⟨p0, p1, p2, p3, p4, p5, p6, hpb⟩ | ⟨p0, p1, p2, p3, p4, p5, p6, hpb⟩ | ⟨p0, p1, p2, p3, p4, p5, p6, p7, hpb⟩ | ⟨p0, p1, p2, p3, p4, p5, p6, p7, p8, p9, hpb⟩ | ⟨p0, p1, p2, p3, p4, p5, p6, p7, p8, p9, p10, hpb⟩ | ⟨p0, p1, p2, p3, p4, p5, p6, p7, p8, p9, p10, hpb⟩ | ⟨p0, p1, p2, p3, p4, p5, p6, p7, p8, p9, p10, p11, hpb⟩ | ⟨p0, p1, p2, p3, p4, p5, p6, p7, p8, p9, p10, p11, p12, hpb⟩ | ⟨p0, p1, p2, p3, p4, p5, p6, p7, p8, p9, p10, p11, p12, p13, p14, p15, hpb⟩ | ⟨p0, p1, p2, p3, p4, p5, p6, p7, p8, p9, p10, p11, p12, p13, hpb⟩ | ⟨p0, p1, p2, p3, p4, p5, p6, p7, p8, p9, p10, p11, p12, p13, p14, hpb⟩ | ⟨p0, p1, p2, p3, p4, p5, p6, p7, p8, p9, p10, p11, p12, p13, p14, p15, hpb⟩
                      all_goals
                        as_aux_lemma =>
                          go_wp2_with fail
                          go_meet
                          exact ⟨by rw [hpb], rfl⟩
                    case rest =>
                      obtain ⟨rfl, hwc⟩ := hcut
                      have hwc2 := hwc.symm
                      subst hwc2
                      clear hwc
                      cases hbb : pb with
                      | true =>
                        have hR3 : Hid (sigB s f (i + 1) (out ++ [c]) = res) := by
                          show _ = _
                          rw [hR2.out, if_pos (HP.out.symm.trans hbb)]
                        have hcv : ∀ W : World, W.cell? ⟨wr.heap.size, 0, none⟩ = some (.int .u8 (c.toNat : Int)) → (convert 99 9 (.slice (some ⟨wr.heap.size, 0, none⟩) 1 1)).run Tryz.prog W = .ok (.string ⟨#[c]⟩) W := fun W hW => run_convert_bytes_back W 99 9 5 ⟨wr.heap.size, 0, none⟩ 1 [c] Tryz.underlying99 Tryz.underlying5 Tryz.underlying9 (fun j hj => by
                          have hj0 : j = 0 := by simpa using hj
                          subst hj0
                          simpa [Addr.add] using hW)
                        have hcv1 := hcv (wr.alloc (.cells #[.int .u8 (c.toNat : Int)] 5)) (by rw [World.cell?_alloc_at _ _ _ _ rfl]; rfl)
                        subst hbb
                        clear hcv hR2
                        as_aux_lemma =>
                          go_wp2_with fail
                          go_roundw
                          case rel => exact ⟨i + 1, f, out ++ [c], _, rfl, app_list ob out c hob, by go_num, by omega, by omega, by simp; omega, hbw.al _, hR3⟩
                          case measure => simp only [intOf]; omega
                      | false =>
                        have hR3 : Hid (res = none) := by
                          show _ = _
                          rw [hR2.out, if_neg]
                          rw [← HP.out, hbb]
                          decide
                        subst hbb
                        clear hR2
                        go_wp2_with fail
                        go_ret2
                        exact ⟨hbw, .inr ⟨hR3.out, rfl⟩⟩
    · have hlt : decide ((i : Int) < (s.size : Int)) = false := by simp; omega
      have hR2 : Hid (res = some out) := by
        show _ = _
        rw [← hR.out]
        cases f with
        | zero => rfl
        | succ f => rw [sigB, if_neg hl]
      clear hR
      go_wp2_with fail
      go_ret2
      exact ⟨hbw, .inl ⟨out, ob, hR2.out, hob, rfl⟩⟩

end Go.Proofs.YtpbbmagjhkakgaaGreatDoor
