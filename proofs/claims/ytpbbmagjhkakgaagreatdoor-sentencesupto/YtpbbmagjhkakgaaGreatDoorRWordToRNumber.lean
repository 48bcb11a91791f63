/-
  What the given reader's word does: the bytes of one kind from a place on; for every place in a text; no condition but those that stand in each theorem.
-/
/-
  What the given reader's number and window do: for every place in a text; no condition but those that stand in each theorem.
-/
import Derived.Test.YtpbbmagjhkakgaaGreatDoorRSkipToRLook
namespace Go.Proofs.YtpbbmagjhkakgaaGreatDoor
open Go.RowKit Go.Deep

/-- A byte from one to another. -/
def pB (lo hi : Nat) (c : UInt8) : Bool := decide (lo ≤ c.toNat) && decide (c.toNat ≤ hi)

/-- The place that a reader's block holds. -/
def scPos (rb : Nat) (w : World) : Nat := match w.heap[rb]? with
  | some (.cells cs _ _) => intOf (cs.getD 1 undef) |>.toNat
  | _ => 0

theorem scPos_of {rb i : Nat} {w : World} {s : ByteArray} {bad : Bool} (h : ScAt rb w s i bad) : scPos rb w = i := by
  unfold scPos
  unfold ScAt at h
  rw [h]
  simp [intOf]

theorem at_drop (s : ByteArray) (i : Nat) : At s i (s.data.toList.drop i) := rfl

theorem extract_list (s : ByteArray) (j k : Nat) : (s.extract j k).data.toList = (s.data.toList.drop j).take (k - j) := by
  rw [ByteArray.data_extract, Array.toList_extract]

set_option maxHeartbeats 2000000 in
theorem rword_any (rb i : Nat) (s : ByteArray) (bad : Bool) (u : List UInt8) (lo hi : Nat) (w : World) (h : ScAt rb w s i bad) (hs : s.size ≤ 1000000) (hi' : i ≤ s.size) (hu : At s i u) :
    Calls Tryz.prog 201 #[.pointer (some ⟨rb, 0, none⟩), .int .u8 (lo : Int), .int .u8 (hi : Int)] w fun e w' => Only rb w w' ∧ ∃ k d, k ≤ s.size ∧ ScAt rb w' s k bad ∧ e = .returned (.string d) ∧ d.data.toList = (skipR u).takeWhile (pB lo hi) ∧ At s k ((skipR u).dropWhile (pB lo hi)) := by
  have hsk := rskip_any rb i s bad w h hs
  have ha := hu.skip
  have hj := skipI_le hi'
  generalize skipI s i = j at *
  generalize skipR u = v at *
  go_enter Tryz.func201, Tryz.ntmps201
  go_wp2_with fail
  refine hsk.mono ?_
  rintro e w1 ⟨rfl, ho, h1⟩
  have c1 : w1.cell? ⟨rb, 1, none⟩ = some (.int .i64 j) := cell_at h1 rfl
  clear hsk h
  go_wp2_with fail
  go_loopw [] (fun wr => ∃ (k : Nat) (z : List UInt8), j ≤ k ∧ k ≤ s.size ∧ ScAt rb wr s k bad ∧ Only rb w wr ∧ At s k z ∧ Hid (v.takeWhile (pB lo hi) = (v.take (k - j)) ++ z.takeWhile (pB lo hi) ∧ v.dropWhile (pB lo hi) = z.dropWhile (pB lo hi))) (fun wr => s.size - scPos rb wr)
  case atStart => exact ⟨j, v, Nat.le_refl _, hj, h1, ho, ha, by simp, rfl⟩
  case round =>
    clear c1 h1 ho
    obtain ⟨k, z, hjk, hk, h2, ho2, hz, hW⟩ := hrel
    have c0 : wr.cell? ⟨rb, 0, none⟩ = some (.string s) := cell_at h2 rfl
    have c1 : wr.cell? ⟨rb, 1, none⟩ = some (.int .i64 k) := cell_at h2 rfl
    have f1 : wr.frozen? ⟨rb, 1, none⟩ = false := Lib.frozen_of_heap h2 1
    have hp := scPos_of h2
    cases z with
    | nil =>
      have hl := hz.nil
      have hlt : decide (k < s.size) = false := by simp; omega
      have hfin : Hid ((s.extract j k).data.toList = v.takeWhile (pB lo hi) ∧ At s k (v.dropWhile (pB lo hi))) := by
        obtain ⟨e1, e2⟩ := hW.out
        refine ⟨?_, by rw [e2]; exact hz⟩
        rw [extract_list, show s.data.toList.drop j = v from ha, e1]
        simp
      clear hW
      go_wp2_with fail
      go_region
      go_wp2_with fail
      go_region
      go_wp2_with fail
      go_ret
      exact ⟨ho2.drew.drew, k, _, hk, h2, rfl, hfin.out⟩
    | cons c r =>
      obtain ⟨hl, hc, ht⟩ := hz.cons
      have hlt : decide (k < s.size) = true := by simp; omega
      have hcs := UInt8.toNat_lt c
      by_cases hb1 : lo ≤ c.toNat
      · have hb1' : decide (lo ≤ c.toNat) = true := by simp [hb1]
        by_cases hb2 : c.toNat ≤ hi
        · have hb2' : decide (c.toNat ≤ hi) = true := by simp [hb2]
          have hb : pB lo hi c = true := by unfold pB; rw [hb1', hb2']; rfl
          have hvk : v.drop (k - j) = c :: r := by
            have e1 : s.data.toList.drop j = v := ha
            have e2 : s.data.toList.drop k = c :: r := hz
            rw [← e1, List.drop_drop, ← e2]
            congr 1
            omega
          have hW2 : Hid (v.takeWhile (pB lo hi) = (v.take (k + 1 - j)) ++ r.takeWhile (pB lo hi) ∧ v.dropWhile (pB lo hi) = r.dropWhile (pB lo hi)) := by
            obtain ⟨e1, e2⟩ := hW.out
            refine ⟨?_, ?_⟩
            · rw [e1, List.takeWhile_cons, hb, if_pos rfl, show k + 1 - j = (k - j) + 1 by omega, List.take_add_one]
              have : v[k - j]? = some c := by
                have := congrArg List.head? hvk
                rw [List.head?_drop] at this
                exact this
              rw [this]
              simp
            · rw [e2, List.dropWhile_cons, hb, if_pos rfl]
          have hkl : (k : Int) + 1 ≤ 9223372036854775807 := by omega
          clear hW hvk hb
          go_wp2_with fail
          go_region
          go_wp2_with fail
          go_roundw
          case rel => exact ⟨k + 1, r, by omega, hl, set_at (show ScAt rb wr.drew s k bad from h2), ho2.drew.setCell (p := ⟨rb, 1, none⟩) (.inl rfl) _, ht, hW2⟩
          case measure => exact Nat.lt_of_le_of_lt (Nat.le_of_eq (congrArg (fun x => s.size - x) (scPos_of (i := k + 1) (set_at (show ScAt rb wr.drew s k bad from h2))))) (by rw [hp]; omega)
        · have hb2' : decide (c.toNat ≤ hi) = false := by simp; omega
          have hb : pB lo hi c = false := by unfold pB; rw [hb1', hb2']; rfl
          have hfin : Hid ((s.extract j k).data.toList = v.takeWhile (pB lo hi) ∧ At s k (v.dropWhile (pB lo hi))) := by
            obtain ⟨e1, e2⟩ := hW.out
            refine ⟨?_, by rw [e2, List.dropWhile_cons, hb]; exact hz⟩
            rw [extract_list, show s.data.toList.drop j = v from ha, e1, List.takeWhile_cons, hb]
            simp
          clear hW hb
          go_wp2_with fail
          go_region
          go_wp2_with fail
          go_region
          go_wp2_with fail
          go_ret
          exact ⟨ho2.drew.drew, k, _, hk, h2, rfl, hfin.out⟩
      · have hb1' : decide (lo ≤ c.toNat) = false := by simp; omega
        have hb : pB lo hi c = false := by unfold pB; rw [hb1']; rfl
        have hfin : Hid ((s.extract j k).data.toList = v.takeWhile (pB lo hi) ∧ At s k (v.dropWhile (pB lo hi))) := by
          obtain ⟨e1, e2⟩ := hW.out
          refine ⟨?_, by rw [e2, List.dropWhile_cons, hb]; exact hz⟩
          rw [extract_list, show s.data.toList.drop j = v from ha, e1, List.takeWhile_cons, hb]
          simp
        clear hW hb
        go_wp2_with fail
        go_region
        go_wp2_with fail
        go_region
        go_wp2_with fail
        go_ret
        exact ⟨ho2.drew.drew, k, _, hk, h2, rfl, hfin.out⟩

end Go.Proofs.YtpbbmagjhkakgaaGreatDoor

namespace Go.Proofs.YtpbbmagjhkakgaaGreatDoor
open Go.RowKit Go.Deep

theorem sign_dig (n : Nat) : (signF (n : Int) == 48) = (decide (48 ≤ n) && decide (n ≤ 57)) := by
  rw [Bool.eq_iff_iff]
  simp only [beq_iff_eq, Bool.and_eq_true, decide_eq_true_eq]
  unfold signF
  repeat' split
  all_goals omega
theorem sign_let (n : Nat) : (signF (n : Int) == 97) = (decide (97 ≤ n) && decide (n ≤ 122)) := by
  rw [Bool.eq_iff_iff]
  simp only [beq_iff_eq, Bool.and_eq_true, decide_eq_true_eq]
  unfold signF
  repeat' split
  all_goals omega

theorem pB_dig (c : UInt8) : (signF (c.toNat : Int) == 48) = pB 48 57 c := sign_dig c.toNat
theorem pB_let (c : UInt8) : (signF (c.toNat : Int) == 97) = pB 97 122 c := sign_let c.toNat

theorem word_dig (u : List UInt8) : wordR 48 u = u.takeWhile (pB 48 57) ∧ restR 48 u = u.dropWhile (pB 48 57) := by
  unfold wordR restR
  have : (fun c : UInt8 => signF (c.toNat : Int) == 48) = pB 48 57 := funext pB_dig
  rw [this]; exact ⟨rfl, rfl⟩
theorem word_let (u : List UInt8) : wordR 97 u = u.takeWhile (pB 97 122) ∧ restR 97 u = u.dropWhile (pB 97 122) := by
  unfold wordR restR
  have : (fun c : UInt8 => signF (c.toNat : Int) == 97) = pB 97 122 := funext pB_let
  rw [this]; exact ⟨rfl, rfl⟩

theorem valR_lt (l : List UInt8) : ∀ acc : Nat, (∀ c, c ∈ l → 48 ≤ c.toNat ∧ c.toNat ≤ 57) → valR acc l < (acc + 1) * 10 ^ l.length := by
  induction l with
  | nil =>
    intro acc _
    have e : valR acc [] = acc := rfl
    rw [e, List.length_nil, Nat.pow_zero, Nat.mul_one]
    exact Nat.lt_succ_self acc
  | cons c r ih =>
    intro acc h
    have hc := h c (by simp)
    have h1 := ih (10 * acc + (c.toNat - 48)) (fun d hd => h d (by simp [hd]))
    have e : valR acc (c :: r) = valR (10 * acc + (c.toNat - 48)) r := rfl
    have h3 : (10 * acc + (c.toNat - 48) + 1) * 10 ^ r.length ≤ ((acc + 1) * 10) * 10 ^ r.length := Nat.mul_le_mul_right _ (by omega)
    rw [e, List.length_cons, Nat.pow_succ, Nat.mul_comm (10 ^ r.length) 10, ← Nat.mul_assoc]
    exact Nat.lt_of_lt_of_le h1 h3

theorem valR_seven {l : List UInt8} (h : ∀ c, c ∈ l → 48 ≤ c.toNat ∧ c.toNat ≤ 57) (h7 : l.length ≤ 7) : valR 0 l < 10000000 := by
  have h1 := valR_lt l 0 h
  have h2 : 10 ^ l.length ≤ 10 ^ 7 := Nat.pow_le_pow_right (by omega) h7
  generalize valR 0 l = y at *
  generalize 10 ^ l.length = z at *
  have h3 : (10 : Nat) ^ 7 = 10000000 := by decide
  omega

theorem list_at {d : ByteArray} {l : List UInt8} (hd : d.data.toList = l) {i : Nat} (hi : i < l.length) : ∃ h : i < d.size, d[i]'h = l[i] := by
  subst hd
  exact ⟨by rw [← size_list]; exact hi, rfl⟩

/-- How number goes, at the digits that were found. -/
theorem num_at (u : List UInt8) : numAtR u = (numR ((skipR u).takeWhile (pB 48 57))).map fun v => (v, (skipR u).dropWhile (pB 48 57)) := by
  unfold numAtR
  cases skipR u with
  | nil => rfl
  | cons c r =>
    simp only
    rw [(word_dig _).1, (word_dig _).2]
    by_cases h : signF (c.toNat : Int) = 48
    · rw [if_pos h]
    · rw [if_neg h]
      have hp : pB 48 57 c = false := by rw [← pB_dig]; simp [h]
      rw [List.takeWhile_cons, hp]
      rfl

/-- How number ends. -/
def NumEnd (s : ByteArray) (rb : Nat) (bad : Bool) (res : Option (Int × List UInt8)) (e : Ending) (w' : World) : Prop :=
  ∃ j n bad', j ≤ s.size ∧ ScAt rb w' s j bad' ∧ e = .returned (.int .i64 n) ∧ ((bad = false ∧ bad' = false ∧ ∃ t, res = some (n, t) ∧ At s j t) ∨ (bad' = true ∧ (bad = true ∨ res = none) ∧ 0 ≤ n ∧ n ≤ 10000000))

set_option maxHeartbeats 2000000 in
theorem rnumber_any (rb i : Nat) (s : ByteArray) (bad : Bool) (u : List UInt8) (w : World) (h : ScAt rb w s i bad) (hs : s.size ≤ 1000000) (hi : i ≤ s.size) (hu : At s i u) :
    Calls Tryz.prog 209 #[.pointer (some ⟨rb, 0, none⟩)] w fun e w' => Only rb w w' ∧ NumEnd s rb bad (numAtR u) e w' := by
  have hw := rword_any rb i s bad u 48 57 w h hs hi hu
  rw [num_at]
  have hdg : ∀ c, c ∈ (skipR u).takeWhile (pB 48 57) → 48 ≤ c.toNat ∧ c.toNat ≤ 57 := by
    intro c hc
    have := List.all_eq_true.1 List.all_takeWhile c hc
    unfold pB at this
    simp at this
    exact this
  generalize (skipR u).takeWhile (pB 48 57) = l at *
  generalize (skipR u).dropWhile (pB 48 57) = r at *
  go_enter Tryz.func209, Tryz.ntmps209
  go_wp2_with fail
  refine hw.mono ?_
  rintro e w1 ⟨ho, k, d, hk, h1, rfl, hd, hr⟩
  have hsz : d.size = l.length := by rw [← hd, size_list]
  have c2 : w1.cell? ⟨rb, 2, none⟩ = some (.bool bad) := cell_at h1 rfl
  have f2 : w1.frozen? ⟨rb, 2, none⟩ = false := Lib.frozen_of_heap h1 2
  clear hw
  by_cases h0 : l.length = 0
  · have hN : Hid (numR l = none) := by show _ = _; unfold numR; rw [if_pos (.inl h0)]
    have z0 : d.size = 0 := by omega
    go_wp2_with fail
    go_ret
    exact ⟨ho.setCell (p := ⟨rb, 2, none⟩) (.inl rfl) _, k, 0, true, hk, set_bad h1, rfl, .inr ⟨rfl, .inr (by rw [hN.out]; rfl), by omega, by omega⟩⟩
  · obtain ⟨z0, hz0⟩ := list_at hd (i := 0) (by omega)
    have n0 : ¬ d.size = 0 := by omega
    by_cases h7 : 7 < l.length
    · have hN : Hid (numR l = none) := by show _ = _; unfold numR; rw [if_pos (.inr (.inl h7))]
      have z7 : 7 < d.size := by omega
      go_wp2_with fail
      go_ret
      exact ⟨ho.setCell (p := ⟨rb, 2, none⟩) (.inl rfl) _, k, 0, true, hk, set_bad h1, rfl, .inr ⟨rfl, .inr (by rw [hN.out]; rfl), by omega, by omega⟩⟩
    · have n7 : ¬ 7 < d.size := by omega
      have hhd : l.headD 0 = l[0]'(by omega) := by
        cases l with
        | nil => simp at h0
        | cons a b => rfl
      generalize hcc : l[0]'(by omega) = c0 at *
      have hcase : (((c0.toNat : Int) == 48) = true ∧ 1 < l.length ∧ numR l = none) ∨ ((((c0.toNat : Int) == 48) = false ∨ (((c0.toNat : Int) == 48) = true ∧ ¬ 1 < d.size)) ∧ numR l = if 1000000 < valR 0 l then none else some (valR 0 l : Int)) := by
        unfold numR
        by_cases h48 : c0 = 48
        · have q48 : ((c0.toNat : Int) == 48) = true := by rw [h48]; rfl
          by_cases h1l : 1 < l.length
          · exact .inl ⟨q48, h1l, by rw [if_pos (.inr (.inr ⟨by rw [hhd]; exact h48, h1l⟩))]⟩
          · refine .inr ⟨.inr ⟨q48, by omega⟩, ?_⟩
            rw [if_neg (by rintro (e | e | ⟨_, e⟩) <;> omega)]
        · have q48 : ((c0.toNat : Int) == 48) = false := by
            simp only [beq_eq_false_iff_ne]
            intro e
            have e2 : c0.toNat = (48 : UInt8).toNat := by have : (48 : UInt8).toNat = 48 := rfl; omega
            exact h48 (UInt8.toNat_inj.1 e2)
          refine .inr ⟨.inl q48, ?_⟩
          rw [if_neg]
          rintro (e | e | ⟨e, _⟩)
          · omega
          · omega
          · exact h48 (by rw [← hhd]; exact e)
      rcases hcase with ⟨q48, h1l, hn⟩ | ⟨hq, hn⟩
      · have hN : Hid (numR l = none) := hn
        have z1 : 1 < d.size := by omega
        clear hn
        go_wp2_with fail
        go_ret
        exact ⟨ho.setCell (p := ⟨rb, 2, none⟩) (.inl rfl) _, k, 0, true, hk, set_bad h1, rfl, .inr ⟨rfl, .inr (by rw [hN.out]; rfl), by omega, by omega⟩⟩
      · have hN : Hid (numR l = if 1000000 < valR 0 l then none else some (valR 0 l : Int)) := hn
        have hv7 := valR_seven hdg (by omega)
        have l0 : ((l.length : Int) == 0) = false := by simp only [beq_eq_false_iff_ne]; omega
        have l7 : decide (7 < (l.length : Int)) = false := by simp; omega
        have hge : Hid (∀ (m : Nat) (z : List UInt8), m ≤ valR m z) := fun m z => valR_ge z m
        clear hn
        have hq' : ((c0.toNat : Int) == 48) = false ∨ (((c0.toNat : Int) == 48) = true ∧ decide (1 < (l.length : Int)) = false) := by
          rcases hq with e | ⟨e, z1⟩
          · exact .inl e
          · exact .inr ⟨e, by simp; omega⟩
        rcases hq' with q48 | ⟨q48, z1⟩
        all_goals
          go_wp2_with fail
          go_loopw [4, 5] (fun nv iv wr => ∃ i n : Nat, nv = .int .i64 n ∧ iv = .int .i64 i ∧ i ≤ l.length ∧ wr = w1 ∧ Hid (valR n (l.drop i) = valR 0 l)) (fun _ iv _ => l.length - (intOf iv).toNat)
          case atStart => exact ⟨0, 0, rfl, rfl, Nat.zero_le _, rfl, rfl⟩
          case round =>
            obtain ⟨i, n, rfl, rfl, hil, rfl, hV⟩ := hrel
            by_cases hi2 : i < l.length
            · obtain ⟨hz, hzc⟩ := list_at hd hi2
              have hcd := hdg _ (List.getElem_mem hi2)
              have hV2 : valR (10 * n + (l[i].toNat - 48)) (l.drop (i + 1)) = valR 0 l := by
                rw [← hV.out, List.drop_eq_getElem_cons hi2]
                rfl
              have hb2 := hge.out (10 * n + (l[i].toNat - 48)) (l.drop (i + 1))
              rw [hV2] at hb2
              have HV2 : Hid (valR (10 * n + (l[i].toNat - 48)) (l.drop (i + 1)) = valR 0 l) := hV2
              generalize hlc : l[i] = c at *
              generalize valR 0 l = V at *
              have hlt : decide ((i : Int) < (l.length : Int)) = true := by simp; omega
              clear hV hV2
              go_wp2_with fail
              go_roundw
              case rel => exact ⟨i + 1, 10 * n + (c.toNat - 48), by go_num, by go_num, hi2, trivial, HV2⟩
              case measure => simp only [intOf]; omega
            · have hlt : decide ((i : Int) < (l.length : Int)) = false := by simp; omega
              have hnv : valR 0 l = n := by
                rw [← hV.out, List.drop_of_length_le (by omega)]
                rfl
              rw [hnv] at hN hv7
              by_cases hbig : 1000000 < n
              · have hM : Hid (numR l = none) := by show _ = _; rw [hN.out, if_pos hbig]
                clear hN hV
                go_wp2_with fail
                go_ret
                exact ⟨ho.setCell (p := ⟨rb, 2, none⟩) (.inl rfl) _, k, n, true, hk, set_bad h1, rfl, .inr ⟨rfl, .inr (by rw [hM.out]; rfl), by omega, by omega⟩⟩
              · have hM : Hid (numR l = some (n : Int)) := by show _ = _; rw [hN.out, if_neg hbig]
                clear hN hV
                go_wp2_with fail
                go_ret
                refine ⟨ho, k, n, bad, hk, h1, rfl, ?_⟩
                cases bad with
                | false => exact .inl ⟨rfl, rfl, r, by rw [hM.out]; rfl, hr⟩
                | true => exact .inr ⟨rfl, .inl rfl, by omega, by omega⟩

/-- How window ends. -/
def WinEnd (s : ByteArray) (rb : Nat) (bad : Bool) (res : Option ((Int × Int) × List UInt8)) (e : Ending) (w' : World) : Prop :=
  ∃ j a b bad', j ≤ s.size ∧ ScAt rb w' s j bad' ∧ e = .returned (.tuple #[.int .i64 a, .int .i64 b]) ∧ ((bad = false ∧ bad' = false ∧ ∃ t, res = some ((a, b), t) ∧ At s j t) ∨ (bad' = true ∧ (bad = true ∨ res = none)))

theorem window_none1 {op : Int} {u : List UInt8} (hw : winB op = true) (h : expectR 91 u = none) : windowR op u = none := by
  unfold windowR; rw [hw, if_pos rfl, h]
theorem window_at {op : Int} {u t1 : List UInt8} (hw : winB op = true) (h : expectR 91 u = some t1) : windowR op u = match numAtR t1 with
      | none => none
      | some (a, t2) => match expectR 44 t2 with
        | none => none
        | some t3 => match numAtR t3 with
          | none => none
          | some (b, t4) => match expectR 93 t4 with
            | none => none
            | some t5 => if b < a then none else some ((a, b), t5) := by
  unfold windowR; rw [hw, if_pos rfl, h]; rfl

theorem num_small {u t : List UInt8} {n : Int} (h : numAtR u = some (n, t)) : 0 ≤ n ∧ n ≤ 1000000 := by
  rw [num_at] at h
  cases hn : numR ((skipR u).takeWhile (pB 48 57)) with
  | none => rw [hn] at h; cases h
  | some v =>
    rw [hn] at h
    simp at h
    obtain ⟨rfl, _⟩ := h
    unfold numR at hn
    split at hn
    · cases hn
    · split at hn
      · cases hn
      · injection hn with hn
        omega

set_option maxHeartbeats 2000000 in
theorem rwindow_any (rb i : Nat) (s : ByteArray) (bad : Bool) (u : List UInt8) (op : Int) (w : World) (h : ScAt rb w s i bad) (hs : s.size ≤ 1000000) (hi : i ≤ s.size) (hu : At s i u) (hw : winB op = true) :
    Calls Tryz.prog 199 #[.pointer (some ⟨rb, 0, none⟩)] w fun e w' => Only rb w w' ∧ WinEnd s rb bad (windowR op u) e w' := by
  go_enter Tryz.func199, Tryz.ntmps199
  go_wp2_with fail
  refine (rmust_any rb i s bad u 91 w h hs hi hu (by decide)).mono ?_
  rintro e w1 ⟨o1, rfl, j1, bad1, hj1, h1, r1⟩
  have k1 : ∃ u1, At s j1 u1 ∧ ((bad = false ∧ bad1 = false ∧ expectR 91 u = some u1) ∨ (bad1 = true ∧ (bad = true ∨ windowR op u = none))) := by
    rcases r1 with ⟨a1, a2, t, a3, a4⟩ | ⟨a1, a2⟩
    · exact ⟨t, a4, .inl ⟨a1, a2, a3⟩⟩
    · exact ⟨_, at_drop s j1, .inr ⟨a1, a2.imp id (window_none1 hw)⟩⟩
  obtain ⟨u1, hu1, q1⟩ := k1
  clear r1
  go_wp2_with fail
  refine (rnumber_any rb j1 s bad1 u1 w1 h1 hs hj1 hu1).mono ?_
  rintro e w2 ⟨o2, j2, a, bad2, hj2, h2, rfl, r2⟩
  have k2 : ∃ u2, At s j2 u2 ∧ 0 ≤ a ∧ a ≤ 10000000 ∧ ((bad = false ∧ bad2 = false ∧ ∃ u1, expectR 91 u = some u1 ∧ numAtR u1 = some (a, u2)) ∨ (bad2 = true ∧ (bad = true ∨ windowR op u = none))) := by
    rcases r2 with ⟨a1, a2, t, a3, a4⟩ | ⟨a1, a2, a3, a4⟩
    · obtain ⟨s1, s2⟩ := num_small a3
      rcases q1 with ⟨b1, b2, b3⟩ | ⟨b1, b2⟩
      · exact ⟨t, a4, s1, by omega, .inl ⟨b1, a2, u1, b3, a3⟩⟩
      · rw [a1] at b1; cases b1
    · refine ⟨_, at_drop s j2, a3, a4, .inr ⟨a1, ?_⟩⟩
      rcases q1 with ⟨b1, b2, b3⟩ | ⟨b1, b2⟩
      · rcases a2 with a2 | a2
        · rw [b2] at a2; cases a2
        · right; rw [window_at hw b3, a2]
      · exact b2
  obtain ⟨u2, hu2, sa1, sa2, q2⟩ := k2
  clear r2 q1
  go_wp2_with fail
  refine (rmust_any rb j2 s bad2 u2 44 w2 h2 hs hj2 hu2 (by decide)).mono ?_
  rintro e w3 ⟨o3, rfl, j3, bad3, hj3, h3, r3⟩
  have k3 : ∃ u3, At s j3 u3 ∧ ((bad = false ∧ bad3 = false ∧ ∃ u1 u2, expectR 91 u = some u1 ∧ numAtR u1 = some (a, u2) ∧ expectR 44 u2 = some u3) ∨ (bad3 = true ∧ (bad = true ∨ windowR op u = none))) := by
    rcases r3 with ⟨a1, a2, t, a3, a4⟩ | ⟨a1, a2⟩
    · rcases q2 with ⟨b1, b2, v1, b3, b4⟩ | ⟨b1, b2⟩
      · exact ⟨t, a4, .inl ⟨b1, a2, v1, u2, b3, b4, a3⟩⟩
      · rw [a1] at b1; cases b1
    · refine ⟨_, at_drop s j3, .inr ⟨a1, ?_⟩⟩
      rcases q2 with ⟨b1, b2, v1, b3, b4⟩ | ⟨b1, b2⟩
      · rcases a2 with a2 | a2
        · rw [b2] at a2; cases a2
        · right; rw [window_at hw b3, b4]; simp only; rw [a2]
      · exact b2
  obtain ⟨u3, hu3, q3⟩ := k3
  clear r3 q2
  go_wp2_with fail
  refine (rnumber_any rb j3 s bad3 u3 w3 h3 hs hj3 hu3).mono ?_
  rintro e w4 ⟨o4, j4, b, bad4, hj4, h4, rfl, r4⟩
  have k4 : ∃ u4, At s j4 u4 ∧ 0 ≤ b ∧ b ≤ 10000000 ∧ ((bad = false ∧ bad4 = false ∧ ∃ u1 u2 u3, expectR 91 u = some u1 ∧ numAtR u1 = some (a, u2) ∧ expectR 44 u2 = some u3 ∧ numAtR u3 = some (b, u4)) ∨ (bad4 = true ∧ (bad = true ∨ windowR op u = none))) := by
    rcases r4 with ⟨a1, a2, t, a3, a4⟩ | ⟨a1, a2, a3, a4⟩
    · obtain ⟨s1, s2⟩ := num_small a3
      rcases q3 with ⟨b1, b2, v1, v2, b3, b4, b5⟩ | ⟨b1, b2⟩
      · exact ⟨t, a4, s1, by omega, .inl ⟨b1, a2, v1, v2, u3, b3, b4, b5, a3⟩⟩
      · rw [a1] at b1; cases b1
    · refine ⟨_, at_drop s j4, a3, a4, .inr ⟨a1, ?_⟩⟩
      rcases q3 with ⟨b1, b2, v1, v2, b3, b4, b5⟩ | ⟨b1, b2⟩
      · rcases a2 with a2 | a2
        · rw [b2] at a2; cases a2
        · right; rw [window_at hw b3, b4]; simp only; rw [b5]; simp only; rw [a2]
      · exact b2
  obtain ⟨u4, hu4, sb1, sb2, q4⟩ := k4
  clear r4 q3
  go_wp2_with fail
  refine (rmust_any rb j4 s bad4 u4 93 w4 h4 hs hj4 hu4 (by decide)).mono ?_
  rintro e w5 ⟨o5, rfl, j5, bad5, hj5, h5, r5⟩
  have k5 : Hid ((bad = false ∧ bad5 = false ∧ ∃ u5, windowR op u = (if b < a then none else some ((a, b), u5)) ∧ At s j5 u5) ∨ (bad5 = true ∧ (bad = true ∨ windowR op u = none))) := by
    rcases r5 with ⟨a1, a2, t, a3, a4⟩ | ⟨a1, a2⟩
    · rcases q4 with ⟨b1, b2, v1, v2, v3, b3, b4, b5, b6⟩ | ⟨b1, b2⟩
      · exact .inl ⟨b1, a2, t, by rw [window_at hw b3, b4]; simp only; rw [b5]; simp only; rw [b6]; simp only; rw [a3], a4⟩
      · rw [a1] at b1; cases b1
    · refine .inr ⟨a1, ?_⟩
      rcases q4 with ⟨b1, b2, v1, v2, v3, b3, b4, b5, b6⟩ | ⟨b1, b2⟩
      · rcases a2 with a2 | a2
        · rw [b2] at a2; cases a2
        · right; rw [window_at hw b3, b4]; simp only; rw [b5]; simp only; rw [b6]; simp only; rw [a2]
      · exact b2
  clear r5 q4
  have c2 : w5.cell? ⟨rb, 2, none⟩ = some (.bool bad5) := cell_at h5 rfl
  have f2 : w5.frozen? ⟨rb, 2, none⟩ = false := Lib.frozen_of_heap h5 2
  have o := (((o1.trans o2).trans o3).trans o4).trans o5
  by_cases hab : b < a
  · have hgt : decide (a > b) = true := by simp; omega
    go_wp2_with fail
    go_ret2
    refine ⟨o.setCell (p := ⟨rb, 2, none⟩) (.inl rfl) _, j5, a, b, true, hj5, set_bad h5, rfl, .inr ⟨rfl, ?_⟩⟩
    rcases k5.out with ⟨x1, _, u5, x2, _⟩ | ⟨_, x⟩
    · right; rw [x2, if_pos hab]
    · exact x
  · have hgt : decide (a > b) = false := by simp; omega
    go_wp2_with fail
    go_ret2
    refine ⟨o, j5, a, b, bad5, hj5, h5, rfl, ?_⟩
    rcases k5.out with ⟨x1, x3, u5, x2, x4⟩ | ⟨x3, x⟩
    · exact .inl ⟨x1, x3, u5, by rw [x2, if_neg (by omega)], x4⟩
    · exact .inr ⟨x3, x⟩

end Go.Proofs.YtpbbmagjhkakgaaGreatDoor
