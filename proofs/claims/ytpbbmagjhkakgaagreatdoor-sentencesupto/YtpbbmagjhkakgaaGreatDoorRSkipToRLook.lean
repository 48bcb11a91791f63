/-
  What the given reader's skip does: for every place in a text; no condition but those that stand in each theorem.
-/
/-
  What the given reader's look and must do: for every place in a text; no condition but those that stand in each theorem.
-/
import Derived.Test.YtpbbmagjhkakgaaGreatDoorHeapToWalk1
import Derived.Test.YtpbbmagjhkakgaaGreatDoorRefReadToRefInj
import Derived.Test.YtpbbmagjhkakgaaGreatDoorProg
namespace Go.Proofs.YtpbbmagjhkakgaaGreatDoor
open Go.RowKit Go.Deep

/-- The given reader's state in block rb. -/
def ScAt (rb : Nat) (w : World) (s : ByteArray) (i : Nat) (bad : Bool) : Prop := w.heap[rb]? = some (.cells #[.string s, .int .i64 i, .bool bad] 304 (0, 0))

/-- Behind one blank. -/
def skipI (s : ByteArray) (i : Nat) : Nat := if i < s.size ∧ gB s i = 32 then i + 1 else i

theorem set_at {w : World} {rb i j : Nat} {s : ByteArray} {bad : Bool} (h : ScAt rb w s i bad) : ScAt rb (w.setCell ⟨rb, 1, none⟩ (.int .i64 j)) s j bad := by
  unfold ScAt at *
  simp [World.setCell, Array.getElem?_modify, h]

theorem set_bad {w : World} {rb i : Nat} {s : ByteArray} {bad b : Bool} (h : ScAt rb w s i bad) : ScAt rb (w.setCell ⟨rb, 2, none⟩ (.bool b)) s i b := by
  unfold ScAt at *
  simp [World.setCell, Array.getElem?_modify, h]

set_option maxHeartbeats 1000000 in
theorem rskip_any (rb i : Nat) (s : ByteArray) (bad : Bool) (w : World) (h : ScAt rb w s i bad) (hs : s.size ≤ 1000000) :
    Calls Tryz.prog 180 #[.pointer (some ⟨rb, 0, none⟩)] w fun e w' => e = .returned (.tuple #[]) ∧ Only rb w w' ∧ ScAt rb w' s (skipI s i) bad := by
  unfold skipI
  have c0 : w.cell? ⟨rb, 0, none⟩ = some (.string s) := cell_at h rfl
  have c1 : w.cell? ⟨rb, 1, none⟩ = some (.int .i64 i) := cell_at h rfl
  have c2 : w.cell? ⟨rb, 2, none⟩ = some (.bool bad) := cell_at h rfl
  have f1 : w.frozen? ⟨rb, 1, none⟩ = false := Lib.frozen_of_heap h 1
  by_cases hl : i < s.size
  · have eg : gB s i = (s[i]'hl).toNat := by unfold gB; rw [gB_at hl]
    by_cases h32 : gB s i = 32
    · rw [if_pos ⟨hl, h32⟩]
      have hb : (((s[i]'hl).toNat : Int) == 32) = true := by rw [← eg, h32]; rfl
      clear eg h32
      go_enter Tryz.func180, Tryz.ntmps180
      go_wp2_with fail
      go_region
      go_wp2_with fail
      go_end0
      exact ⟨rfl, (Only.refl _ _).drew.setCell (p := ⟨rb, 1, none⟩) (.inl rfl) _, set_at (show ScAt rb w.drew s i bad from h)⟩
    · rw [if_neg (fun x => h32 x.2)]
      have hb : (((s[i]'hl).toNat : Int) == 32) = false := by
        rw [← eg]
        simp only [beq_eq_false_iff_ne]
        omega
      clear eg h32
      go_enter Tryz.func180, Tryz.ntmps180
      go_wp2_with fail
      go_region
      go_wp2_with fail
      go_end0
      exact ⟨rfl, (Only.refl _ _).drew, h⟩
  · rw [if_neg (fun x => hl x.1)]
    go_enter Tryz.func180, Tryz.ntmps180
    go_wp2_with fail
    go_region
    go_wp2_with fail
    go_end0
    exact ⟨rfl, (Only.refl _ _).drew, h⟩

end Go.Proofs.YtpbbmagjhkakgaaGreatDoor

namespace Go.Proofs.YtpbbmagjhkakgaaGreatDoor
open Go.RowKit Go.Deep

/-- The signs from a place on. -/
def At (s : ByteArray) (i : Nat) (u : List UInt8) : Prop := s.data.toList.drop i = u

theorem size_list (s : ByteArray) : s.data.toList.length = s.size := by rw [Array.length_toList]; rfl

theorem At.cons {s : ByteArray} {i : Nat} {c : UInt8} {r : List UInt8} (h : At s i (c :: r)) : ∃ hl : i < s.size, s[i]'hl = c ∧ At s (i + 1) r := by
  unfold At at *
  have hl : i < s.data.toList.length := by
    rcases Nat.lt_or_ge i s.data.toList.length with h' | h'
    · exact h'
    · rw [List.drop_of_length_le h'] at h; cases h
  rw [List.drop_eq_getElem_cons hl] at h
  injection h with h1 h2
  exact ⟨by rw [← size_list]; exact hl, by rw [← h1]; rfl, h2⟩

theorem At.nil {s : ByteArray} {i : Nat} (h : At s i []) : ¬ i < s.size := by
  unfold At at h
  rw [← size_list]
  intro hl
  rw [List.drop_eq_getElem_cons hl] at h
  cases h

theorem At.skip {s : ByteArray} {i : Nat} {u : List UInt8} (h : At s i u) : At s (skipI s i) (skipR u) := by
  unfold skipI
  cases u with
  | nil => rw [if_neg (fun x => h.nil x.1)]; exact h
  | cons c r =>
    obtain ⟨hl, hc, ht⟩ := h.cons
    have e : gB s i = c.toNat := by unfold gB; rw [gB_at hl, hc]
    by_cases h32 : c = 32
    · rw [if_pos ⟨hl, by rw [e, h32]; rfl⟩]
      have : skipR (c :: r) = r := if_pos h32
      rw [this]; exact ht
    · have : skipR (c :: r) = c :: r := if_neg h32
      rw [this, if_neg]
      · exact h
      · rintro ⟨_, h2⟩
        rw [e] at h2
        exact h32 (UInt8.toNat_inj.1 h2)

theorem skipI_le {s : ByteArray} {i : Nat} (h : i ≤ s.size) : skipI s i ≤ s.size := by
  unfold skipI
  split
  · omega
  · exact h

/-- What look answers. -/
def lookV (bad : Bool) : List UInt8 → Int
  | [] => 0
  | c :: _ => if bad then 0 else (c.toNat : Int)

set_option maxHeartbeats 1000000 in
theorem rlook_any (rb i : Nat) (s : ByteArray) (bad : Bool) (u : List UInt8) (w : World) (h : ScAt rb w s i bad) (hs : s.size ≤ 1000000) (hi : i ≤ s.size) (hu : At s i u) :
    Calls Tryz.prog 198 #[.pointer (some ⟨rb, 0, none⟩)] w fun e w' => Only rb w w' ∧ e = .returned (.int .u8 (lookV bad (skipR u))) ∧ ∃ j, j ≤ s.size ∧ At s j (skipR u) ∧ ScAt rb w' s j bad := by
  have hsk := rskip_any rb i s bad w h hs
  have ha := hu.skip
  have hj := skipI_le hi
  generalize skipI s i = j at *
  generalize skipR u = v at *
  go_enter Tryz.func198, Tryz.ntmps198
  go_wp2_with fail
  refine hsk.mono ?_
  rintro e w1 ⟨rfl, ho, h1⟩
  have c0 : w1.cell? ⟨rb, 0, none⟩ = some (.string s) := cell_at h1 rfl
  have c1 : w1.cell? ⟨rb, 1, none⟩ = some (.int .i64 j) := cell_at h1 rfl
  have c2 : w1.cell? ⟨rb, 2, none⟩ = some (.bool bad) := cell_at h1 rfl
  clear hsk h
  have HA : Hid (lookV bad v = lookV bad v) := rfl
  cases v with
  | nil =>
    have hl := ha.nil
    have hge : ((s.size : Int) ≤ (j : Int)) := by omega
    go_wp2_with fail
    go_region
    go_wp2_with fail
    go_ret
    exact ⟨ho.drew, rfl, j, hj, ha, h1⟩
  | cons c r =>
    obtain ⟨hl, hc, ht⟩ := ha.cons
    have hge : decide (s.size ≤ j) = false := by simp; omega
    have hge2 : ¬ s.size ≤ j := by omega
    cases bad with
    | true =>
      go_wp2_with fail
      go_region
      go_wp2_with fail
      go_ret
      exact ⟨ho.drew, rfl, j, hj, ha, h1⟩
    | false =>
      go_wp2_with fail
      go_region
      go_wp2_with fail
      go_region
      go_wp2_with fail
      go_ret
      exact ⟨ho.drew.drew, ret_int rfl, j, hj, ha, h1⟩

/-- How must goes: the sign is there and is passed, or it is bad from now on. -/
def MustEnd (s : ByteArray) (rb : Nat) (bad : Bool) (res : Option (List UInt8)) (w' : World) : Prop :=
  ∃ j bad', j ≤ s.size ∧ ScAt rb w' s j bad' ∧ ((bad = false ∧ bad' = false ∧ ∃ t, res = some t ∧ At s j t) ∨ (bad' = true ∧ (bad = true ∨ res = none)))

theorem expect_nil {c : UInt8} {u : List UInt8} (h : skipR u = []) : expectR c u = none := by unfold expectR; rw [h]
theorem expect_cons {c d : UInt8} {u r : List UInt8} (h : skipR u = d :: r) : expectR c u = if d = c then some r else none := by unfold expectR; rw [h]

set_option maxHeartbeats 1000000 in
theorem rmust_any (rb i : Nat) (s : ByteArray) (bad : Bool) (u : List UInt8) (c : UInt8) (w : World) (h : ScAt rb w s i bad) (hs : s.size ≤ 1000000) (hi : i ≤ s.size) (hu : At s i u) (hc0 : c ≠ 0) :
    Calls Tryz.prog 200 #[.pointer (some ⟨rb, 0, none⟩), .int .u8 (c.toNat : Int)] w fun e w' => Only rb w w' ∧ e = .returned (.tuple #[]) ∧ MustEnd s rb bad (expectR c u) w' := by
  have hlk := rlook_any rb i s bad u w h hs hi hu
  have hcn : c.toNat ≠ 0 := fun e => hc0 (UInt8.toNat_inj.1 e)
  have hE : Hid ((∀ d r, skipR u = d :: r → d = c → expectR c u = some r) ∧ (∀ d r, skipR u = d :: r → d ≠ c → expectR c u = none) ∧ (skipR u = [] → expectR c u = none)) :=
    ⟨fun d r e1 e2 => by rw [expect_cons e1, if_pos e2], fun d r e1 e2 => by rw [expect_cons e1, if_neg e2], expect_nil⟩
  have hV : Hid (lookV bad (skipR u) = lookV bad (skipR u)) := rfl
  generalize expectR c u = res at *
  by_cases hq : lookV bad (skipR u) = (c.toNat : Int)
  · have hcase : bad = false ∧ ∃ r, skipR u = c :: r := by
      cases hv : skipR u with
      | nil => rw [hv] at hq; exact absurd hq.symm (by simp only [lookV]; omega)
      | cons d r =>
        rw [hv] at hq
        cases bad with
        | true => exact absurd hq.symm (by simp only [lookV, if_true]; omega)
        | false =>
          have hd : (d.toNat : Int) = (c.toNat : Int) := hq
          have : d = c := UInt8.toNat_inj.1 (by omega)
          exact ⟨rfl, r, by rw [this]⟩
    obtain ⟨rfl, r, hr⟩ := hcase
    rw [hq] at hlk
    rw [hr] at hlk
    have hres : Hid (res = some r) := hE.out.1 c r hr rfl
    clear hE hV hq
    go_enter Tryz.func200, Tryz.ntmps200
    go_wp2_with fail
    refine hlk.mono ?_
    rintro e w1 ⟨ho, rfl, j, hj, ha, h1⟩
    obtain ⟨hl, hc, ht⟩ := ha.cons
    have c1 : w1.cell? ⟨rb, 1, none⟩ = some (.int .i64 j) := cell_at h1 rfl
    have f1 : w1.frozen? ⟨rb, 1, none⟩ = false := Lib.frozen_of_heap h1 1
    clear hlk
    go_wp2_with fail
    go_end0
    exact ⟨ho.setCell (p := ⟨rb, 1, none⟩) (.inl rfl) _, rfl, j + 1, false, hl, set_at h1, .inl ⟨rfl, rfl, r, hres.out, ht⟩⟩
  · have hres : Hid (bad = true ∨ res = none) := by
      cases hb : bad with
      | true => exact .inl rfl
      | false =>
        refine .inr ?_
        subst hb
        cases hv : skipR u with
        | nil => exact hE.out.2.2 hv
        | cons d r =>
          rw [hv] at hq
          exact hE.out.2.1 d r hv (fun e => hq (by rw [e]; rfl))
    have hne : (lookV bad (skipR u) != (c.toNat : Int)) = true := by simp [hq]
    have hlow : 0 ≤ lookV bad (skipR u) ∧ lookV bad (skipR u) < 256 := by
      cases skipR u with
      | nil => simp [lookV]
      | cons d r =>
        have := UInt8.toNat_lt d
        simp only [lookV]
        split
        · omega
        · omega
    generalize lookV bad (skipR u) = lv at *
    clear hE hV hq
    go_enter Tryz.func200, Tryz.ntmps200
    go_wp2_with fail
    refine hlk.mono ?_
    rintro e w1 ⟨ho, rfl, j, hj, ha, h1⟩
    have c2 : w1.cell? ⟨rb, 2, none⟩ = some (.bool bad) := cell_at h1 rfl
    have f2 : w1.frozen? ⟨rb, 2, none⟩ = false := Lib.frozen_of_heap h1 2
    clear hlk
    go_wp2_with fail
    (try simp only [Exit.inBlock, Exit.then])
    refine bodyPost_ret (results_none rfl _ _ _) rfl ?_
    exact ⟨ho.setCell (p := ⟨rb, 2, none⟩) (.inl rfl) _, rfl, j, true, hj, set_bad h1, .inr ⟨rfl, hres.out⟩⟩

end Go.Proofs.YtpbbmagjhkakgaaGreatDoor
