/-
  Plain laws on decimal numerals: what is written is read again as the same number; no condition but those that stand in each theorem.
-/
import Derived.Test.YtpbbmagjhkakgaaGreatDoorPurePrint
namespace Go.Proofs.YtpbbmagjhkakgaaGreatDoor

/-- A byte that is a digit. -/
def isDig (c : UInt8) : Prop := 48 ≤ c.toNat ∧ c.toNat ≤ 57

theorem dig_toNat (n : Nat) (h : n < 10) : (UInt8.ofNat (48 + n)).toNat = 48 + n := by
  rw [UInt8.toNat_ofNat']; omega

theorem dec_ne (u : Nat) : Lib.decDigits u ≠ [] := by
  have h := Lib.decDigits_length u
  have p := Lib.nDigits_pos u
  intro e
  rw [e] at h
  simp at h
  omega

theorem dec_dig (u : Nat) : ∀ c, c ∈ Lib.decDigits u → isDig c := by
  induction u using Nat.strongRecOn with
  | _ u ih =>
    intro c hc
    rw [Lib.decDigits] at hc
    by_cases h : u < 10
    · rw [dif_pos h] at hc
      rw [List.mem_singleton] at hc
      subst hc
      unfold isDig
      rw [dig_toNat u h]; omega
    · rw [dif_neg h] at hc
      rcases List.mem_append.1 hc with hc | hc
      · exact ih (u / 10) (by omega) c hc
      · rw [List.mem_singleton] at hc
        subst hc
        unfold isDig
        rw [dig_toNat (u % 10) (by omega)]; omega

theorem parse_append (l m : List UInt8) : ∀ acc : Nat, ∀ a, Lib.parseUint10 acc l = .ok a → Lib.parseUint10 acc (l ++ m) = Lib.parseUint10 a m := by
  induction l with
  | nil => intro acc a h; simp only [Lib.parseUint10] at h; injection h with h; subst h; rfl
  | cons c l ih =>
    intro acc a h
    simp only [Lib.parseUint10, List.cons_append] at h ⊢
    split at h
    · split at h
      · cases h
      · split at h
        · cases h
        · rename_i h1 h2 h3
          rw [if_pos h1, if_neg h2, if_neg h3]
          exact ih _ _ h
    · cases h

theorem parse_dec (u : Nat) (hu : u ≤ 1000000000) : Lib.parseUint10 0 (Lib.decDigits u) = .ok u := by
  induction u using Nat.strongRecOn with
  | _ u ih =>
    rw [Lib.decDigits]
    by_cases h : u < 10
    · rw [dif_pos h]
      have e := dig_toNat u h
      simp only [Lib.parseUint10, e]
      rw [if_pos (by omega), if_neg (by omega), if_neg (by omega)]
      congr 1
      omega
    · rw [dif_neg h, parse_append _ _ _ _ (ih (u / 10) (by omega) (by omega))]
      have e := dig_toNat (u % 10) (by omega)
      simp only [Lib.parseUint10, e]
      rw [if_pos (by omega), if_neg (by omega), if_neg (by omega)]
      congr 1
      omega

theorem dec_head (u : Nat) (hu : 1 ≤ u) : (Lib.decDigits u).headD 0 ≠ 48 := by
  induction u using Nat.strongRecOn with
  | _ u ih =>
    rw [Lib.decDigits]
    by_cases h : u < 10
    · rw [dif_pos h]
      intro e
      have e2 := congrArg UInt8.toNat e
      simp only [List.headD_cons] at e2
      rw [dig_toNat u h] at e2
      have : (48 : UInt8).toNat = 48 := rfl
      omega
    · rw [dif_neg h]
      have hne := dec_ne (u / 10)
      have := ih (u / 10) (by omega) (by omega)
      cases hd : Lib.decDigits (u / 10) with
      | nil => exact absurd hd hne
      | cons a l => rw [hd] at this; simpa using this

theorem atoi_digits {l : List UInt8} (hne : l ≠ []) (hd : ∀ c, c ∈ l → isDig c) : Lib.atoiAll l = match Lib.parseUint10 0 l with
    | .ok u => if 9223372036854775808 ≤ u then .range else .ok (u : Int)
    | x => (match x with | .ok _ => .range | .range => .range | _ => Lib.atoiAll []) := by
  cases l with
  | nil => exact absurd rfl hne
  | cons c r =>
    have hc := hd c (by simp)
    unfold isDig at hc
    unfold Lib.atoiAll
    simp only
    rw [if_neg (by omega)]
    unfold Lib.parseMag
    rw [if_neg (by simp)]
    cases h : Lib.parseUint10 0 (c :: r) with
    | ok u =>
      have h45 : ¬ c.toNat = 45 := by omega
      simp only [h45, not_false_eq_true, true_and, false_and, if_false]
    | _ => rfl

theorem atoi_nonneg {l : List UInt8} (hne : l ≠ []) (hd : ∀ c, c ∈ l → isDig c) {v : Int} (h : Lib.atoiAll l = .ok v) : 0 ≤ v := by
  rw [atoi_digits hne hd] at h
  cases hp : Lib.parseUint10 0 l with
  | ok u =>
    rw [hp] at h
    simp only at h
    split at h
    · cases h
    · injection h with h; omega
  | range => rw [hp] at h; cases h
  | _ => rw [hp] at h; cases h

theorem atoi_dec (u : Nat) (hu : u ≤ 1000000000) : Lib.atoiAll (Lib.decDigits u) = .ok (u : Int) := by
  rw [atoi_digits (dec_ne u) (dec_dig u), parse_dec u hu]
  simp only
  rw [if_neg (by omega)]

theorem itoa_eq (v : Int) (h : 0 ≤ v) : Lib.itoa v = Lib.decDigits v.toNat := by unfold Lib.itoa; rw [if_neg (by omega)]

/-- What is written of a number is read again as it. -/
theorem numB_itoa (v : Int) (h0 : 0 ≤ v) (h1 : v ≤ 1000000) : numB ⟨(Lib.itoa v).toArray⟩ = some v := by
  rw [itoa_eq v h0]
  unfold numB
  rw [if_neg, atoi_dec v.toNat (by omega)]
  · have e : ((v.toNat : Nat) : Int) = v := by omega
    rw [e]
    show (if 1000000 < v then none else some v) = some v
    rw [if_neg (by omega)]
  · rintro ⟨hs, hh⟩
    by_cases hv : v.toNat < 10
    · rw [Lib.decDigits, dif_pos hv] at hs
      simp [ByteArray.size] at hs
    · exact dec_head v.toNat (by omega) hh

end Go.Proofs.YtpbbmagjhkakgaaGreatDoor
