/-
  Plain laws: the tokens of a list of signs, taken off its front: a blank, a sign that stands alone, a word; no condition but those that stand in each theorem.
-/
/-
  Plain laws: the given reader's numbers are the program's; for every word of digits.
-/
import Derived.Test.YtpbbmagjhkakgaaGreatDoorRefSignsToRefScan
import Derived.Test.YtpbbmagjhkakgaaGreatDoorPureEndsToFace2
namespace Go.Proofs.YtpbbmagjhkakgaaGreatDoor

/-- The tokens of a list of signs. -/
def tokF (u : List UInt8) : List (Int × List UInt8) := (tokL u).1

theorem step_front (T : List (Int × List UInt8)) (t : Int × List UInt8) (last : Int) (c : UInt8) : ∃ t' T', stepT ([t], last) c = (t' :: T', (stepT ([t], last) c).2) ∧ stepT (T ++ [t], last) c = (T ++ (t' :: T'), (stepT ([t], last) c).2) ∧ ∃ T0 t0, t' :: T' = T0 ++ [t0] := by
  have e0 : ∀ p : List (Int × List UInt8) × Int, stepT p c = if c = 32 then (p.1, (32 : Int)) else if signF (c.toNat : Int) = p.2 ∧ joinsB (signF (c.toNat : Int)) = true then (match p.1.getLast? with | some t => p.1.dropLast ++ [(t.1, t.2 ++ [c])] | none => p.1, signF (c.toNat : Int)) else (p.1 ++ [(signF (c.toNat : Int), if joinsB (signF (c.toNat : Int)) = true then [c] else [])], signF (c.toNat : Int)) := fun _ => rfl
  by_cases h : c = 32
  · rw [e0, e0, if_pos h, if_pos h]
    exact ⟨t, [], rfl, rfl, [], t, rfl⟩
  · by_cases hj : signF (c.toNat : Int) = last ∧ joinsB (signF (c.toNat : Int)) = true
    · rw [e0, e0, if_neg h, if_neg h, if_pos hj, if_pos hj]
      exact ⟨(t.1, t.2 ++ [c]), [], rfl, by simp, [], _, rfl⟩
    · rw [e0, e0, if_neg h, if_neg h, if_neg hj, if_neg hj]
      exact ⟨t, [(signF (c.toNat : Int), if joinsB (signF (c.toNat : Int)) = true then [c] else [])], rfl, by simp, [t], _, rfl⟩

/-- What stands ahead of the last token stays. -/
theorem fold_front : ∀ (u : List UInt8) (T : List (Int × List UInt8)) (t : Int × List UInt8) (last : Int), u.foldl stepT (T ++ [t], last) = (T ++ (u.foldl stepT ([t], last)).1, (u.foldl stepT ([t], last)).2)
  | [], T, t, last => rfl
  | c :: u, T, t, last => by
    obtain ⟨t', T', h1, h2, T0, t0, h3⟩ := step_front T t last c
    simp only [List.foldl_cons]
    rw [h2, h1, h3, ← List.append_assoc, fold_front u (T ++ T0) t0, fold_front u T0 t0]
    simp

/-- Behind a sign that does not join, or a blank, the rest is told anew. -/
theorem fold_anew (T : List (Int × List UInt8)) (last : Int) (hl : joinsB last = false) : ∀ (u : List UInt8), (u.foldl stepT (T, last)).1 = T ++ tokF u
  | [] => by simp [tokF, tokL]
  | c :: u => by
    unfold tokF tokL
    simp only [List.foldl_cons]
    by_cases h : c = 32
    · have e1 : stepT (T, last) c = (T, 32) := by unfold stepT; rw [if_pos h]
      have e2 : stepT ([], 32) c = ([], 32) := by unfold stepT; rw [if_pos h]
      rw [e1, e2]
      exact fold_anew T 32 (by decide) u
    · have n1 : ¬ (signF (c.toNat : Int) = last ∧ joinsB (signF (c.toNat : Int)) = true) := by rintro ⟨a, b⟩; rw [a, hl] at b; cases b
      have n2 : ¬ (signF (c.toNat : Int) = 32 ∧ joinsB (signF (c.toNat : Int)) = true) := by rintro ⟨a, b⟩; rw [a] at b; exact absurd b (by decide)
      have e1 : stepT (T, last) c = (T ++ [(signF (c.toNat : Int), if joinsB (signF (c.toNat : Int)) = true then [c] else [])], signF (c.toNat : Int)) := by unfold stepT; rw [if_neg h, if_neg n1]
      have e2 : stepT ([], 32) c = ([(signF (c.toNat : Int), if joinsB (signF (c.toNat : Int)) = true then [c] else [])], signF (c.toNat : Int)) := by unfold stepT; rw [if_neg h, if_neg n2]; rfl
      rw [e1, e2, fold_front]

theorem tokF_blank (u : List UInt8) : tokF (32 :: u) = tokF u := rfl

/-- A sign that stands alone. -/
theorem tokF_sign (c : UInt8) (u : List UInt8) (h : c ≠ 32) (hj : joinsB (signF (c.toNat : Int)) = false) : tokF (c :: u) = (signF (c.toNat : Int), []) :: tokF u := by
  have n2 : ¬ (signF (c.toNat : Int) = 32 ∧ joinsB (signF (c.toNat : Int)) = true) := by rintro ⟨a, b⟩; rw [hj] at b; cases b
  have e2 : stepT ([], 32) c = ([(signF (c.toNat : Int), [])], signF (c.toNat : Int)) := by unfold stepT; rw [if_neg h, if_neg n2, hj]; rfl
  show (List.foldl stepT (stepT ([], 32) c) u).1 = _
  rw [e2, fold_anew _ _ hj]
  rfl

theorem sign_ne_blank {c : UInt8} {sg : Int} (h : signF (c.toNat : Int) = sg) (hj : joinsB sg = true) : c ≠ 32 := by
  intro e
  subst e
  subst h
  exact absurd hj (by decide)

/-- More letters of a word. -/
theorem fold_word (sg : Int) (hj : joinsB sg = true) : ∀ (v w : List UInt8), (∀ c, c ∈ v → signF (c.toNat : Int) = sg) → v.foldl stepT ([(sg, w)], sg) = ([(sg, w ++ v)], sg)
  | [], w, _ => by simp
  | c :: v, w, h => by
    have hc := h c (by simp)
    have e1 : stepT ([(sg, w)], sg) c = ([(sg, w ++ [c])], sg) := by
      unfold stepT
      rw [if_neg (sign_ne_blank hc hj), if_pos ⟨hc, by rw [hc]; exact hj⟩, hc]
      rfl
    simp only [List.foldl_cons]
    rw [e1, fold_word sg hj v (w ++ [c]) (fun x hx => h x (by simp [hx]))]
    simp

/-- A whole word. -/
theorem tokF_word (sg : Int) (hj : joinsB sg = true) (c : UInt8) (v u : List UInt8) (hv : ∀ x, x ∈ c :: v → signF (x.toNat : Int) = sg) (hu : ∀ x, u.head? = some x → signF (x.toNat : Int) ≠ sg) : tokF (c :: v ++ u) = (sg, c :: v) :: tokF u := by
  have hc := hv c (by simp)
  have n2 : ¬ (signF (c.toNat : Int) = 32 ∧ joinsB (signF (c.toNat : Int)) = true) := by rintro ⟨a, b⟩; rw [a] at b; exact absurd b (by decide)
  have e2 : stepT ([], 32) c = ([(sg, [c])], sg) := by unfold stepT; rw [if_neg (sign_ne_blank hc hj), if_neg n2, hc, if_pos hj]; rfl
  show (List.foldl stepT (stepT ([], 32) c) (v ++ u)).1 = _
  rw [e2, List.foldl_append, fold_word sg hj v [c] (fun x hx => hv x (by simp [hx]))]
  cases u with
  | nil => rfl
  | cons d u =>
    have hd := hu d rfl
    unfold tokF tokL
    simp only [List.foldl_cons]
    by_cases h : d = 32
    · have e3 : stepT ([(sg, [c] ++ v)], sg) d = ([(sg, [c] ++ v)], 32) := by unfold stepT; rw [if_pos h]
      have e4 : stepT ([], 32) d = ([], 32) := by unfold stepT; rw [if_pos h]
      rw [e3, e4, fold_anew _ 32 (by decide)]
      rfl
    · have n3 : ¬ (signF (d.toNat : Int) = sg ∧ joinsB (signF (d.toNat : Int)) = true) := fun x => hd x.1
      have n4 : ¬ (signF (d.toNat : Int) = 32 ∧ joinsB (signF (d.toNat : Int)) = true) := by rintro ⟨a, b⟩; rw [a] at b; exact absurd b (by decide)
      have e3 : stepT ([(sg, [c] ++ v)], sg) d = ([(sg, [c] ++ v)] ++ [(signF (d.toNat : Int), if joinsB (signF (d.toNat : Int)) = true then [d] else [])], signF (d.toNat : Int)) := by unfold stepT; rw [if_neg h, if_neg n3]
      have e4 : stepT ([], 32) d = ([(signF (d.toNat : Int), if joinsB (signF (d.toNat : Int)) = true then [d] else [])], signF (d.toNat : Int)) := by unfold stepT; rw [if_neg h, if_neg n4]; rfl
      rw [e3, e4, fold_front]
      rfl

end Go.Proofs.YtpbbmagjhkakgaaGreatDoor

namespace Go.Proofs.YtpbbmagjhkakgaaGreatDoor

/-- The number that digits tell, from one that is there on. -/
def valR (acc : Nat) : List UInt8 → Nat
  | [] => acc
  | c :: r => valR (10 * acc + (c.toNat - 48)) r

theorem valR_ge (l : List UInt8) : ∀ acc : Nat, acc ≤ valR acc l := by
  induction l with
  | nil => intro acc; exact Nat.le_refl acc
  | cons c r ih =>
    intro acc
    have h := ih (10 * acc + (c.toNat - 48))
    have e : valR acc (c :: r) = valR (10 * acc + (c.toNat - 48)) r := rfl
    rw [e]
    generalize valR (10 * acc + (c.toNat - 48)) r = y at *
    omega

theorem valR_big (l : List UInt8) : ∀ acc : Nat, acc * 10 ^ l.length ≤ valR acc l := by
  induction l with
  | nil => intro acc; exact Nat.le_of_eq (Nat.mul_one acc)
  | cons c r ih =>
    intro acc
    have h := ih (10 * acc + (c.toNat - 48))
    have e : valR acc (c :: r) = valR (10 * acc + (c.toNat - 48)) r := rfl
    rw [e, List.length_cons, Nat.pow_succ]
    refine Nat.le_trans ?_ h
    have e2 : acc * (10 ^ r.length * 10) = 10 * acc * 10 ^ r.length := by rw [Nat.mul_comm (10 ^ r.length) 10, ← Nat.mul_assoc, Nat.mul_comm acc 10]
    rw [e2]
    exact Nat.mul_le_mul_right _ (Nat.le_add_right _ _)

theorem parse_val : ∀ (l : List UInt8) (acc : Nat), (∀ c, c ∈ l → isDig c) → acc < 18446744073709551616 → (Lib.parseUint10 acc l = .ok (valR acc l) ∧ valR acc l < 18446744073709551616) ∨ (Lib.parseUint10 acc l = .range ∧ 18446744073709551616 ≤ valR acc l)
  | [], acc, _, ha => .inl ⟨rfl, ha⟩
  | c :: r, acc, h, ha => by
    have hc := h c (by simp)
    unfold isDig at hc
    have hg := valR_ge r (10 * acc + (c.toNat - 48))
    have e : Lib.parseUint10 acc (c :: r) = if 1844674407370955162 ≤ acc then .range else if 18446744073709551616 ≤ acc * 10 + (c.toNat - 48) then .range else Lib.parseUint10 (acc * 10 + (c.toNat - 48)) r := by
      simp only [Lib.parseUint10]
      rw [if_pos (by omega)]
    have e2 : valR acc (c :: r) = valR (10 * acc + (c.toNat - 48)) r := rfl
    rw [e, e2]
    by_cases h1 : 1844674407370955162 ≤ acc
    · rw [if_pos h1]; exact .inr ⟨rfl, by omega⟩
    · rw [if_neg h1]
      by_cases h2 : 18446744073709551616 ≤ acc * 10 + (c.toNat - 48)
      · rw [if_pos h2]; exact .inr ⟨rfl, by omega⟩
      · rw [if_neg h2, Nat.mul_comm acc 10]
        exact parse_val r _ (fun x hx => h x (by simp [hx])) (by omega)

/-- The given reader's number. -/
def numR (w : List UInt8) : Option Int :=
  if w.length = 0 ∨ 7 < w.length ∨ (w.headD 0 = 48 ∧ 1 < w.length) then none
  else if 1000000 < valR 0 w then none else some (valR 0 w : Int)

theorem num_eq (w : ByteArray) (hne : w.data.toList ≠ []) (hd : ∀ c, c ∈ w.data.toList → isDig c) : numB w = numR w.data.toList := by
  have hsz : w.size = w.data.toList.length := by rw [Array.length_toList]; rfl
  have hv := parse_val w.data.toList 0 hd (by omega)
  have ha := atoi_digits hne hd
  unfold numB numR
  rw [hsz]
  generalize w.data.toList = l at *
  have hl : l.length ≠ 0 := by intro h; exact hne (List.length_eq_zero_iff.1 h)
  have hok : okNum (Lib.atoiAll l) = if 1000000 < valR 0 l then none else some (valR 0 l : Int) := by
    rcases hv with ⟨h1, h2⟩ | ⟨h1, h2⟩
    · rw [ha, h1]
      simp only
      by_cases hv2 : 9223372036854775808 ≤ valR 0 l
      · rw [if_pos hv2, if_pos (by omega)]; rfl
      · rw [if_neg hv2]
        by_cases h6 : 1000000 < valR 0 l
        · rw [if_pos h6]; exact if_pos (by omega)
        · rw [if_neg h6]; exact if_neg (by omega)
    · rw [ha, h1, if_pos (by omega)]; rfl
  rw [hok]
  by_cases hz : 1 < l.length ∧ l.headD 0 = 48
  · rw [if_pos hz, if_pos (Or.inr (Or.inr ⟨hz.2, hz.1⟩))]
  · rw [if_neg hz]
    by_cases h7 : 7 < l.length
    · rw [if_pos (Or.inr (Or.inl h7) : l.length = 0 ∨ 7 < l.length ∨ (l.headD 0 = 48 ∧ 1 < l.length)), if_pos]
      cases l with
      | nil => exact absurd rfl hne
      | cons c r =>
        have hc := hd c (by simp)
        unfold isDig at hc
        have hc2 : c.toNat ≠ 48 := by
          intro e
          refine hz ⟨by simp at h7 ⊢; omega, ?_⟩
          show c = 48
          exact UInt8.toNat_inj.1 e
        have h1 := valR_big r (10 * 0 + (c.toNat - 48))
        have h2 : 10 ^ 7 ≤ 10 ^ r.length := Nat.pow_le_pow_right (by omega) (by simp at h7; omega)
        have h3 : 1 * 10 ^ r.length ≤ (10 * 0 + (c.toNat - 48)) * 10 ^ r.length := Nat.mul_le_mul_right _ (by omega)
        have e2 : valR 0 (c :: r) = valR (10 * 0 + (c.toNat - 48)) r := rfl
        rw [e2]
        omega
    · rw [if_neg (show ¬ (l.length = 0 ∨ 7 < l.length ∨ (l.headD 0 = 48 ∧ 1 < l.length)) from ?_)]
      rintro (h | h | h)
      · exact hl h
      · exact h7 h
      · exact hz ⟨h.2, h.1⟩

end Go.Proofs.YtpbbmagjhkakgaaGreatDoor
