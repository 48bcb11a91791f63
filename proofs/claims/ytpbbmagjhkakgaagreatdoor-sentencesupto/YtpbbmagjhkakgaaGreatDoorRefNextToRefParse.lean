/-
  Plain laws: what stands next in a list of signs against the next token; the brackets, the commas and the numbers; no condition but those that stand in each theorem.
-/
/-
  Plain laws: the given reader's brackets, numbers and windows against the program's; no condition but those that stand in each theorem.
-/
import Derived.Test.YtpbbmagjhkakgaaGreatDoorRefTokToRefNum
namespace Go.Proofs.YtpbbmagjhkakgaaGreatDoor

/-- No two blanks in a row; small bytes alone. -/
def NB : List UInt8 → Prop
  | [] => True
  | c :: r => (c = 32 → r.head? ≠ some 32) ∧ (c.toNat < 128 ∧ NB r)

theorem NB.tail {c : UInt8} {r : List UInt8} (h : NB (c :: r)) : NB r := h.2.2

theorem NB.drop : ∀ {w r : List UInt8}, NB (w ++ r) → NB r
  | [], _, h => h
  | _ :: w, _, h => NB.drop (w := w) h.2.2

/-- One blank is skipped. -/
def skipR : List UInt8 → List UInt8
  | [] => []
  | c :: r => if c = 32 then r else c :: r

/-- These tokens are those of these signs. -/
def Agree (A : List Tok) (u : List UInt8) : Prop := A.map strip2 = tokF u ∧ NB u

theorem skip_agree {A : List Tok} {u : List UInt8} (h : Agree A u) : Agree A (skipR u) ∧ (∀ c r, skipR u = c :: r → c ≠ 32) ∧ (skipR u).length ≤ u.length := by
  obtain ⟨h1, h2⟩ := h
  cases u with
  | nil => exact ⟨⟨h1, h2⟩, fun c r e => (by cases e), Nat.le_refl _⟩
  | cons c r =>
    by_cases hc : c = 32
    · have e : skipR (c :: r) = r := if_pos hc
      rw [e]
      subst hc
      refine ⟨⟨h1, h2.2.2⟩, fun d r2 e2 e3 => ?_, by simp⟩
      subst e2
      exact h2.1 rfl (by rw [e3]; rfl)
    · have e : skipR (c :: r) = c :: r := if_neg hc
      rw [e]
      exact ⟨⟨h1, h2⟩, fun d r2 e2 e3 => hc (by injection e2 with e2 _; rw [e2]; exact e3), Nat.le_refl _⟩

theorem nil_agree {A : List Tok} (h : Agree A []) : A = [] := by
  have h1 : A.map strip2 = [] := h.1
  simpa using h1

theorem sign_agree {A : List Tok} {c : UInt8} {r : List UInt8} (h : Agree A (c :: r)) (hc : c ≠ 32) (hj : joinsB (signF (c.toNat : Int)) = false) : ∃ t A', A = t :: A' ∧ t.sign = signF (c.toNat : Int) ∧ Agree A' r := by
  have h1 := h.1
  rw [tokF_sign c r hc hj] at h1
  cases A with
  | nil => cases h1
  | cons t A' =>
    simp only [List.map_cons, List.cons.injEq] at h1
    exact ⟨t, A', rfl, congrArg Prod.fst h1.1, h1.2, h.2.2.2⟩

/-- The letters of one kind at the front. -/
def wordR (sg : Int) (u : List UInt8) : List UInt8 := u.takeWhile fun c => signF (c.toNat : Int) == sg
def restR (sg : Int) (u : List UInt8) : List UInt8 := u.dropWhile fun c => signF (c.toNat : Int) == sg

theorem wordR_mem (sg : Int) : ∀ (u : List UInt8) (x : UInt8), x ∈ wordR sg u → signF (x.toNat : Int) = sg := by
  intro u
  induction u with
  | nil => intro x hx; cases hx
  | cons c r ih =>
    intro x hx
    unfold wordR at hx
    rw [List.takeWhile_cons] at hx
    by_cases hc : signF (c.toNat : Int) = sg
    · simp only [hc, beq_self_eq_true, if_true] at hx
      rcases List.mem_cons.1 hx with rfl | hx
      · exact hc
      · exact ih x hx
    · have hf : (signF (c.toNat : Int) == sg) = false := by simpa using hc
      simp only [hf] at hx
      cases hx

theorem word_agree {A : List Tok} {c : UInt8} {r : List UInt8} (sg : Int) (h : Agree A (c :: r)) (hs : signF (c.toNat : Int) = sg) (hj : joinsB sg = true) : ∃ t A', A = t :: A' ∧ t.sign = sg ∧ t.word.data.toList = wordR sg (c :: r) ∧ Agree A' (restR sg (c :: r)) ∧ (∀ x, x ∈ wordR sg (c :: r) → signF (x.toNat : Int) = sg) := by
  have hw : ∀ x, x ∈ wordR sg (c :: r) → signF (x.toNat : Int) = sg := by
    intro x hx
    exact wordR_mem sg _ x hx
  have e0 : wordR sg (c :: r) = c :: wordR sg r := by unfold wordR; rw [List.takeWhile_cons]; simp [hs]
  have e1 : c :: r = (c :: wordR sg r) ++ restR sg r := by
    unfold wordR restR
    rw [List.cons_append, List.takeWhile_append_dropWhile]
  have e2 : restR sg (c :: r) = restR sg r := by unfold restR; rw [List.dropWhile_cons]; simp [hs]
  have hu : ∀ x, (restR sg r).head? = some x → signF (x.toNat : Int) ≠ sg := by
    intro x hx
    unfold restR at hx
    have := List.head?_dropWhile_not (fun c : UInt8 => signF (c.toNat : Int) == sg) r
    rw [hx] at this
    simpa using this
  have h1 := h.1
  rw [e1, tokF_word sg hj c (wordR sg r) (restR sg r) (by rw [← e0]; exact hw) hu] at h1
  have hnb : NB (restR sg r) := by
    have h2 := h.2
    rw [e1] at h2
    exact NB.drop h2
  cases A with
  | nil => cases h1
  | cons t A' =>
    simp only [List.map_cons, List.cons.injEq] at h1
    have s1 : t.sign = sg := congrArg Prod.fst h1.1
    have s2 : (if joinsB t.sign = true then t.word.data.toList else []) = c :: wordR sg r := congrArg Prod.snd h1.1
    rw [s1, if_pos hj] at s2
    exact ⟨t, A', rfl, s1, by rw [e0]; exact s2, by rw [e2]; exact ⟨h1.2, hnb⟩, hw⟩

end Go.Proofs.YtpbbmagjhkakgaaGreatDoor

namespace Go.Proofs.YtpbbmagjhkakgaaGreatDoor
open Go.Deep (BT)

/-- The next sign must be this one. -/
def expectR (c : UInt8) (u : List UInt8) : Option (List UInt8) := match skipR u with
  | [] => none
  | d :: r => if d = c then some r else none

/-- Both have gone on alike. -/
def Less (A A' : List Tok) (u r : List UInt8) : Prop := Agree A' r ∧ A'.length < A.length ∧ r.length < u.length

theorem Less.trans {A B C : List Tok} {u v r : List UInt8} (h : Less A B u v) (k : Less B C v r) : Less A C u r := ⟨k.1, by have := h.2.1; have := k.2.1; omega, by have := h.2.2; have := k.2.2; omega⟩

theorem take_end {e : Tok} (he : e.sign = -1) : takeF ([] ++ [e]) = (e, [e]) := by simp [takeF, he]

theorem signF_ne1 (r : Int) : signF r ≠ -1 := by
  rcases signF_ne r with h | h
  · exact h
  · omega

theorem take_front {t e : Tok} {A : List Tok} {r : Int} (h : t.sign = signF r) : takeF (t :: A ++ [e]) = (t, A ++ [e]) := take_tok h (signF_ne1 r)

theorem bracket_sign {d : UInt8} {c : UInt8} (hc : c = 91 ∨ c = 44 ∨ c = 93 ∨ c = 41) (h : signF (d.toNat : Int) = signF (c.toNat : Int)) : d = c := by
  have e : d.toNat = c.toNat := by
    rcases hc with rfl | rfl | rfl | rfl
    all_goals
      have e2 : ∀ z : Int, signF (d.toNat : Int) = z → signF (d.toNat : Int) = z := fun _ h => h
      unfold signF at h
      simp at h
      repeat' split at h
      all_goals first | omega | (simp; omega)
  exact UInt8.toNat_inj.1 e

theorem bracket_alone {c : UInt8} (hc : c = 91 ∨ c = 44 ∨ c = 93 ∨ c = 41) : joinsB (signF (c.toNat : Int)) = false ∧ c ≠ 32 := by
  rcases hc with rfl | rfl | rfl | rfl <;> decide

theorem expect_agree {A : List Tok} {u : List UInt8} (h : Agree A u) {e : Tok} (he : e.sign = -1) (c : UInt8) (hc : c = 91 ∨ c = 44 ∨ c = 93 ∨ c = 41) :
    (expectR c u = none ∧ expectF (signF (c.toNat : Int)) (A ++ [e]) = none) ∨ ∃ r A', expectR c u = some r ∧ expectF (signF (c.toNat : Int)) (A ++ [e]) = some (A' ++ [e]) ∧ Less A A' u r := by
  obtain ⟨h1, h2, h3⟩ := skip_agree h
  obtain ⟨hj, _⟩ := bracket_alone hc
  unfold expectR expectF
  cases hs : skipR u with
  | nil =>
    rw [hs] at h1
    obtain rfl := nil_agree h1
    refine .inl ⟨rfl, ?_⟩
    rw [take_end he, if_neg]
    rw [he]
    exact fun e2 => signF_ne1 _ e2.symm
  | cons d r =>
    rw [hs] at h1 h3
    have hd := h2 d r hs
    cases hjd : joinsB (signF (d.toNat : Int)) with
    | true =>
      obtain ⟨t, A', rfl, s1, _, _, _⟩ := word_agree (signF (d.toNat : Int)) h1 rfl hjd
      have hne : d ≠ c := by intro e2; rw [e2, hj] at hjd; cases hjd
      refine .inl ⟨if_neg hne, ?_⟩
      rw [take_front s1, if_neg]
      rw [s1]
      exact fun e2 => hne (bracket_sign hc e2)
    | false =>
      obtain ⟨t, A', rfl, s1, h4⟩ := sign_agree h1 hd hjd
      rw [take_front s1]
      by_cases hdc : d = c
      · refine .inr ⟨r, A', if_pos hdc, ?_, h4, by simp, by simp at h3; omega⟩
        rw [if_pos]
        rw [s1, hdc]
      · refine .inl ⟨if_neg hdc, ?_⟩
        rw [if_neg]
        rw [s1]
        exact fun e2 => hdc (bracket_sign hc e2)

/-- A number off the front. -/
def numAtR (u : List UInt8) : Option (Int × List UInt8) := match skipR u with
  | [] => none
  | c :: r => if signF (c.toNat : Int) = 48 then (numR (wordR 48 (c :: r))).map fun v => (v, restR 48 (c :: r)) else none

theorem restR_lt {sg : Int} {c : UInt8} {r : List UInt8} (h : signF (c.toNat : Int) = sg) : (restR sg (c :: r)).length < (c :: r).length := by
  have e2 : restR sg (c :: r) = restR sg r := by unfold restR; rw [List.dropWhile_cons]; simp [h]
  rw [e2]
  have : (restR sg r).length ≤ r.length := by unfold restR; exact (List.dropWhile_sublist _).length_le
  simp; omega

theorem num_agree {A : List Tok} {u : List UInt8} (h : Agree A u) {e : Tok} (he : e.sign = -1) :
    (numAtR u = none ∧ numF (A ++ [e]) = none) ∨ ∃ v r A', numAtR u = some (v, r) ∧ numF (A ++ [e]) = some (v, A' ++ [e]) ∧ Less A A' u r := by
  obtain ⟨h1, h2, h3⟩ := skip_agree h
  unfold numAtR numF
  cases hs : skipR u with
  | nil =>
    rw [hs] at h1
    obtain rfl := nil_agree h1
    refine .inl ⟨rfl, ?_⟩
    rw [take_end he, if_neg (by rw [he]; decide)]
  | cons d r =>
    rw [hs] at h1 h3
    have hd := h2 d r hs
    simp only
    by_cases h48 : signF (d.toNat : Int) = 48
    · obtain ⟨t, A', rfl, s1, s2, s3, s4⟩ := word_agree 48 h1 h48 (by decide)
      have hne : t.word.data.toList ≠ [] := by rw [s2]; unfold wordR; rw [List.takeWhile_cons]; simp [h48]
      have hdig : ∀ c, c ∈ t.word.data.toList → isDig c := by
        intro c hc
        rw [s2] at hc
        exact byte_dig rfl (signF_48 (s4 c hc))
      rw [take_front (s1.trans h48.symm), if_pos h48, if_pos s1]
      show _ ∨ _
      simp only
      rw [num_eq t.word hne hdig, s2]
      cases numR (wordR 48 (d :: r)) with
      | none => exact .inl ⟨rfl, rfl⟩
      | some v => exact .inr ⟨v, _, A', rfl, rfl, s3, by simp, by have := restR_lt (r := r) h48; omega⟩
    · refine .inl ⟨if_neg h48, ?_⟩
      cases hjd : joinsB (signF (d.toNat : Int)) with
      | true =>
        obtain ⟨t, A', rfl, s1, _, _, _⟩ := word_agree (signF (d.toNat : Int)) h1 rfl hjd
        rw [take_front s1, if_neg (by rw [s1]; exact h48)]
      | false =>
        obtain ⟨t, A', rfl, s1, _⟩ := sign_agree h1 hd hjd
        rw [take_front s1, if_neg (by rw [s1]; exact h48)]

end Go.Proofs.YtpbbmagjhkakgaaGreatDoor
