/-
  Plain laws: the given reader's sentences against the program's: both have none, or the same one and what is left agrees; no condition but those that stand in each theorem.
-/
/-
  Plain laws: both readers read the same sentence off the front, or neither reads one; no condition but those that stand in each theorem.
-/
import Derived.Test.YtpbbmagjhkakgaaGreatDoorRefNextToRefParse
namespace Go.Proofs.YtpbbmagjhkakgaaGreatDoor
open Go.Deep (BT)

/-- A window, where the sign has one. -/
def windowR (op : Int) (u : List UInt8) : Option ((Int × Int) × List UInt8) :=
  if winB op then
    match expectR 91 u with
    | none => none
    | some t1 => match numAtR t1 with
      | none => none
      | some (a, t2) => match expectR 44 t2 with
        | none => none
        | some t3 => match numAtR t3 with
          | none => none
          | some (b, t4) => match expectR 93 t4 with
            | none => none
            | some t5 => if b < a then none else some ((a, b), t5)
  else some ((0, 0), u)

theorem window_agree {A : List Tok} {u : List UInt8} (h : Agree A u) {e : Tok} (he : e.sign = -1) (op : Int) :
    (windowR op u = none ∧ windowF op (A ++ [e]) = none) ∨ ∃ ab r A', windowR op u = some (ab, r) ∧ windowF op (A ++ [e]) = some (ab, A' ++ [e]) ∧ Agree A' r ∧ A'.length ≤ A.length ∧ r.length ≤ u.length := by
  unfold windowR windowF
  cases hw : winB op with
  | false => exact .inr ⟨(0, 0), u, A, rfl, rfl, h, Nat.le_refl _, Nat.le_refl _⟩
  | true =>
    simp only [if_true]
    have s91 : signF ((91 : UInt8).toNat : Int) = 91 := by decide
    have s44 : signF ((44 : UInt8).toNat : Int) = 44 := by decide
    have s93 : signF ((93 : UInt8).toNat : Int) = 93 := by decide
    have k1 := expect_agree h he 91 (by simp)
    rw [s91] at k1
    rcases k1 with ⟨x1, y1⟩ | ⟨r1, A1, x1, y1, l1⟩
    · rw [x1, y1]; exact .inl ⟨rfl, rfl⟩
    · rw [x1, y1]
      simp only
      rcases num_agree l1.1 he with ⟨x2, y2⟩ | ⟨a, r2, A2, x2, y2, l2⟩
      · rw [x2, y2]; exact .inl ⟨rfl, rfl⟩
      · rw [x2, y2]
        simp only
        have k3 := expect_agree l2.1 he 44 (by simp)
        rw [s44] at k3
        rcases k3 with ⟨x3, y3⟩ | ⟨r3, A3, x3, y3, l3⟩
        · rw [x3, y3]; exact .inl ⟨rfl, rfl⟩
        · rw [x3, y3]
          simp only
          rcases num_agree l3.1 he with ⟨x4, y4⟩ | ⟨b, r4, A4, x4, y4, l4⟩
          · rw [x4, y4]; exact .inl ⟨rfl, rfl⟩
          · rw [x4, y4]
            simp only
            have k5 := expect_agree l4.1 he 93 (by simp)
            rw [s93] at k5
            rcases k5 with ⟨x5, y5⟩ | ⟨r5, A5, x5, y5, l5⟩
            · rw [x5, y5]; exact .inl ⟨rfl, rfl⟩
            · rw [x5, y5]
              simp only
              have l := (((l1.trans l2).trans l3).trans l4).trans l5
              by_cases hab : b < a
              · rw [if_pos hab, if_pos hab]; exact .inl ⟨rfl, rfl⟩
              · rw [if_neg hab, if_neg hab]; exact .inr ⟨(a, b), r5, A5, rfl, rfl, l.1, Nat.le_of_lt l.2.1, Nat.le_of_lt l.2.2⟩

/-- A word as a sentence. -/
def wordT (w : List UInt8) : Option (BT Pay) :=
  if w = [116, 114, 117, 101] then some (mk 116 ByteArray.empty 0 0 .nil .nil)
  else if 8 < w.length then none
  else some (mk 97 ⟨w.toArray⟩ 0 0 .nil .nil)

theorem word_eq (t : Tok) : wordF t = wordT t.word.data.toList := by
  have hsz : t.word.size = t.word.data.toList.length := by rw [Array.length_toList]; rfl
  unfold wordF wordT
  by_cases h : t.word = trueB
  · rw [if_pos h, if_pos (by rw [h]; rfl)]
  · have h2 : ¬ t.word.data.toList = [116, 114, 117, 101] := fun e => h (bytes_ext (by rw [e]; rfl))
    rw [if_neg h, if_neg h2, hsz]

def singleR (f : List UInt8 → Option (BT Pay × List UInt8)) (op : Int) (u : List UInt8) : Option (BT Pay × List UInt8) :=
  match windowR op u with
  | none => none
  | some ((a, b), t1) => match f t1 with
    | none => none
    | some (p, t2) => some (mk op ByteArray.empty a b p .nil, t2)

def pairR (f : List UInt8 → Option (BT Pay × List UInt8)) (u : List UInt8) : Option (BT Pay × List UInt8) :=
  match f u with
  | none => none
  | some (p, t1) => match skipR t1 with
    | [] => none
    | k :: t2 =>
      if k = 38 ∨ k = 124 ∨ k = 83 then
        match windowR (signF (k.toNat : Int)) t2 with
        | none => none
        | some ((a, b), t3) => match f t3 with
          | none => none
          | some (q, t4) => match expectR 41 t4 with
            | none => none
            | some t5 => some (mk (signF (k.toNat : Int)) ByteArray.empty a b p q, t5)
      else none

/-- A sentence off the front of the signs; n: more than there are signs. -/
def sentR : Nat → List UInt8 → Option (BT Pay × List UInt8)
  | 0, _ => none
  | n + 1, u => match skipR u with
    | [] => none
    | c :: r =>
      if signF (c.toNat : Int) = 97 then (wordT (wordR 97 (c :: r))).map fun x => (x, restR 97 (c :: r))
      else if c = 40 then pairR (sentR n) r
      else if c = 33 ∨ c = 89 ∨ c = 79 ∨ c = 72 then singleR (sentR n) (signF (c.toNat : Int)) r
      else none

/-- How both go. -/
def Both (x : Option (BT Pay × List UInt8)) (y : Option (BT Pay × List Tok)) (A : List Tok) (u : List UInt8) (e : Tok) : Prop :=
  (x = none ∧ y = none) ∨ ∃ z r A', x = some (z, r) ∧ y = some (z, A' ++ [e]) ∧ Less A A' u r

theorem sign_two {k : UInt8} (hk : k.toNat < 128) : (signF (k.toNat : Int) = 8743 ∨ signF (k.toNat : Int) = 8744 ∨ signF (k.toNat : Int) = 83) ↔ (k = 38 ∨ k = 124 ∨ k = 83) := by
  have hall : ∀ n : Nat, n < 128 → ((signF (n : Int) = 8743 ∨ signF (n : Int) = 8744 ∨ signF (n : Int) = 83) ↔ (n = 38 ∨ n = 124 ∨ n = 83)) := by decide
  rw [hall k.toNat hk, ← UInt8.toNat_inj, ← UInt8.toNat_inj, ← UInt8.toNat_inj]
  exact Iff.rfl

theorem sign_one {k : UInt8} (hk : k.toNat < 128) : (signF (k.toNat : Int) = 172 ∨ signF (k.toNat : Int) = 89 ∨ signF (k.toNat : Int) = 79 ∨ signF (k.toNat : Int) = 72) ↔ (k = 33 ∨ k = 89 ∨ k = 79 ∨ k = 72) := by
  have hall : ∀ n : Nat, n < 128 → ((signF (n : Int) = 172 ∨ signF (n : Int) = 89 ∨ signF (n : Int) = 79 ∨ signF (n : Int) = 72) ↔ (n = 33 ∨ n = 89 ∨ n = 79 ∨ n = 72)) := by decide
  rw [hall k.toNat hk, ← UInt8.toNat_inj, ← UInt8.toNat_inj, ← UInt8.toNat_inj, ← UInt8.toNat_inj]
  exact Iff.rfl

theorem sign_open {k : UInt8} (hk : k.toNat < 128) : signF (k.toNat : Int) = 40 ↔ k = 40 := by
  have hall : ∀ n : Nat, n < 128 → (signF (n : Int) = 40 ↔ n = 40) := by decide
  rw [hall k.toNat hk, ← UInt8.toNat_inj]
  exact Iff.rfl

/-- The next token, whatever it is, with its sign. -/
theorem next_agree {A : List Tok} {u : List UInt8} (h : Agree A u) {e : Tok} (he : e.sign = -1) :
    (skipR u = [] ∧ takeF (A ++ [e]) = (e, [e])) ∨ ∃ c r t A', skipR u = c :: r ∧ c.toNat < 128 ∧ A = t :: A' ∧ takeF (A ++ [e]) = (t, A' ++ [e]) ∧ t.sign = signF (c.toNat : Int) ∧ (c :: r).length ≤ u.length ∧
      ((joinsB (signF (c.toNat : Int)) = true ∧ t.word.data.toList = wordR (signF (c.toNat : Int)) (c :: r) ∧ Agree A' (restR (signF (c.toNat : Int)) (c :: r))) ∨ (joinsB (signF (c.toNat : Int)) = false ∧ Agree A' r)) := by
  obtain ⟨h1, h2, h3⟩ := skip_agree h
  cases hs : skipR u with
  | nil =>
    rw [hs] at h1
    obtain rfl := nil_agree h1
    exact .inl ⟨rfl, take_end he⟩
  | cons d r =>
    rw [hs] at h1 h3
    have hd := h2 d r hs
    have hsm : d.toNat < 128 := h1.2.2.1
    cases hjd : joinsB (signF (d.toNat : Int)) with
    | true =>
      obtain ⟨t, A', rfl, s1, s2, s3, _⟩ := word_agree (signF (d.toNat : Int)) h1 rfl hjd
      exact .inr ⟨d, r, t, A', rfl, hsm, rfl, take_front s1, s1, h3, .inl ⟨hjd, s2, s3⟩⟩
    | false =>
      obtain ⟨t, A', rfl, s1, s3⟩ := sign_agree h1 hd hjd
      exact .inr ⟨d, r, t, A', rfl, hsm, rfl, take_front s1, s1, h3, .inr ⟨hjd, s3⟩⟩

end Go.Proofs.YtpbbmagjhkakgaaGreatDoor

namespace Go.Proofs.YtpbbmagjhkakgaaGreatDoor
open Go.Deep (BT)

/-- Two readers go alike on what is shorter than these bounds. -/
def Alike (f : List UInt8 → Option (BT Pay × List UInt8)) (g : List Tok → Option (BT Pay × List Tok)) (n m : Nat) (e : Tok) : Prop :=
  ∀ (B : List Tok) (v : List UInt8), Agree B v → v.length < n → B.length < m → Both (f v) (g (B ++ [e])) B v e

theorem single_agree {f : List UInt8 → Option (BT Pay × List UInt8)} {g : List Tok → Option (BT Pay × List Tok)} {n m : Nat} {e : Tok} (he : e.sign = -1) (hf : Alike f g n m e) (op : Int) {A : List Tok} {u : List UInt8} (h : Agree A u) (hn : u.length < n) (hm : A.length < m) :
    Both (singleR f op u) (singleF g op (A ++ [e])) A u e := by
  unfold singleR singleF
  rcases window_agree h he op with ⟨x1, y1⟩ | ⟨⟨a, b⟩, r1, A1, x1, y1, g1, l1, k1⟩
  · rw [x1, y1]; exact .inl ⟨rfl, rfl⟩
  · rw [x1, y1]
    simp only
    rcases hf A1 r1 g1 (by omega) (by omega) with ⟨x2, y2⟩ | ⟨p, r2, A2, x2, y2, l2⟩
    · rw [x2, y2]; exact .inl ⟨rfl, rfl⟩
    · rw [x2, y2]
      exact .inr ⟨_, r2, A2, rfl, rfl, l2.1, by have := l2.2.1; omega, by have := l2.2.2; omega⟩

theorem pair_agree {f : List UInt8 → Option (BT Pay × List UInt8)} {g : List Tok → Option (BT Pay × List Tok)} {n m : Nat} {e : Tok} (he : e.sign = -1) (hf : Alike f g n m e) {A : List Tok} {u : List UInt8} (h : Agree A u) (hn : u.length < n) (hm : A.length < m) :
    Both (pairR f u) (pairF g (A ++ [e])) A u e := by
  unfold pairR pairF
  rcases hf A u h hn hm with ⟨x1, y1⟩ | ⟨p, r1, A1, x1, y1, l1⟩
  · rw [x1, y1]; exact .inl ⟨rfl, rfl⟩
  · rw [x1, y1]
    simp only
    have n1 := l1.2.1
    have n2 := l1.2.2
    rcases next_agree l1.1 he with ⟨hs, ht⟩ | ⟨k, r2, t, A2, hs, hk, rfl, ht, s1, hlen, hn2⟩
    · rw [hs, ht]
      simp only
      rw [if_neg (by rw [he]; decide)]
      exact .inl ⟨rfl, rfl⟩
    · rw [hs, ht]
      simp only
      rw [s1]
      by_cases hk2 : k = 38 ∨ k = 124 ∨ k = 83
      · rw [if_pos hk2, if_pos ((sign_two hk).2 hk2)]
        have g2 : Agree A2 r2 := by
          rcases hn2 with ⟨hj, _⟩ | ⟨_, g2⟩
          · exfalso
            rcases hk2 with rfl | rfl | rfl <;> exact absurd hj (by decide)
          · exact g2
        simp only [List.length_cons] at n1 hlen
        rcases window_agree g2 he (signF (k.toNat : Int)) with ⟨x3, y3⟩ | ⟨⟨a, b⟩, r3, A3, x3, y3, g3, l3, k3⟩
        · rw [x3, y3]; exact .inl ⟨rfl, rfl⟩
        · rw [x3, y3]
          simp only
          rcases hf A3 r3 g3 (by omega) (by omega) with ⟨x4, y4⟩ | ⟨q, r4, A4, x4, y4, l4⟩
          · rw [x4, y4]; exact .inl ⟨rfl, rfl⟩
          · rw [x4, y4]
            simp only
            have n3 := l4.2.1
            have n4 := l4.2.2
            have s41 : signF ((41 : UInt8).toNat : Int) = 41 := by decide
            have k5 := expect_agree l4.1 he 41 (by simp)
            rw [s41] at k5
            rcases k5 with ⟨x5, y5⟩ | ⟨r5, A5, x5, y5, l5⟩
            · rw [x5, y5]; exact .inl ⟨rfl, rfl⟩
            · rw [x5, y5]
              exact .inr ⟨_, r5, A5, rfl, rfl, l5.1, by have := l5.2.1; omega, by have := l5.2.2; omega⟩
      · rw [if_neg hk2, if_neg (fun x => hk2 ((sign_two hk).1 x))]
        exact .inl ⟨rfl, rfl⟩

/-- BOTH READERS READ ALIKE. -/
theorem sent_agree {e : Tok} (he : e.sign = -1) : ∀ (n m : Nat), Alike (sentR n) (parseF m) n m e := by
  intro n
  induction n with
  | zero => intro m B v _ hv _; exact absurd hv (Nat.not_lt_zero _)
  | succ n ih =>
    intro m A u h hn hm
    obtain ⟨m, rfl⟩ : ∃ k, m = k + 1 := ⟨m - 1, by omega⟩
    show Both (sentR (n + 1) u) (stepF (parseF m) (A ++ [e])) A u e
    unfold stepF
    rcases next_agree h he with ⟨hs, ht⟩ | ⟨c, r, t, A', hs, hc, rfl, ht, s1, hlen, hn2⟩
    · simp only [sentR]
      rw [hs, ht]
      simp only
      rw [if_neg (by rw [he]; decide), if_neg (by rw [he]; decide), if_neg (by rw [he]; decide)]
      exact .inl ⟨rfl, rfl⟩
    · simp only [sentR]
      rw [hs, ht]
      simp only
      rw [s1]
      simp only [List.length_cons] at hm hlen
      by_cases h97 : signF (c.toNat : Int) = 97
      · rw [if_pos h97, if_pos h97]
        rcases hn2 with ⟨_, w1, w2⟩ | ⟨hj, _⟩
        · rw [h97] at w1 w2
          rw [word_eq t, w1]
          cases wordT (wordR 97 (c :: r)) with
          | none => exact .inl ⟨rfl, rfl⟩
          | some x => exact .inr ⟨x, _, A', rfl, rfl, w2, by simp, by have := restR_lt (r := r) h97; simp only [List.length_cons] at this; omega⟩
        · rw [h97] at hj
          exact absurd hj (by decide)
      · rw [if_neg h97, if_neg h97]
        by_cases h40 : c = 40
        · rw [if_pos h40, if_pos ((sign_open hc).2 h40)]
          rcases hn2 with ⟨hj, _⟩ | ⟨_, g2⟩
          · rw [h40] at hj
            exact absurd hj (by decide)
          · rcases pair_agree he (ih m) g2 (by omega) (by omega) with ⟨x1, y1⟩ | ⟨x, r1, A1, x1, y1, l1⟩
            · rw [x1, y1]; exact .inl ⟨rfl, rfl⟩
            · rw [x1, y1]
              exact .inr ⟨x, r1, A1, rfl, rfl, l1.1, by have := l1.2.1; simp; omega, by have := l1.2.2; omega⟩
        · rw [if_neg h40, if_neg (fun x => h40 ((sign_open hc).1 x))]
          by_cases h1 : c = 33 ∨ c = 89 ∨ c = 79 ∨ c = 72
          · rw [if_pos h1, if_pos ((sign_one hc).2 h1)]
            rcases hn2 with ⟨hj, _⟩ | ⟨_, g2⟩
            · exfalso
              rcases h1 with rfl | rfl | rfl | rfl <;> exact absurd hj (by decide)
            · rcases single_agree he (ih m) (signF (c.toNat : Int)) g2 (by omega) (by omega) with ⟨x1, y1⟩ | ⟨x, r1, A1, x1, y1, l1⟩
              · rw [x1, y1]; exact .inl ⟨rfl, rfl⟩
              · rw [x1, y1]
                exact .inr ⟨x, r1, A1, rfl, rfl, l1.1, by have := l1.2.1; simp; omega, by have := l1.2.2; omega⟩
          · rw [if_neg h1, if_neg (fun x => h1 ((sign_one hc).1 x))]
            exact .inl ⟨rfl, rfl⟩

end Go.Proofs.YtpbbmagjhkakgaaGreatDoor
