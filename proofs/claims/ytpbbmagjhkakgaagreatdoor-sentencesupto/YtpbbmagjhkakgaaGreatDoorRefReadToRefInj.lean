/-
  Plain laws: the given reader's reading of a text is the program's; for every text.
-/
/-
  Plain laws: texts tell sentences apart; a core has no addresses; no condition but those that stand in each theorem.
-/
import Derived.Test.YtpbbmagjhkakgaaGreatDoorRefSentToRefSent2
import Derived.Test.YtpbbmagjhkakgaaGreatDoorPureEndsToFace2
namespace Go.Proofs.YtpbbmagjhkakgaaGreatDoor
open Go.Deep (BT)

theorem NB.snoc : ∀ {u : List UInt8} {c : UInt8}, NB u → c.toNat < 128 → (c = 32 → u.getLast? ≠ some 32) → NB (u ++ [c])
  | [], c, _, h, _ => ⟨fun _ e => (by cases e), h, trivial⟩
  | [d], c, hu, h, h2 => ⟨fun e1 e2 => (by
      have e3 : c = 32 := by simpa using e2
      exact h2 e3 (by rw [e1]; rfl)), hu.2.1, fun _ e => (by cases e), h, trivial⟩
  | d :: f :: u, c, hu, h, h2 => ⟨hu.1, hu.2.1, NB.snoc (u := f :: u) hu.2.2 h (fun e => by have := h2 e; simpa [List.getLast?_cons_cons] using this)⟩

theorem NB.blank {out : List UInt8} (h : NB out) : NB (blankB out) := by
  unfold blankB
  split
  · rename_i hb
    exact h.snoc (by decide) (fun _ => hb.2)
  · exact h

theorem plain_small {c : Nat} (h : plainB c = true) : c < 128 := by
  unfold plainB at h
  simp at h
  omega

theorem sig_nb (s : ByteArray) : ∀ (f i : Nat) (out u : List UInt8), NB out → sigB s f i out = some u → NB u := by
  intro f
  induction f with
  | zero =>
    intro i out u h e
    simp only [sigB] at e
    injection e with e
    subst e
    exact h
  | succ f ih =>
    intro i out u h e
    simp only [sigB] at e
    split at e
    · split at e
      · exact ih _ _ _ (h.snoc (by decide) (fun e => absurd e (by decide))) e
      · split at e
        · exact ih _ _ _ (h.snoc (by decide) (fun e => absurd e (by decide))) e
        · split at e
          · exact ih _ _ _ (h.snoc (by decide) (fun e => absurd e (by decide))) e
          · split at e
            · exact ih _ _ _ h.blank e
            · rename_i h32
              split at e
              · rename_i hp
                refine ih _ _ _ (h.snoc (plain_small hp) (fun e2 => absurd ?_ h32)) e
                unfold gB
                rw [e2]
                rfl
              · cases e
    · injection e with e
      subst e
      exact h

/-- The given reader's reading. -/
def readR (s : ByteArray) : Option (BT Pay) × Int :=
  match sigB s s.size 0 [] with
  | none => (none, 1)
  | some u => if 300 < s.size then (none, 1)
    else match sentR (u.length + 1) u with
      | none => (none, 1)
      | some (x, r) => if skipR r = [] then (if 12 < depthT x then (none, 2) else (some x, 0)) else (none, 1)

/-- BOTH READ THE SAME. -/
theorem read_eq (s : ByteArray) : readR s = readF s := by
  unfold readR readF
  by_cases hl : 300 < s.size
  · rw [if_pos hl]
    cases sigB s s.size 0 [] with
    | none => rfl
    | some u => simp only; rw [if_pos hl]
  · rw [if_neg hl]
    rcases scan_sig s s.size 0 32 [] [] (fun h => absurd h (by decide)) rfl rfl with ⟨h1, h2⟩ | ⟨A, u, h1, h2, h3⟩
    · rw [h1, h2]
    · rw [h1, h2]
      simp only
      rw [if_neg hl]
      have hag : Agree A u := ⟨h3, sig_nb s _ _ [] u (show NB [] from trivial) h2⟩
      have he : (endTok s).sign = -1 := rfl
      rcases sent_agree he (u.length + 1) (A ++ [endTok s]).length A u hag (by omega) (by simp) with ⟨x1, y1⟩ | ⟨x, r, A', x1, y1, l1⟩
      · rw [x1, y1]
      · rw [x1, y1]
        simp only
        rcases next_agree l1.1 he with ⟨hs, ht⟩ | ⟨c, r2, t, A2, hs, hc, rfl, ht, s1, _, _⟩
        · have e1 : expectF (-1) (A' ++ [endTok s]) = some [endTok s] := by unfold expectF; rw [ht, if_pos he]
          rw [if_pos hs, e1]
        · have e1 : expectF (-1) (t :: A2 ++ [endTok s]) = none := by unfold expectF; rw [ht, if_neg (by rw [s1]; exact signF_ne1 _)]
          rw [e1, hs]
          rfl

end Go.Proofs.YtpbbmagjhkakgaaGreatDoor

namespace Go.Proofs.YtpbbmagjhkakgaaGreatDoor
open Go.Deep (BT)

/-- What is scanned of a sentence's text. -/
theorem scan_print (x : BT Pay) (hg : Good x) : ∃ A, A.map strip = tk x ∧ scanF ⟨(printB x).toArray⟩ (printB x).length 0 32 [] = some (A ++ [endTok ⟨(printB x).toArray⟩]) := by
  have hs : (⟨(printB x).toArray⟩ : ByteArray).size = (printB x).length := by simp [ByteArray.size]
  obtain ⟨n, last', hn, hE⟩ := eats_tree (s := ⟨(printB x).toArray⟩) x hg 0 32 [] (by simp) (by decide)
  obtain ⟨A, hA, e⟩ := hE ((printB x).length - n) []
  have e0 : (printB x).length - n + n = (printB x).length := by omega
  rw [e0] at e
  refine ⟨A, hA, e.trans ?_⟩
  rw [scanF_end _ _ _ _ _ (by rw [hs]; omega), List.nil_append]

/-- TEXTS TELL SENTENCES APART. -/
theorem print_inj {x y : BT Pay} (gx : Good x) (gy : Good y) (zx : ZeroT x) (zy : ZeroT y) (h : printB x = printB y) : x = y := by
  obtain ⟨A, hA, e1⟩ := scan_print x gx
  obtain ⟨B, hB, e2⟩ := scan_print y gy
  rw [h] at e1
  rw [e1] at e2
  have e3 : A = B := by
    have := Option.some.inj e2
    exact List.append_cancel_right this
  subst e3
  have p1 := parse_tok x gx zx (max (depthT x) (depthT y)) (by omega) A [] hA
  have p2 := parse_tok y gy zy (max (depthT x) (depthT y)) (by omega) A [] hB
  rw [p1] at p2
  have := Option.some.inj p2
  exact congrArg Prod.fst this

theorem zero_not {x : BT Pay} (h : ZeroT x) : ZeroT (notT x) := by
  cases x with
  | nil => exact h
  | node b o a l r =>
    simp only [notT]
    split
    · exact h.2.2.1
    · exact ⟨rfl, rfl, h, trivial⟩

theorem zero_core : ∀ {x : BT Pay}, ZeroT x → ZeroT (coreT x) := by
  intro x
  induction x with
  | nil => intro h; exact h
  | node b o a l r il ir =>
    intro h
    have hl := il h.2.2.1
    have hr := ir h.2.2.2
    simp only [coreT]
    repeat' split
    · exact h
    · exact zero_not hl
    · exact zero_not ⟨rfl, rfl, zero_not hl, zero_not hr⟩
    · exact zero_not ⟨rfl, rfl, zero_not hl, trivial⟩
    · exact ⟨rfl, rfl, hl, trivial⟩
    · exact ⟨rfl, rfl, hl, hr⟩

end Go.Proofs.YtpbbmagjhkakgaaGreatDoor
