/-
  The plain functions on sentences: depth, reach; definitions and bounds; no condition but those that stand in each theorem.
-/
import Derived.Test.YtpbbmagjhkakgaaGreatDoorPureScan
namespace Go.Proofs.YtpbbmagjhkakgaaGreatDoor
open Go.Deep (BT)

/-- How deep a sentence is. -/
def depthT : BT Pay → Nat
  | .nil => 0
  | .node _ _ _ l r => 1 + max (depthT l) (depthT r)

/-- How far back it reaches. -/
def reachT : BT Pay → Int
  | .nil => 0
  | .node _ _ a l r => a.hi + max (reachT l) (reachT r)

/-- Each window is one that a sentence may have. -/
def WinOK : BT Pay → Prop
  | .nil => True
  | .node _ _ a l r => (0 ≤ a.lo ∧ a.lo ≤ a.hi ∧ a.hi ≤ 1000000) ∧ WinOK l ∧ WinOK r

theorem reachT_bound : ∀ {x : BT Pay}, WinOK x → 0 ≤ reachT x ∧ reachT x ≤ 1000000 * depthT x
  | .nil, _ => by simp [reachT, depthT]
  | .node _ _ a l r, ⟨h, hl, hr⟩ => by
    have h1 := reachT_bound hl
    have h2 := reachT_bound hr
    simp only [reachT, depthT]
    omega

/-- A reader of sentences that goes no deeper than n. -/
def Shallow (n : Nat) (f : List Tok → Option (BT Pay × List Tok)) : Prop := ∀ ts x r, f ts = some (x, r) → depthT x ≤ n

theorem shallow_step {n : Nat} {f : List Tok → Option (BT Pay × List Tok)} (hf : Shallow n f) : Shallow (n + 1) (stepF f) := by
  intro ts x r h
  unfold stepF at h
  split at h
  · cases hw : wordF (takeF ts).1 with
    | none => simp [hw] at h
    | some y =>
      simp [hw] at h
      obtain ⟨rfl, _⟩ := h
      unfold wordF at hw
      split at hw
      · injection hw with hw; subst hw; simp [mk, depthT]
      · split at hw
        · cases hw
        · injection hw with hw; subst hw; simp [mk, depthT]
  · split at h
    · unfold pairF at h
      cases h1 : f (takeF ts).2 with
      | none => simp [h1] at h
      | some y =>
        obtain ⟨p, t1⟩ := y
        have d1 := hf _ _ _ h1
        simp only [h1] at h
        split at h
        · cases h2 : windowF (takeF t1).1.sign (takeF t1).2 with
          | none => simp [h2] at h
          | some y =>
            obtain ⟨⟨a, b⟩, t2⟩ := y
            simp only [h2] at h
            cases h3 : f t2 with
            | none => simp [h3] at h
            | some z =>
              obtain ⟨q, t3⟩ := z
              have d2 := hf _ _ _ h3
              simp only [h3] at h
              cases h4 : expectF 41 t3 with
              | none => simp [h4] at h
              | some t4 =>
                simp only [h4] at h
                injection h with h; injection h with h _; subst h
                simp only [mk, depthT]; omega
        · cases h
    · split at h
      · unfold singleF at h
        cases h1 : windowF (takeF ts).1.sign (takeF ts).2 with
        | none => simp [h1] at h
        | some y =>
          obtain ⟨⟨a, b⟩, t1⟩ := y
          simp only [h1] at h
          cases h2 : f t1 with
          | none => simp [h2] at h
          | some z =>
            obtain ⟨p, t2⟩ := z
            have d1 := hf _ _ _ h2
            simp only [h2] at h
            injection h with h; injection h with h _; subst h
            simp only [mk, depthT]; omega
      · cases h

theorem shallow_parse : ∀ n, Shallow n (parseF n)
  | 0 => fun _ _ _ h => by cases h
  | n + 1 => shallow_step (shallow_parse n)

/-- What a text is read as: a sentence and 0; or 1: no sentence; or 2: too deep a one. -/
def readF (s : ByteArray) : Option (BT Pay) × Int :=
  if 300 < s.size then (none, 1)
  else match scanF s s.size 0 32 [] with
    | none => (none, 1)
    | some ts => match parseF ts.length ts with
      | none => (none, 1)
      | some (x, r) => match expectF (-1) r with
        | none => (none, 1)
        | some _ => if 12 < depthT x then (none, 2) else (some x, 0)

end Go.Proofs.YtpbbmagjhkakgaaGreatDoor
