/-
  The plain table of the different nodes of cores: a list of keys, and the number of each; definitions and what holds of them; no condition but those that stand in each theorem.
-/
import Derived.Test.YtpbbmagjhkakgaaGreatDoorPureCore
namespace Go.Proofs.YtpbbmagjhkakgaaGreatDoor
open Go.Deep (BT)

/-- A node with its parts told by their numbers. -/
structure Key where
  op : Int
  name : ByteArray
  lo : Int
  hi : Int
  l : Int
  r : Int

def keyEq (k q : Key) : Bool := decide (k.op = q.op ∧ k.name = q.name ∧ k.lo = q.lo ∧ k.hi = q.hi ∧ k.l = q.l ∧ k.r = q.r)

theorem keyEq_iff {k q : Key} : keyEq k q = true ↔ k = q := by
  unfold keyEq
  rw [decide_eq_true_iff]
  constructor
  · rintro ⟨h1, h2, h3, h4, h5, h6⟩
    cases k; cases q
    simp only at h1 h2 h3 h4 h5 h6
    subst h1; subst h2; subst h3; subst h4; subst h5; subst h6
    rfl
  · rintro rfl
    exact ⟨rfl, rfl, rfl, rfl, rfl, rfl⟩

/-- Where a key stands. -/
def numK (K : List Key) (k : Key) : Option Nat := K.findIdx? (keyEq k)

/-- What is answered for a key: its number, or 0. -/
def numI (K : List Key) (k : Key) : Int := match numK K k with | some i => (i : Int) + 1 | none => 0

/-- A key is put: its number, the list. -/
def addK (K : List Key) (k : Key) : Int × List Key := match numK K k with | some i => ((i : Int) + 1, K) | none => ((K.length : Int) + 1, K ++ [k])

/-- A core with all its parts is put. -/
def putK (K : List Key) : BT Pay → Int × List Key
  | .nil => (0, K)
  | .node _ _ a l r => addK (putK (putK K l).2 r).2 ⟨a.op, a.name, a.lo, a.hi, (putK K l).1, (putK (putK K l).2 r).1⟩

/-- How many parts a sentence has. -/
def nodesT : BT Pay → Nat
  | .nil => 0
  | .node _ _ _ l r => nodesT l + nodesT r + 1

theorem numK_lt {K : List Key} {k : Key} {i : Nat} (h : numK K k = some i) : i < K.length := by
  unfold numK at h
  exact (List.findIdx?_eq_some_iff_getElem.1 h).1

theorem addK_len (K : List Key) (k : Key) : K.length ≤ (addK K k).2.length ∧ (addK K k).2.length ≤ K.length + 1 := by
  unfold addK
  cases h : numK K k with
  | some i => simp
  | none => simp

theorem addK_num (K : List Key) (k : Key) : 1 ≤ (addK K k).1 ∧ (addK K k).1 ≤ K.length + 1 := by
  unfold addK
  cases h : numK K k with
  | some i => have := numK_lt h; simp; omega
  | none => simp; omega

theorem putK_len : ∀ (x : BT Pay) (K : List Key), K.length ≤ (putK K x).2.length ∧ (putK K x).2.length ≤ K.length + nodesT x ∧ 0 ≤ (putK K x).1 ∧ (putK K x).1 ≤ K.length + nodesT x
  | .nil, K => by simp [putK, nodesT]
  | .node _ _ a l r, K => by
    have h1 := putK_len l K
    have h2 := putK_len r (putK K l).2
    have h3 := addK_len (putK (putK K l).2 r).2 ⟨a.op, a.name, a.lo, a.hi, (putK K l).1, (putK (putK K l).2 r).1⟩
    have h4 := addK_num (putK (putK K l).2 r).2 ⟨a.op, a.name, a.lo, a.hi, (putK K l).1, (putK (putK K l).2 r).1⟩
    simp only [putK, nodesT]
    omega

theorem numK_snoc_same (K : List Key) (k : Key) (h : numK K k = none) : numK (K ++ [k]) k = some K.length := by
  unfold numK at *
  rw [List.findIdx?_append, h]
  simp [List.findIdx?_cons, keyEq_iff.2 (rfl : k = k)]

theorem numK_snoc_other (K : List Key) (k q : Key) (h : q ≠ k) : numK (K ++ [k]) q = numK K q := by
  unfold numK
  rw [List.findIdx?_append]
  have hf : keyEq q k = false := by
    cases hb : keyEq q k with
    | true => exact absurd (keyEq_iff.1 hb) h
    | false => rfl
  simp [List.findIdx?_cons, hf]

end Go.Proofs.YtpbbmagjhkakgaaGreatDoor
