/-
  The plain function that writes a sentence, in bytes, and a bound on its length; no condition but those that stand in each theorem.
-/
import Derived.Test.YtpbbmagjhkakgaaGreatDoorPureTree
import Derived.Lib.ItoaNum
namespace Go.Proofs.YtpbbmagjhkakgaaGreatDoor
open Go.Deep (BT)

/-- The bytes of a sign. -/
def opBytes (r : Int) : List UInt8 := if r = 172 then [194, 172] else if r = 8743 then [226, 136, 167] else if r = 8744 then [226, 136, 168] else if r = 89 then [89] else if r = 79 then [79] else if r = 72 then [72] else [83]

/-- Is it a sign that stands ahead of a part or between two? -/
def isSign (r : Int) : Prop := r = 172 ∨ r = 8743 ∨ r = 8744 ∨ r = 89 ∨ r = 79 ∨ r = 72 ∨ r = 83

/-- A sign with its window, if it has one. -/
def opW (a : Pay) : List UInt8 := if winB a.op then opBytes a.op ++ [91] ++ Lib.itoa a.lo ++ [44] ++ Lib.itoa a.hi ++ [93] else opBytes a.op

/-- A sentence as it is written. -/
def printB : BT Pay → List UInt8
  | .nil => []
  | .node _ _ a l r =>
    if a.op = 116 then [116, 114, 117, 101]
    else if a.op = 97 then a.name.data.toList
    else if a.op = 8743 ∨ a.op = 8744 ∨ a.op = 83 then [40] ++ printB l ++ [32] ++ opW a ++ [32] ++ printB r ++ [41]
    else opW a ++ printB l

/-- A sentence is made as it should be: names, windows, parts. -/
def Good : BT Pay → Prop
  | .nil => False
  | .node _ _ a l r =>
    (a.op = 116 ∧ a.name = ByteArray.empty ∧ a.lo = 0 ∧ a.hi = 0 ∧ l = .nil ∧ r = .nil)
    ∨ (a.op = 97 ∧ (1 ≤ a.name.size ∧ a.name.size ≤ 8 ∧ a.name ≠ trueB ∧ ∀ c, c ∈ a.name.data.toList → 97 ≤ c.toNat ∧ c.toNat ≤ 122) ∧ a.lo = 0 ∧ a.hi = 0 ∧ l = .nil ∧ r = .nil)
    ∨ ((a.op = 8743 ∨ a.op = 8744 ∨ a.op = 83) ∧ a.name = ByteArray.empty ∧ (0 ≤ a.lo ∧ a.lo ≤ a.hi ∧ a.hi ≤ 1000000) ∧ (winB a.op = false → a.lo = 0 ∧ a.hi = 0) ∧ Good l ∧ Good r)
    ∨ ((a.op = 172 ∨ a.op = 89 ∨ a.op = 79 ∨ a.op = 72) ∧ a.name = ByteArray.empty ∧ (0 ≤ a.lo ∧ a.lo ≤ a.hi ∧ a.hi ≤ 1000000) ∧ (winB a.op = false → a.lo = 0 ∧ a.hi = 0) ∧ Good l ∧ r = .nil)

theorem Good.win : ∀ {x : BT Pay}, Good x → WinOK x
  | .node _ _ a l r, h => by
    rcases h with ⟨_, _, h1, h2, rfl, rfl⟩ | ⟨_, _, h1, h2, rfl, rfl⟩ | ⟨_, _, h1, _, hl, hr⟩ | ⟨_, _, h1, _, hl, rfl⟩
    · exact ⟨by omega, trivial, trivial⟩
    · exact ⟨by omega, trivial, trivial⟩
    · exact ⟨h1, hl.win, hr.win⟩
    · exact ⟨h1, hl.win, trivial⟩

theorem opBytes_le (r : Int) : (opBytes r).length ≤ 3 := by
  unfold opBytes
  repeat' split
  all_goals decide

end Go.Proofs.YtpbbmagjhkakgaaGreatDoor
