/-
  The plain functions of a sentence's core: definitions alone; no condition.
-/
import Derived.Test.YtpbbmagjhkakgaaGreatDoorFaceToPurePrint
namespace Go.Proofs.YtpbbmagjhkakgaaGreatDoor
open Go.Deep (BT)

/-- A sign of not ahead of a core, or the one that is there taken away. -/
def notT : BT Pay → BT Pay
  | .nil => .nil
  | .node b o a l r => if a.op = 172 then l else mk 172 ByteArray.empty 0 0 (.node b o a l r) .nil

/-- The core of a sentence. -/
def coreT : BT Pay → BT Pay
  | .nil => .nil
  | .node b o a l r =>
    if a.op = 116 ∨ a.op = 97 then .node b o a l r
    else if a.op = 172 then notT (coreT l)
    else if a.op = 8744 then notT (mk 8743 ByteArray.empty 0 0 (notT (coreT l)) (notT (coreT r)))
    else if a.op = 72 then notT (mk 79 ByteArray.empty a.lo a.hi (notT (coreT l)) .nil)
    else if a.op = 89 ∨ a.op = 79 then mk a.op ByteArray.empty a.lo a.hi (coreT l) .nil
    else mk a.op ByteArray.empty a.lo a.hi (coreT l) (coreT r)

theorem Good.ne : ∀ {x : BT Pay}, Good x → x ≠ .nil
  | .nil, h => h.elim
  | .node _ _ _ _ _, _ => by intro h; cases h

theorem good_not {x : BT Pay} (h : Good x) : Good (notT x) := by
  cases x with
  | nil => exact h
  | node b o a l r =>
    show Good (if a.op = 172 then l else mk 172 ByteArray.empty 0 0 (BT.node b o a l r) .nil)
    by_cases ho : a.op = 172
    · rw [if_pos ho]
      rcases h with ⟨h1, _⟩ | ⟨h1, _⟩ | ⟨h1, _⟩ | ⟨_, _, _, _, gl, _⟩
      · omega
      · omega
      · omega
      · exact gl
    · rw [if_neg ho]
      exact .inr (.inr (.inr ⟨.inl rfl, rfl, by simp, fun _ => ⟨rfl, rfl⟩, h, rfl⟩))

theorem good_core : ∀ {x : BT Pay}, Good x → Good (coreT x)
  | .nil, h => h
  | .node b o a l r, h => by
    have h' := h
    unfold coreT
    rcases h with ⟨h1, _⟩ | ⟨h1, _⟩ | ⟨h1, h2, h3, h4, gl, gr⟩ | ⟨h1, h2, h3, h4, gl, hr⟩
    · rw [if_pos (.inl h1)]; exact h'
    · rw [if_pos (.inr h1)]; exact h'
    · have cl := good_core gl
      have cr := good_core gr
      rw [if_neg (by omega), if_neg (by omega)]
      by_cases h8 : a.op = 8744
      · rw [if_pos h8]
        exact good_not (.inr (.inr (.inl ⟨.inl rfl, rfl, by simp, fun _ => ⟨rfl, rfl⟩, good_not cl, good_not cr⟩)))
      · rw [if_neg h8, if_neg (by omega), if_neg (by omega)]
        exact .inr (.inr (.inl ⟨h1, rfl, h3, h4, cl, cr⟩))
    · have cl := good_core gl
      rw [if_neg (by omega)]
      by_cases h8 : a.op = 172
      · rw [if_pos h8]; exact good_not cl
      · rw [if_neg h8, if_neg (by omega)]
        by_cases h9 : a.op = 72
        · rw [if_pos h9]
          exact good_not (.inr (.inr (.inr ⟨.inr (.inr (.inl rfl)), rfl, h3, fun h => absurd (show winB 79 = false from h) (by decide), good_not cl, rfl⟩)))
        · rw [if_neg h9, if_pos (by omega)]
          exact .inr (.inr (.inr ⟨h1, rfl, h3, h4, cl, rfl⟩))

end Go.Proofs.YtpbbmagjhkakgaaGreatDoor
