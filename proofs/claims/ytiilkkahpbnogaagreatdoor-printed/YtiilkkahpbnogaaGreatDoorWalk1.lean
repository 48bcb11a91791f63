/-
  What the small functions of the reader do: signOf, joins, hasWindow: each answers as its plain function and leaves the world as it was; for every number.
-/
import Derived.Test.YtiilkkahpbnogaaGreatDoorProg
import Derived.Test.YtiilkkahpbnogaaGreatDoorHeap
namespace Go.Proofs.YtiilkkahpbnogaaGreatDoor
open Go.RowKit



set_option maxHeartbeats 400000 in
theorem joins_any (s : Int) (w : World) :
    Calls Tryz.prog 86 #[.int .i32 s] w fun e w' => e = .returned (.bool (joinsB s)) ∧ w' = w := by
  go_enter Tryz.func86, Tryz.ntmps86
  go_wp2
  all_goals go_ret
  all_goals exact ⟨by simp_all [joinsB], rfl⟩

set_option maxHeartbeats 400000 in
theorem hasWindow_any (s : Int) (w : World) :
    Calls Tryz.prog 96 #[.int .i32 s] w fun e w' => e = .returned (.bool (winB s)) ∧ w' = w := by
  go_enter Tryz.func96, Tryz.ntmps96
  go_wp2
  all_goals go_ret
  all_goals exact ⟨by simp_all [winB], rfl⟩

set_option maxHeartbeats 1000000 in
theorem signOf_any (r : Int) (w : World) :
    Calls Tryz.prog 84 #[.int .i32 r] w fun e w' => e = .returned (.int .i32 (signF r)) ∧ w' = w := by
  go_enter Tryz.func84, Tryz.ntmps84
  go_wp2
  all_goals go_ret
  all_goals refine ⟨ret_int ?_, rfl⟩
  all_goals (try simp_all [signF])
  all_goals ((repeat' split) <;> intros <;> omega)

end Go.Proofs.YtiilkkahpbnogaaGreatDoor
