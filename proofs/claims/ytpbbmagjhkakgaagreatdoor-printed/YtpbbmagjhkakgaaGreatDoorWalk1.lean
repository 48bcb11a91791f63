/-
  What the small functions of the reader do: signOf, joins, hasWindow: each answers as its plain function and leaves the world as it was; for every number.
-/
import Derived.Test.YtpbbmagjhkakgaaGreatDoorProg
import Derived.Test.YtpbbmagjhkakgaaGreatDoorHeap
namespace Go.Proofs.YtpbbmagjhkakgaaGreatDoor
open Go.RowKit



set_option maxHeartbeats 400000 in
theorem joins_any (s : Int) (w : World) :
    Calls Tryz.prog 153 #[.int .i32 s] w fun e w' => e = .returned (.bool (joinsB s)) ∧ w' = w := by
  go_enter Tryz.func153, Tryz.ntmps153
  go_wp2
  all_goals go_ret
  all_goals exact ⟨by simp_all [joinsB], rfl⟩

set_option maxHeartbeats 400000 in
theorem hasWindow_any (s : Int) (w : World) :
    Calls Tryz.prog 165 #[.int .i32 s] w fun e w' => e = .returned (.bool (winB s)) ∧ w' = w := by
  go_enter Tryz.func165, Tryz.ntmps165
  go_wp2
  all_goals go_ret
  all_goals exact ⟨by simp_all [winB], rfl⟩

set_option maxHeartbeats 1000000 in
theorem signOf_any (r : Int) (w : World) :
    Calls Tryz.prog 151 #[.int .i32 r] w fun e w' => e = .returned (.int .i32 (signF r)) ∧ w' = w := by
  go_enter Tryz.func151, Tryz.ntmps151
  go_wp2
  all_goals go_ret
  all_goals refine ⟨ret_int ?_, rfl⟩
  all_goals (try simp_all [signF])
  all_goals ((repeat' split) <;> intros <;> omega)

end Go.Proofs.YtpbbmagjhkakgaaGreatDoor
