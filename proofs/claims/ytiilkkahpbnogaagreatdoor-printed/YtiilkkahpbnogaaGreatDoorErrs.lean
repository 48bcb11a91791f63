/-
  What errors.Is and errors.As answer at the errors that this program makes: a *TextError over a *Fault, or over a *TooDeep; in a world whose variables ErrNoSentence and errors.errorType are as the program's text lays them.
-/
import Derived.Test.YtiilkkahpbnogaaGreatDoorProg
import Derived.Test.YtiilkkahpbnogaaGreatDoorHeap
import Derived.LaidEql
import Derived.Stop.Asserts
import Derived.RowKitTokens
namespace Go.Proofs.YtiilkkahpbnogaaGreatDoor
open Go.RowKit Go.Extern.Stop Go.Stop Go.Extern

theorem eIsTypeOf (v : Value) (w : World) : (Extern.ReflectliteType.typeOf #[.iface 246 v]).run Tryz.prog w = .ok (.iface 176 (.agg #[.pointer (some ⟨7, 246, none⟩)])) w := by kernel_rfl
/-- The model's entry for reflectlite's Comparable. -/
def cmpE : Array Value → Sem Value := Extern.ReflectliteType.method fun t => do Extern.Rtype.noPackHeld "Comparable" t; pure (.bool (← typeInfo t).comparable)
theorem eComparable (w : World) : (cmpE #[.agg #[.pointer (some ⟨7, 246, none⟩)]]).run Tryz.prog w = .ok (.bool true) w := by kernel_rfl
theorem eComp : (Tryz.prog.info? 246).map (·.comparable) = some true := by kernel_rfl
theorem eSize : (Tryz.prog.info? 248).map (·.size) = some 1 := by kernel_rfl
theorem eMethodComparable (v : Value) (w : World) : (Go.method 377 176 v "Comparable").run Tryz.prog w = .ok (175, v) w := by kernel_rfl
theorem tNoIs (v : Value) (xT : TypeId) (w : World) : (Instr.typeAssert (.iface 72 v) xT 178 true).run Tryz.prog w = .ok (.tuple #[.nilIface, .bool false]) w := run_typeAssert_lacksB Tryz.underlying178 (by kernel_rfl) (by kernel_rfl) v xT w
theorem fNoIs (v : Value) (xT : TypeId) (w : World) : (Instr.typeAssert (.iface 116 v) xT 178 true).run Tryz.prog w = .ok (.tuple #[.nilIface, .bool false]) w := run_typeAssert_lacksB Tryz.underlying178 (by kernel_rfl) (by kernel_rfl) v xT w
theorem dNoIs (v : Value) (xT : TypeId) (w : World) : (Instr.typeAssert (.iface 75 v) xT 178 true).run Tryz.prog w = .ok (.tuple #[.nilIface, .bool false]) w := run_typeAssert_lacksB Tryz.underlying178 (by kernel_rfl) (by kernel_rfl) v xT w
theorem tHasUnwrap (v : Value) (xT : TypeId) (w : World) : (Instr.typeAssert (.iface 72 v) xT 181 true).run Tryz.prog w = .ok (.tuple #[.iface 72 v, .bool true]) w := run_typeAssert_hasB Tryz.underlying181 (by kernel_rfl) v xT w
theorem fHasUnwrap (v : Value) (xT : TypeId) (w : World) : (Instr.typeAssert (.iface 116 v) xT 181 true).run Tryz.prog w = .ok (.tuple #[.iface 116 v, .bool true]) w := run_typeAssert_hasB Tryz.underlying181 (by kernel_rfl) v xT w
theorem dNoUnwrap (v : Value) (xT : TypeId) (w : World) : (Instr.typeAssert (.iface 75 v) xT 181 true).run Tryz.prog w = .ok (.tuple #[.nilIface, .bool false]) w := run_typeAssert_lacksB Tryz.underlying181 (by kernel_rfl) (by kernel_rfl) v xT w
theorem dNoUnwraps (v : Value) (xT : TypeId) (w : World) : (Instr.typeAssert (.iface 75 v) xT 183 true).run Tryz.prog w = .ok (.tuple #[.nilIface, .bool false]) w := run_typeAssert_lacksB Tryz.underlying183 (by kernel_rfl) (by kernel_rfl) v xT w
theorem tUnwrap (v : Value) (w : World) : (Go.method 377 72 v "Unwrap").run Tryz.prog w = .ok (165, v) w := by kernel_rfl
theorem fUnwrap (v : Value) (w : World) : (Go.method 377 116 v "Unwrap").run Tryz.prog w = .ok (169, v) w := by kernel_rfl

set_option maxHeartbeats 1000000 in
set_option maxRecDepth 100000 in
/-- errors.Is of a *TextError over a *Fault: true. -/
theorem is_fault (tb eb : Nat) (eo : Nat) (fa : Addr) (w : World) (hg : w.cell? ⟨0, 0, none⟩ = some (.iface 246 (.pointer (some ⟨eb, eo, none⟩)))) (h1 : w.cell? ⟨tb, 1, none⟩ = some (.iface 116 (.pointer (some fa)))) :
    Calls Tryz.prog 32 #[.iface 72 (.pointer (some ⟨tb, 0, none⟩)), .iface 246 (.pointer (some ⟨eb, eo, none⟩))] w fun e w' => e = .returned (.bool true) ∧ w' = w := by
  obtain ⟨i, hi, hcmp⟩ := Option.map_eq_some_iff.1 eComp
  obtain ⟨j, hj, hjs⟩ := Option.map_eq_some_iff.1 eSize
  have x1 := @run_callFunc_extern Tryz.prog 64 _ Extern.ReflectliteType.typeOf Tryz.func64 (by kernel_rfl) (by kernel_rfl) (by kernel_rfl) (by kernel_rfl)
  have x2 := @run_callFunc_extern Tryz.prog 175 _ cmpE Tryz.func175 (by kernel_rfl) (by kernel_rfl) (by kernel_rfl) (by kernel_rfl)
  have y1 := eIsTypeOf
  have y2 := eComparable
  have y3 := eMethodComparable
  have y4 := tNoIs
  have y5 := fNoIs
  have y6 := tHasUnwrap
  have y7 := fHasUnwrap
  have y8 := tUnwrap
  have y9 := fUnwrap
  have heq := run_eql_iface_ptr_same (P := Tryz.prog) w ⟨eb, eo, none⟩ Tryz.underlying45 Tryz.underlying246 hi hcmp hj
  have hty := run_eql_iface_types (P := Tryz.prog) 72 246 (.pointer (some ⟨tb, 0, none⟩)) (.pointer (some ⟨eb, eo, none⟩)) Tryz.underlying45 (by decide) w
  have hty2 := run_eql_iface_types (P := Tryz.prog) 116 246 (.pointer (some fa)) (.pointer (some ⟨eb, eo, none⟩)) Tryz.underlying45 (by decide) w
  go_enter Tryz.func32, Tryz.ntmps32
  go_wp2_with go_in
  refine wp_loop_rounds 3 ?_
  rw [rounds_succ]
  go_wp2_with go_in
  rw [rounds_succ]
  go_wp2_with go_in
  rw [rounds_succ]
  go_wp2_with go_in
  go_ret
  exact ⟨rfl, rfl⟩

set_option maxHeartbeats 1000000 in
set_option maxRecDepth 100000 in
/-- errors.Is of a *TextError over a *TooDeep: false. -/
theorem is_deep (tb eb : Nat) (eo : Nat) (fa : Addr) (w : World) (h1 : w.cell? ⟨tb, 1, none⟩ = some (.iface 75 (.pointer (some fa)))) :
    Calls Tryz.prog 32 #[.iface 72 (.pointer (some ⟨tb, 0, none⟩)), .iface 246 (.pointer (some ⟨eb, eo, none⟩))] w fun e w' => e = .returned (.bool false) ∧ w' = w := by
  have x1 := @run_callFunc_extern Tryz.prog 64 _ Extern.ReflectliteType.typeOf Tryz.func64 (by kernel_rfl) (by kernel_rfl) (by kernel_rfl) (by kernel_rfl)
  have x2 := @run_callFunc_extern Tryz.prog 175 _ cmpE Tryz.func175 (by kernel_rfl) (by kernel_rfl) (by kernel_rfl) (by kernel_rfl)
  have y1 := eIsTypeOf
  have y2 := eComparable
  have y3 := eMethodComparable
  have y4 := tNoIs
  have y5 := dNoIs
  have y6 := tHasUnwrap
  have y7 := dNoUnwrap
  have y8 := tUnwrap
  have y9 := dNoUnwraps
  have hty := run_eql_iface_types (P := Tryz.prog) 72 246 (.pointer (some ⟨tb, 0, none⟩)) (.pointer (some ⟨eb, eo, none⟩)) Tryz.underlying45 (by decide) w
  have hty2 := run_eql_iface_types (P := Tryz.prog) 75 246 (.pointer (some fa)) (.pointer (some ⟨eb, eo, none⟩)) Tryz.underlying45 (by decide) w
  go_enter Tryz.func32, Tryz.ntmps32
  go_wp2_with go_in
  refine wp_loop_rounds 2 ?_
  rw [rounds_succ]
  go_wp2_with go_in
  rw [rounds_succ]
  go_wp2_with go_in
  go_ret
  exact ⟨rfl, rfl⟩

end Go.Proofs.YtiilkkahpbnogaaGreatDoor
