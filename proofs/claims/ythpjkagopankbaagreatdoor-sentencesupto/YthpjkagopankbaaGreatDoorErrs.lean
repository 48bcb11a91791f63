/-
  What errors.Is and errors.As answer at the errors that this program makes: a *TextError over a *Fault, or over a *TooDeep; in a world whose variables ErrNoSentence and errors.errorType are as the program's text lays them.
-/
import Derived.Test.YthpjkagopankbaaGreatDoorHeapToWalk1
import Derived.Test.YthpjkagopankbaaGreatDoorProg
import Derived.LaidEql
import Derived.Stop.Asserts
import Derived.RowKitTokens
namespace Go.Proofs.YthpjkagopankbaaGreatDoor
open Go.RowKit Go.Extern.Stop Go.Stop Go.Extern

theorem eIsTypeOf (v : Value) (w : World) : (Extern.ReflectliteType.typeOf #[.iface 356 v]).run Tryz.prog w = .ok (.iface 251 (.agg #[.pointer (some ⟨14, 356, none⟩)])) w := by kernel_rfl
/-- The model's entry for reflectlite's Comparable. -/
def cmpE : Array Value → Sem Value := Extern.ReflectliteType.method fun t => do Extern.Rtype.noPackHeld "Comparable" t; pure (.bool (← typeInfo t).comparable)
theorem eComparable (w : World) : (cmpE #[.agg #[.pointer (some ⟨14, 356, none⟩)]]).run Tryz.prog w = .ok (.bool true) w := by kernel_rfl
theorem eComp : (Tryz.prog.info? 356).map (·.comparable) = some true := by kernel_rfl
theorem eSize : (Tryz.prog.info? 358).map (·.size) = some 1 := by kernel_rfl
theorem eMethodComparable (v : Value) (w : World) : (Go.method 485 251 v "Comparable").run Tryz.prog w = .ok (260, v) w := by kernel_rfl
theorem tNoIs (v : Value) (xT : TypeId) (w : World) : (Instr.typeAssert (.iface 98 v) xT 253 true).run Tryz.prog w = .ok (.tuple #[.nilIface, .bool false]) w := run_typeAssert_lacksB Tryz.underlying253 (by kernel_rfl) (by kernel_rfl) v xT w
theorem fNoIs (v : Value) (xT : TypeId) (w : World) : (Instr.typeAssert (.iface 175 v) xT 253 true).run Tryz.prog w = .ok (.tuple #[.nilIface, .bool false]) w := run_typeAssert_lacksB Tryz.underlying253 (by kernel_rfl) (by kernel_rfl) v xT w
theorem dNoIs (v : Value) (xT : TypeId) (w : World) : (Instr.typeAssert (.iface 103 v) xT 253 true).run Tryz.prog w = .ok (.tuple #[.nilIface, .bool false]) w := run_typeAssert_lacksB Tryz.underlying253 (by kernel_rfl) (by kernel_rfl) v xT w
theorem tHasUnwrap (v : Value) (xT : TypeId) (w : World) : (Instr.typeAssert (.iface 98 v) xT 255 true).run Tryz.prog w = .ok (.tuple #[.iface 98 v, .bool true]) w := run_typeAssert_hasB Tryz.underlying255 (by kernel_rfl) v xT w
theorem fHasUnwrap (v : Value) (xT : TypeId) (w : World) : (Instr.typeAssert (.iface 175 v) xT 255 true).run Tryz.prog w = .ok (.tuple #[.iface 175 v, .bool true]) w := run_typeAssert_hasB Tryz.underlying255 (by kernel_rfl) v xT w
theorem dNoUnwrap (v : Value) (xT : TypeId) (w : World) : (Instr.typeAssert (.iface 103 v) xT 255 true).run Tryz.prog w = .ok (.tuple #[.nilIface, .bool false]) w := run_typeAssert_lacksB Tryz.underlying255 (by kernel_rfl) (by kernel_rfl) v xT w
theorem dNoUnwraps (v : Value) (xT : TypeId) (w : World) : (Instr.typeAssert (.iface 103 v) xT 257 true).run Tryz.prog w = .ok (.tuple #[.nilIface, .bool false]) w := run_typeAssert_lacksB Tryz.underlying257 (by kernel_rfl) (by kernel_rfl) v xT w
theorem tUnwrap (v : Value) (w : World) : (Go.method 485 98 v "Unwrap").run Tryz.prog w = .ok (245, v) w := by kernel_rfl
theorem fUnwrap (v : Value) (w : World) : (Go.method 485 175 v "Unwrap").run Tryz.prog w = .ok (257, v) w := by kernel_rfl

set_option maxHeartbeats 1000000 in
set_option maxRecDepth 100000 in
/-- errors.Is of a *TextError over a *Fault: true. -/
theorem is_fault (tb eb : Nat) (eo : Nat) (fa : Addr) (w : World) (hg : w.cell? ⟨0, 0, none⟩ = some (.iface 356 (.pointer (some ⟨eb, eo, none⟩)))) (h1 : w.cell? ⟨tb, 1, none⟩ = some (.iface 175 (.pointer (some fa)))) :
    Calls Tryz.prog 51 #[.iface 98 (.pointer (some ⟨tb, 0, none⟩)), .iface 356 (.pointer (some ⟨eb, eo, none⟩))] w fun e w' => e = .returned (.bool true) ∧ w' = w := by
  obtain ⟨i, hi, hcmp⟩ := Option.map_eq_some_iff.1 eComp
  obtain ⟨j, hj, hjs⟩ := Option.map_eq_some_iff.1 eSize
  have x1 := @run_callFunc_extern Tryz.prog 96 _ Extern.ReflectliteType.typeOf Tryz.func96 (by kernel_rfl) (by kernel_rfl) (by kernel_rfl) (by kernel_rfl)
  have x2 := @run_callFunc_extern Tryz.prog 260 _ cmpE Tryz.func260 (by kernel_rfl) (by kernel_rfl) (by kernel_rfl) (by kernel_rfl)
  have y1 := eIsTypeOf
  have y2 := eComparable
  have y3 := eMethodComparable
  have y4 := tNoIs
  have y5 := fNoIs
  have y6 := tHasUnwrap
  have y7 := fHasUnwrap
  have y8 := tUnwrap
  have y9 := fUnwrap
  have heq := run_eql_iface_ptr_same (P := Tryz.prog) w ⟨eb, eo, none⟩ Tryz.underlying72 Tryz.underlying356 hi hcmp hj
  have hty := run_eql_iface_types (P := Tryz.prog) 98 356 (.pointer (some ⟨tb, 0, none⟩)) (.pointer (some ⟨eb, eo, none⟩)) Tryz.underlying72 (by decide) w
  have hty2 := run_eql_iface_types (P := Tryz.prog) 175 356 (.pointer (some fa)) (.pointer (some ⟨eb, eo, none⟩)) Tryz.underlying72 (by decide) w
  go_enter Tryz.func51, Tryz.ntmps51
  go_wp2_with go_in
  refine wp_loop_rounds 3 ?_
  rw [rounds_succ]
  go_wp2_with go_in
  rw [rounds_succ]
  go_wp2_with go_in
  rw [rounds_succ]
  go_wp2_with go_in
  go_ret
  exact ⟨rfl, rfl⟩

set_option maxHeartbeats 1000000 in
set_option maxRecDepth 100000 in
/-- errors.Is of a *TextError over a *TooDeep: false. -/
theorem is_deep (tb eb : Nat) (eo : Nat) (fa : Addr) (w : World) (h1 : w.cell? ⟨tb, 1, none⟩ = some (.iface 103 (.pointer (some fa)))) :
    Calls Tryz.prog 51 #[.iface 98 (.pointer (some ⟨tb, 0, none⟩)), .iface 356 (.pointer (some ⟨eb, eo, none⟩))] w fun e w' => e = .returned (.bool false) ∧ w' = w := by
  have x1 := @run_callFunc_extern Tryz.prog 96 _ Extern.ReflectliteType.typeOf Tryz.func96 (by kernel_rfl) (by kernel_rfl) (by kernel_rfl) (by kernel_rfl)
  have x2 := @run_callFunc_extern Tryz.prog 260 _ cmpE Tryz.func260 (by kernel_rfl) (by kernel_rfl) (by kernel_rfl) (by kernel_rfl)
  have y1 := eIsTypeOf
  have y2 := eComparable
  have y3 := eMethodComparable
  have y4 := tNoIs
  have y5 := dNoIs
  have y6 := tHasUnwrap
  have y7 := dNoUnwrap
  have y8 := tUnwrap
  have y9 := dNoUnwraps
  have hty := run_eql_iface_types (P := Tryz.prog) 98 356 (.pointer (some ⟨tb, 0, none⟩)) (.pointer (some ⟨eb, eo, none⟩)) Tryz.underlying72 (by decide) w
  have hty2 := run_eql_iface_types (P := Tryz.prog) 103 356 (.pointer (some fa)) (.pointer (some ⟨eb, eo, none⟩)) Tryz.underlying72 (by decide) w
  go_enter Tryz.func51, Tryz.ntmps51
  go_wp2_with go_in
  refine wp_loop_rounds 2 ?_
  rw [rounds_succ]
  go_wp2_with go_in
  rw [rounds_succ]
  go_wp2_with go_in
  go_ret
  exact ⟨rfl, rfl⟩

end Go.Proofs.YthpjkagopankbaaGreatDoor
