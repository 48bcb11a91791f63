
import Derived.Test.YtpbbmagjhkakgaaGreatDoorShelfToPureScan
import Derived.Test.YtpbbmagjhkakgaaGreatDoorProg
import Derived.LaidEql
import Derived.Stop.Asserts
import Derived.RowKitTokens
namespace Go.Proofs.YtpbbmagjhkakgaaGreatDoor
open Go.RowKit Go.Extern.Stop Go.Stop Go.Extern
theorem eIsTypeOf (v:Value) (w:World):(Extern.ReflectliteType.typeOf #[.iface 357 v]).run Tryz.prog w=.ok (.iface 266 (.agg #[.pointer (some ⟨14,357,none⟩)])) w:=by kernel_rfl
def cmpE:Array Value->Sem Value:=Extern.ReflectliteType.method fun t=>do Extern.Rtype.noPackHeld "Comparable" t;pure (.bool (<- typeInfo t).comparable)
theorem eComparable (w:World):(cmpE #[.agg #[.pointer (some ⟨14,357,none⟩)]]).run Tryz.prog w=.ok (.bool true) w:=by kernel_rfl
theorem eComp:(Tryz.prog.info? 357).map (·.comparable)=some true:=by kernel_rfl
theorem eSize:(Tryz.prog.info? 359).map (·.size)=some 1:=by kernel_rfl
theorem eMethodComparable (v:Value) (w:World):(Go.method 486 266 v "Comparable").run Tryz.prog w=.ok (267,v) w:=by kernel_rfl
theorem tNoIs (v:Value) (xT:TypeId) (w:World):(Instr.typeAssert (.iface 125 v) xT 268 true).run Tryz.prog w=.ok (.tuple #[.nilIface,.bool false]) w:=run_typeAssert_lacksB Tryz.underlying268 (by kernel_rfl) (by kernel_rfl) v xT w
theorem fNoIs (v:Value) (xT:TypeId) (w:World):(Instr.typeAssert (.iface 201 v) xT 268 true).run Tryz.prog w=.ok (.tuple #[.nilIface,.bool false]) w:=run_typeAssert_lacksB Tryz.underlying268 (by kernel_rfl) (by kernel_rfl) v xT w
theorem dNoIs (v:Value) (xT:TypeId) (w:World):(Instr.typeAssert (.iface 130 v) xT 268 true).run Tryz.prog w=.ok (.tuple #[.nilIface,.bool false]) w:=run_typeAssert_lacksB Tryz.underlying268 (by kernel_rfl) (by kernel_rfl) v xT w
theorem tHasUnwrap (v:Value) (xT:TypeId) (w:World):(Instr.typeAssert (.iface 125 v) xT 270 true).run Tryz.prog w=.ok (.tuple #[.iface 125 v,.bool true]) w:=run_typeAssert_hasB Tryz.underlying270 (by kernel_rfl) v xT w
theorem fHasUnwrap (v:Value) (xT:TypeId) (w:World):(Instr.typeAssert (.iface 201 v) xT 270 true).run Tryz.prog w=.ok (.tuple #[.iface 201 v,.bool true]) w:=run_typeAssert_hasB Tryz.underlying270 (by kernel_rfl) v xT w
theorem dNoUnwrap (v:Value) (xT:TypeId) (w:World):(Instr.typeAssert (.iface 130 v) xT 270 true).run Tryz.prog w=.ok (.tuple #[.nilIface,.bool false]) w:=run_typeAssert_lacksB Tryz.underlying270 (by kernel_rfl) (by kernel_rfl) v xT w
theorem dNoUnwraps (v:Value) (xT:TypeId) (w:World):(Instr.typeAssert (.iface 130 v) xT 272 true).run Tryz.prog w=.ok (.tuple #[.nilIface,.bool false]) w:=run_typeAssert_lacksB Tryz.underlying272 (by kernel_rfl) (by kernel_rfl) v xT w
theorem tUnwrap (v:Value) (w:World):(Go.method 486 125 v "Unwrap").run Tryz.prog w=.ok (252,v) w:=by kernel_rfl
theorem fUnwrap (v:Value) (w:World):(Go.method 486 201 v "Unwrap").run Tryz.prog w=.ok (264,v) w:=by kernel_rfl
set_option maxHeartbeats 1000000 in
set_option maxRecDepth 100000 in
theorem is_fault (tb eb:Nat) (eo:Nat) (fa:Addr) (w:World) (hg:w.cell? ⟨0,0,none⟩=some (.iface 357 (.pointer (some ⟨eb,eo,none⟩)))) (h1:w.cell? ⟨tb,1,none⟩=some (.iface 201 (.pointer (some fa)))) :
  Calls Tryz.prog 75 #[.iface 125 (.pointer (some ⟨tb,0,none⟩)),.iface 357 (.pointer (some ⟨eb,eo,none⟩))] w fun e w'=>e=.returned (.bool true)/\w'=w:=by
 obtain ⟨i,hi,hcmp⟩:=Option.map_eq_some_iff.1 eComp
 obtain ⟨j,hj,hjs⟩:=Option.map_eq_some_iff.1 eSize
 have x1:=@run_callFunc_extern Tryz.prog 117 _ Extern.ReflectliteType.typeOf Tryz.func117 (by kernel_rfl) (by kernel_rfl) (by kernel_rfl) (by kernel_rfl)
 have x2:=@run_callFunc_extern Tryz.prog 267 _ cmpE Tryz.func267 (by kernel_rfl) (by kernel_rfl) (by kernel_rfl) (by kernel_rfl)
 have y1:=eIsTypeOf
 have y2:=eComparable
 have y3:=eMethodComparable
 have y4:=tNoIs
 have y5:=fNoIs
 have y6:=tHasUnwrap
 have y7:=fHasUnwrap
 have y8:=tUnwrap
 have y9:=fUnwrap
 have heq:=run_eql_iface_ptr_same (P:=Tryz.prog) w ⟨eb,eo,none⟩ Tryz.underlying89 Tryz.underlying357 hi hcmp hj
 have hty:=run_eql_iface_types (P:=Tryz.prog) 125 357 (.pointer (some ⟨tb,0,none⟩)) (.pointer (some ⟨eb,eo,none⟩)) Tryz.underlying89 (by decide) w
 have hty2:=run_eql_iface_types (P:=Tryz.prog) 201 357 (.pointer (some fa)) (.pointer (some ⟨eb,eo,none⟩)) Tryz.underlying89 (by decide) w
 go_enter Tryz.func75,Tryz.ntmps75
 go_wp2_with go_in
 refine wp_loop_rounds 3 ?_
 rw [rounds_succ]
 go_wp2_with go_in
 rw [rounds_succ]
 go_wp2_with go_in
 rw [rounds_succ]
 go_wp2_with go_in
 go_ret
 exact ⟨rfl,rfl⟩
set_option maxHeartbeats 1000000 in
set_option maxRecDepth 100000 in
theorem is_deep (tb eb:Nat) (eo:Nat) (fa:Addr) (w:World) (h1:w.cell? ⟨tb,1,none⟩=some (.iface 130 (.pointer (some fa)))) :
  Calls Tryz.prog 75 #[.iface 125 (.pointer (some ⟨tb,0,none⟩)),.iface 357 (.pointer (some ⟨eb,eo,none⟩))] w fun e w'=>e=.returned (.bool false)/\w'=w:=by
 have x1:=@run_callFunc_extern Tryz.prog 117 _ Extern.ReflectliteType.typeOf Tryz.func117 (by kernel_rfl) (by kernel_rfl) (by kernel_rfl) (by kernel_rfl)
 have x2:=@run_callFunc_extern Tryz.prog 267 _ cmpE Tryz.func267 (by kernel_rfl) (by kernel_rfl) (by kernel_rfl) (by kernel_rfl)
 have y1:=eIsTypeOf
 have y2:=eComparable
 have y3:=eMethodComparable
 have y4:=tNoIs
 have y5:=dNoIs
 have y6:=tHasUnwrap
 have y7:=dNoUnwrap
 have y8:=tUnwrap
 have y9:=dNoUnwraps
 have hty:=run_eql_iface_types (P:=Tryz.prog) 125 357 (.pointer (some ⟨tb,0,none⟩)) (.pointer (some ⟨eb,eo,none⟩)) Tryz.underlying89 (by decide) w
 have hty2:=run_eql_iface_types (P:=Tryz.prog) 130 357 (.pointer (some fa)) (.pointer (some ⟨eb,eo,none⟩)) Tryz.underlying89 (by decide) w
 go_enter Tryz.func75,Tryz.ntmps75
 go_wp2_with go_in
 refine wp_loop_rounds 2 ?_
 rw [rounds_succ]
 go_wp2_with go_in
 rw [rounds_succ]
 go_wp2_with go_in
 go_ret
 exact ⟨rfl,rfl⟩
end Go.Proofs.YtpbbmagjhkakgaaGreatDoor
