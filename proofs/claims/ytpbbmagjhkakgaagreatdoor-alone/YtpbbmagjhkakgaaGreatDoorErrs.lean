import Derived.Test.YtpbbmagjhkakgaaGreatDoorPureToLfTape
import Derived.Test.YtpbbmagjhkakgaaGreatDoorProg
import Derived.LaidEql
import Derived.Stop.Asserts
import Derived.RowKitTokens
namespace Go.Proofs.YtpbbmagjhkakgaaGreatDoor
open Go.RowKit Go.Extern.Stop Go.Stop Go.Extern
theorem eIsTypeOf (v:Value) (w:World):(Extern.ReflectliteType.typeOf #[.iface 357 v]).run Tryz.prog w=.ok (.iface 266 (.agg #[.pointer (some ⟨14,357,none⟩)])) w:=by kernel_rfl
def cmpE:Array Value->Sem Value:=Extern.ReflectliteType.method fun t=>do Extern.Rtype.noPackHeld "Comparable" t;pure (.bool (<- typeInfo t).comparable)
theorem eComparable (w:World):(cmpE #[.agg #[.pointer (some ⟨14,357,none⟩)]]).run Tryz.prog w=.ok (.bool true) w:=by kernel_rfl
theorem eComp:(Tryz.prog.info? 357).map (·.comparable)=some true:=by kernel_rfl
theorem eSize:(Tryz.prog.info? 359).map (·.size)=some 1:=by kernel_rfl
theorem uy (v:Value) (w:World):(Go.method 486 266 v "Comparable").run Tryz.prog w=.ok (267,v) w:=by kernel_rfl
end Go.Proofs.YtpbbmagjhkakgaaGreatDoor
