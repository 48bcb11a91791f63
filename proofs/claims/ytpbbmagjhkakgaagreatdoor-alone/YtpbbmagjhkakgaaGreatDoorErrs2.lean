import Derived.Test.YtpbbmagjhkakgaaGreatDoorProg
import Derived.Test.YtpbbmagjhkakgaaGreatDoorErrs
import Derived.LaidEql
import Derived.Stop.Asserts
import Derived.RowKitTokens
namespace Go.Proofs.YtpbbmagjhkakgaaGreatDoor
open Go.RowKit Go.Extern.Stop Go.Stop Go.Extern
theorem aMethodKind (h:Value) (w:World):(Go.method 486 266 (.agg #[h]) "Kind").run Tryz.prog w=.ok (248,h) w:=by kernel_rfl
def kindE:Array Value->Sem Value:=ReflectliteType.abiMethod fun t=>do pure (.int .u8 (<- Rtype.kind t))
theorem aMethodElem (h:Value) (w:World):(Go.method 486 266 (.agg #[h]) "Elem").run Tryz.prog w=.ok (268,.agg #[h]) w:=by kernel_rfl
theorem uu (h:Value) (w:World):(Go.method 486 266 (.agg #[h]) "Implements").run Tryz.prog w=.ok (269,.agg #[h]) w:=by kernel_rfl
theorem ur (h:Value) (w:World):(Go.method 486 266 (.agg #[h]) "AssignableTo").run Tryz.prog w=.ok (266,.agg #[h]) w:=by kernel_rfl
end Go.Proofs.YtpbbmagjhkakgaaGreatDoor
