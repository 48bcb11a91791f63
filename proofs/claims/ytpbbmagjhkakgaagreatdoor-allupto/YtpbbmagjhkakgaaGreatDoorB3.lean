import Derived.Test.YtpbbmagjhkakgaaGreatDoorA6
namespace Go.Proofs.YtpbbmagjhkakgaaGreatDoor
open Tryz Go.RowKit Go.Extern.Stop Go.Stop Go.Extern
theorem JQ(h w):(Go.method 486 266 (.agg #[h]) "Kind").run prog w=.ok (248,h) w:=aM
def Gs:aY aF->Sem aF:=ReflectliteType.abiMethod λt=>do pure (.int .u8 (<-Rtype.kind t))
theorem JP(h w):(Go.method 486 266 (.agg #[h]) "Elem").run prog w=.ok (268,.agg #[h]) w:=aM
theorem yx(h w):(Go.method 486 266 (.agg #[h]) "Implements").run prog w=.ok (269,.agg #[h]) w:=aM
theorem yw(h w):(Go.method 486 266 (.agg #[h]) "AssignableTo").run prog w=.ok (266,.agg #[h]) w:=aM
end Go.Proofs.YtpbbmagjhkakgaaGreatDoor
