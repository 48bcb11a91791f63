import Derived.Test.YtpbbmagjhkakgaaGreatDoorA7
namespace Go.Proofs.YtpbbmagjhkakgaaGreatDoor
open Tryz Go.RowKit Go.Extern.Stop Go.Stop Go.Extern
theorem Ki(h w):(Go.method 486 266 (.agg #[h]) "Kind").run prog w=.ok (248,h) w:=aL
def G':aU aE->Sem aE:=ReflectliteType.abiMethod λt=>do pure (.int .u8 (<-Rtype.kind t))
theorem Kh(h w):(Go.method 486 266 (.agg #[h]) "Elem").run prog w=.ok (268,.agg #[h]) w:=aL
theorem yN(h w):(Go.method 486 266 (.agg #[h]) "Implements").run prog w=.ok (269,.agg #[h]) w:=aL
theorem yM(h w):(Go.method 486 266 (.agg #[h]) "AssignableTo").run prog w=.ok (266,.agg #[h]) w:=aL
end Go.Proofs.YtpbbmagjhkakgaaGreatDoor
