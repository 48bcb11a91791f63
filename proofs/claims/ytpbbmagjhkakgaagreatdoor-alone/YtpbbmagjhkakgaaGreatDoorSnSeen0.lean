import Derived.Test.YtpbbmagjhkakgaaGreatDoorEdInvToSmSent
namespace Go.Proofs.YtpbbmagjhkakgaaGreatDoor
namespace Ev
open Go.RowKit Go.Deep Go.Maps Lf Go.Conc
def dz (w0:World) (e:Ending) (w':World):Prop:=e=.returned (.bool true)/\au (fun _=>False) w0 w'
theorem dz.aU {w0:World}:∀ e w τ d,dz w0 e w->dz w0 e (re w τ d):=fun _ _ τ d h=>⟨h.1,h.2.aU τ d⟩
theorem dz.out {w0:World}:∀ w,¬ dz w0 .outgrown w:=fun _ h=>by cases h.1
end Ev
end Go.Proofs.YtpbbmagjhkakgaaGreatDoor
