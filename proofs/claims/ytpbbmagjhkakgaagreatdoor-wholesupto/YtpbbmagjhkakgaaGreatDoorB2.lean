import Derived.Test.YtpbbmagjhkakgaaGreatDoorA1
import Derived.Test.YtpbbmagjhkakgaaGreatDoorRows
import Derived.ProofKit
namespace Go.Proofs.YtpbbmagjhkakgaaGreatDoor
theorem JV:Tryz.pinned.checked.prog.funcNamed Rows.wholesUptoRow.func=some 11:=by kernel_rfl
theorem Gu:joinedFacts Tryz.pinned.checked.prog 11 Tryz.f11 (Rows.OpenSpec.upto Rows.wholesSpec).bare Rows.wholesUptoRow=true:=by kernel_rfl
theorem Mq:Tryz.f11.isInstance Tryz.pinned.checked.prog Rows.wholesUptoRow.origin Rows.wholesUptoRow.targs:=yC (by kernel_rfl)
theorem Mt:Tryz.f11.isWrapper Tryz.pinned.checked.prog Rows.wholesUptoRow.wrapper Rows.wholesUptoRow.mainSum:=by
 unfold Func.isWrapper;rw[bN (Cy (by kernel_rfl))];exact⟨rfl,rfl⟩
end Go.Proofs.YtpbbmagjhkakgaaGreatDoor
