import Derived.Test.YtpbbmagjhkakgaaGreatDoorA1
import Derived.Test.YtpbbmagjhkakgaaGreatDoorRows
import Derived.ProofKit
namespace Go.Proofs.YtpbbmagjhkakgaaGreatDoor
theorem Gs:Tryz.pinned.checked.prog.funcNamed Rows.watchesUptoRow.func=some 5:=by kernel_rfl
theorem Fl:joinedFacts Tryz.pinned.checked.prog 5 Tryz.f5 (Rows.OpenSpec.upto Rows.watchesSpec).bare Rows.watchesUptoRow=true:=by kernel_rfl
theorem JR:Tryz.f5.isInstance Tryz.pinned.checked.prog Rows.watchesUptoRow.origin Rows.watchesUptoRow.targs:=yC (by kernel_rfl)
theorem JU:Tryz.f5.isWrapper Tryz.pinned.checked.prog Rows.watchesUptoRow.wrapper Rows.watchesUptoRow.mainSum:=by
 unfold Func.isWrapper;rw[bN (Cy (by kernel_rfl))];exact⟨rfl,rfl⟩
end Go.Proofs.YtpbbmagjhkakgaaGreatDoor
