import Derived.Test.YtpbbmagjhkakgaaGreatDoorA1
import Derived.Test.YtpbbmagjhkakgaaGreatDoorRows
import Derived.ProofKit
namespace Go.Proofs.YtpbbmagjhkakgaaGreatDoor
theorem PH:Tryz.pinned.checked.prog.funcNamed Rows.allUptoRow.func=some 12:=by kernel_rfl
theorem Mk:joinedFacts Tryz.pinned.checked.prog 12 Tryz.f12 (Rows.OpenSpec.upto Rows.allSpec).bare Rows.allUptoRow=true:=by kernel_rfl
theorem Sc:Tryz.f12.isInstance Tryz.pinned.checked.prog Rows.allUptoRow.origin Rows.allUptoRow.targs:=Fe (by kernel_rfl)
theorem Se:Tryz.f12.isWrapper Tryz.pinned.checked.prog Rows.allUptoRow.wrapper Rows.allUptoRow.mainSum:=by
 unfold Func.isWrapper;rw[bN (Hn (by kernel_rfl))];exact⟨rfl,rfl⟩
end Go.Proofs.YtpbbmagjhkakgaaGreatDoor
