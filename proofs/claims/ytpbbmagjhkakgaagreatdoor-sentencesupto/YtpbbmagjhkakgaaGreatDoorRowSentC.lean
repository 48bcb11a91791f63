/-
  The closed facts of the row on Sentences, whose arguments are bounded, each by reckoning; no condition.
-/
import Derived.Test.YtpbbmagjhkakgaaGreatDoorRows
import Derived.ProofKit
import Derived.JoinedCond
namespace Go.Proofs.YtpbbmagjhkakgaaGreatDoor

theorem sent_named : Tryz.pinned.checked.prog.funcNamed ({ Rows.sentencesUptoRow with leaving := false } : OpenClaim).func = some 3 := by kernel_rfl
theorem sent_closed : joinedFacts Tryz.pinned.checked.prog 3 Tryz.f3 (Rows.OpenSpec.upto Rows.sentencesSpec).bare ({ Rows.sentencesUptoRow with leaving := false } : OpenClaim) = true := by kernel_rfl
theorem sent_inst : Tryz.f3.isInstance Tryz.pinned.checked.prog ({ Rows.sentencesUptoRow with leaving := false } : OpenClaim).origin ({ Rows.sentencesUptoRow with leaving := false } : OpenClaim).targs := of_decide_eq_true (by kernel_rfl)
theorem sent_wrap : Tryz.f3.isWrapper Tryz.pinned.checked.prog ({ Rows.sentencesUptoRow with leaving := false } : OpenClaim).wrapper ({ Rows.sentencesUptoRow with leaving := false } : OpenClaim).mainSum := by
  unfold Func.isWrapper; rw [if_neg (of_decide_eq_false (by kernel_rfl))]; exact ⟨rfl, rfl⟩

end Go.Proofs.YtpbbmagjhkakgaaGreatDoor
