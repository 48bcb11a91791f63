/-
  DERIVED. GIVEN WITH THE SEED: THE CARDS: each row of YtpbbmagjhkakgaaGreatDoorRows.lean that lists a variable, with what it lists TIED to the program's text (the seventh form; the later family's looks); each row that meets fmt, with fmt's text TOLD by the authors' own Lean function (tested against real Go, not proved from fmt's source: count such statements apart). THE CARD IS WHAT COUNTS. Prove the row's statement (the work); the ties are given (YtpbbmagjhkakgaaGreatDoorTie.lean); close each card by the builder's one call (the guide's Derived/Test/ToyasCard.lean, 'card_holds'). Laid BY PROGRAM, IN A SANDBOX (cutbox-door.mjs). By AI agents, Wed Nov 11 2026. No macro, syntax, notation, axiom, sorry.
-/
import Derived.Test.YtpbbmagjhkakgaaGreatDoorRows
import GoSem.ClaimSeven
namespace Go.Proofs.YtpbbmagjhkakgaaGreatDoor
namespace Rows

/-- THE TIED CARD OF 'vigillaw.Sentences'. -/
def sentencesCard : Claim7 := { stood := { row := sentencesRow, standIns := [], harness := (true, "5113fafe9c12d8341fd2e4ad74768ce5012e95d9d4597a1e705fbb1f3bab6100"), looks := true }, kinds := [], alts := [], goes := true, laidByText := true, laidKinds := [.data, .data, .data, .handle, .sentinel, .sentinel, .sentinel, .sentinel, .sentinel, .sentinel, .sentinel, .sentinel, .sentinel], laidTests := true, laidLooks := .later }
def SentencesCardSaid : Prop := Claim7.holds Tryz.pinned (.plain (OpenSpec.ofChange sentencesSpec)) sentencesCard

/-- THE TIED CARD OF 'vigilkeep.Printed'. -/
def printedCard : Claim7 := { stood := { row := printedRow, standIns := [], harness := (true, "5113fafe9c12d8341fd2e4ad74768ce5012e95d9d4597a1e705fbb1f3bab6100"), looks := true }, kinds := [], alts := [], goes := true, laidByText := true, laidKinds := [.data, .data, .data, .handle, .sentinel, .sentinel, .sentinel, .sentinel, .sentinel, .sentinel, .sentinel, .sentinel, .sentinel], laidTests := true, laidLooks := .later }
def PrintedCardSaid : Prop := Claim7.holds Tryz.pinned (.plain (OpenSpec.ofChange printedSpec)) printedCard

/-- THE TIED CARD OF 'vigillaw.Watches'. -/
def watchesCard : Claim7 := { stood := { row := watchesRow, standIns := [], harness := (true, "5113fafe9c12d8341fd2e4ad74768ce5012e95d9d4597a1e705fbb1f3bab6100"), looks := true }, kinds := [], alts := [], goes := true, laidByText := true, laidKinds := [.data, .data, .data, .handle, .sentinel, .sentinel, .sentinel, .sentinel, .sentinel, .sentinel, .sentinel, .sentinel, .sentinel], laidTests := true, laidLooks := .later }
def WatchesCardSaid : Prop := Claim7.holds Tryz.pinned (.plain (OpenSpec.ofChange watchesSpec)) watchesCard

/-- THE TIED CARD OF 'vigilkeep.Same'. -/
def sameCard : Claim7 := { stood := { row := sameRow, standIns := [], harness := (true, "5113fafe9c12d8341fd2e4ad74768ce5012e95d9d4597a1e705fbb1f3bab6100"), looks := true }, kinds := [], alts := [], goes := true, laidByText := true, laidKinds := [.data, .data, .data, .handle, .sentinel, .sentinel, .sentinel, .sentinel, .sentinel, .sentinel, .sentinel, .sentinel, .sentinel], laidTests := true, laidLooks := .later }
def SameCardSaid : Prop := Claim7.holds Tryz.pinned (.plain (OpenSpec.ofChange sameSpec)) sameCard

/-- THE TIED CARD OF 'vigilkeep.Seen'. -/
def seenCard : Claim7 := { stood := { row := seenRow, standIns := [], harness := (true, "5113fafe9c12d8341fd2e4ad74768ce5012e95d9d4597a1e705fbb1f3bab6100"), looks := true }, kinds := [], alts := [], goes := true, laidByText := true, laidKinds := [.data, .data, .data, .handle, .sentinel, .sentinel, .sentinel, .sentinel, .sentinel, .sentinel, .sentinel, .sentinel, .sentinel], laidTests := true, laidLooks := .later }
def SeenCardSaid : Prop := Claim7.holds Tryz.pinned (.plain (OpenSpec.ofChange seenSpec)) seenCard

/-- THE TIED CARD OF 'vigilkeep.Forgotten'. -/
def forgottenCard : Claim7 := { stood := { row := forgottenRow, standIns := [], harness := (true, "5113fafe9c12d8341fd2e4ad74768ce5012e95d9d4597a1e705fbb1f3bab6100"), looks := true }, kinds := [], alts := [], goes := true, laidByText := true, laidKinds := [.data, .data, .data, .handle, .sentinel, .sentinel, .sentinel, .sentinel, .sentinel, .sentinel, .sentinel, .sentinel, .sentinel], laidTests := true, laidLooks := .later }
def ForgottenCardSaid : Prop := Claim7.holds Tryz.pinned (.plain (OpenSpec.ofChange forgottenSpec)) forgottenCard

/-- THE TIED CARD OF 'vigilkeep.Late'. -/
def lateCard : Claim7 := { stood := { row := lateRow, standIns := [], harness := (true, "5113fafe9c12d8341fd2e4ad74768ce5012e95d9d4597a1e705fbb1f3bab6100"), looks := true }, kinds := [], alts := [], goes := true, laidByText := true, laidKinds := [.data, .data, .data, .handle, .sentinel, .sentinel, .sentinel, .sentinel, .sentinel, .sentinel, .sentinel, .sentinel, .sentinel], laidTests := true, laidLooks := .later }
def LateCardSaid : Prop := Claim7.holds Tryz.pinned (.plain (OpenSpec.ofChange lateSpec)) lateCard

/-- THE TIED CARD OF 'vigilkeep.Alone'. -/
def aloneCard : Claim7 := { stood := { row := aloneRow, standIns := [], harness := (true, "5113fafe9c12d8341fd2e4ad74768ce5012e95d9d4597a1e705fbb1f3bab6100"), looks := true }, kinds := [], alts := [], goes := true, laidByText := true, laidKinds := [.data, .data, .data, .handle, .sentinel, .sentinel, .sentinel, .sentinel, .sentinel, .sentinel, .sentinel, .sentinel, .sentinel], laidTests := true, laidLooks := .later }
def AloneCardSaid : Prop := Claim7.holds Tryz.pinned (.plain (OpenSpec.ofChange aloneSpec)) aloneCard

/-- THE TIED CARD OF 'vigillaw.Wholes'. -/
def wholesCard : Claim7 := { stood := { row := wholesRow, standIns := [], harness := (true, "5113fafe9c12d8341fd2e4ad74768ce5012e95d9d4597a1e705fbb1f3bab6100"), looks := true }, kinds := [], alts := [], goes := true, laidByText := true, laidKinds := [.data, .data, .data, .handle, .sentinel, .sentinel, .sentinel, .sentinel, .sentinel, .sentinel, .sentinel, .sentinel, .sentinel], laidTests := true, laidLooks := .later }
def WholesCardSaid : Prop := Claim7.holds Tryz.pinned (.plain (OpenSpec.ofChange wholesSpec)) wholesCard

/-- THE TIED CARD OF 'vigillaw.All'. -/
def allCard : Claim7 := { stood := { row := allRow, standIns := [], harness := (true, "5113fafe9c12d8341fd2e4ad74768ce5012e95d9d4597a1e705fbb1f3bab6100"), looks := true }, kinds := [], alts := [], goes := true, laidByText := true, laidKinds := [.data, .data, .data, .handle, .sentinel, .sentinel, .sentinel, .sentinel, .sentinel, .sentinel, .sentinel, .sentinel, .sentinel], laidTests := true, laidLooks := .later }
def AllCardSaid : Prop := Claim7.holds Tryz.pinned (.plain (OpenSpec.ofChange allSpec)) allCard

/-- THE SECOND FORM's CARD OF 'vigillaw.Sentences'. -/
def sentencesUptoCard : Claim7 := { stood := { row := sentencesUptoRow, standIns := [], harness := (true, "5113fafe9c12d8341fd2e4ad74768ce5012e95d9d4597a1e705fbb1f3bab6100"), looks := true }, kinds := [], alts := [], goes := true, laidByText := true, laidKinds := [.data, .data, .data, .handle, .sentinel, .sentinel, .sentinel, .sentinel, .sentinel, .sentinel, .sentinel, .sentinel, .sentinel], laidTests := true, laidLooks := .later }
def SentencesUptoCardSaid : Prop := Claim7.holds Tryz.pinned (.plain (OpenSpec.upto sentencesSpec)) sentencesUptoCard

/-- THE SECOND FORM's CARD OF 'vigilkeep.Printed'. -/
def printedUptoCard : Claim7 := { stood := { row := printedUptoRow, standIns := [], harness := (true, "5113fafe9c12d8341fd2e4ad74768ce5012e95d9d4597a1e705fbb1f3bab6100"), looks := true }, kinds := [], alts := [], goes := true, laidByText := true, laidKinds := [.data, .data, .data, .handle, .sentinel, .sentinel, .sentinel, .sentinel, .sentinel, .sentinel, .sentinel, .sentinel, .sentinel], laidTests := true, laidLooks := .later }
def PrintedUptoCardSaid : Prop := Claim7.holds Tryz.pinned (.plain (OpenSpec.upto printedSpec)) printedUptoCard

/-- THE SECOND FORM's CARD OF 'vigillaw.Watches'. -/
def watchesUptoCard : Claim7 := { stood := { row := watchesUptoRow, standIns := [], harness := (true, "5113fafe9c12d8341fd2e4ad74768ce5012e95d9d4597a1e705fbb1f3bab6100"), looks := true }, kinds := [], alts := [], goes := true, laidByText := true, laidKinds := [.data, .data, .data, .handle, .sentinel, .sentinel, .sentinel, .sentinel, .sentinel, .sentinel, .sentinel, .sentinel, .sentinel], laidTests := true, laidLooks := .later }
def WatchesUptoCardSaid : Prop := Claim7.holds Tryz.pinned (.plain (OpenSpec.upto watchesSpec)) watchesUptoCard

/-- THE SECOND FORM's CARD OF 'vigilkeep.Same'. -/
def sameUptoCard : Claim7 := { stood := { row := sameUptoRow, standIns := [], harness := (true, "5113fafe9c12d8341fd2e4ad74768ce5012e95d9d4597a1e705fbb1f3bab6100"), looks := true }, kinds := [], alts := [], goes := true, laidByText := true, laidKinds := [.data, .data, .data, .handle, .sentinel, .sentinel, .sentinel, .sentinel, .sentinel, .sentinel, .sentinel, .sentinel, .sentinel], laidTests := true, laidLooks := .later }
def SameUptoCardSaid : Prop := Claim7.holds Tryz.pinned (.plain (OpenSpec.upto sameSpec)) sameUptoCard

/-- THE SECOND FORM's CARD OF 'vigilkeep.Seen'. -/
def seenUptoCard : Claim7 := { stood := { row := seenUptoRow, standIns := [], harness := (true, "5113fafe9c12d8341fd2e4ad74768ce5012e95d9d4597a1e705fbb1f3bab6100"), looks := true }, kinds := [], alts := [], goes := true, laidByText := true, laidKinds := [.data, .data, .data, .handle, .sentinel, .sentinel, .sentinel, .sentinel, .sentinel, .sentinel, .sentinel, .sentinel, .sentinel], laidTests := true, laidLooks := .later }
def SeenUptoCardSaid : Prop := Claim7.holds Tryz.pinned (.plain (OpenSpec.upto seenSpec)) seenUptoCard

/-- THE SECOND FORM's CARD OF 'vigilkeep.Forgotten'. -/
def forgottenUptoCard : Claim7 := { stood := { row := forgottenUptoRow, standIns := [], harness := (true, "5113fafe9c12d8341fd2e4ad74768ce5012e95d9d4597a1e705fbb1f3bab6100"), looks := true }, kinds := [], alts := [], goes := true, laidByText := true, laidKinds := [.data, .data, .data, .handle, .sentinel, .sentinel, .sentinel, .sentinel, .sentinel, .sentinel, .sentinel, .sentinel, .sentinel], laidTests := true, laidLooks := .later }
def ForgottenUptoCardSaid : Prop := Claim7.holds Tryz.pinned (.plain (OpenSpec.upto forgottenSpec)) forgottenUptoCard

/-- THE SECOND FORM's CARD OF 'vigilkeep.Late'. -/
def lateUptoCard : Claim7 := { stood := { row := lateUptoRow, standIns := [], harness := (true, "5113fafe9c12d8341fd2e4ad74768ce5012e95d9d4597a1e705fbb1f3bab6100"), looks := true }, kinds := [], alts := [], goes := true, laidByText := true, laidKinds := [.data, .data, .data, .handle, .sentinel, .sentinel, .sentinel, .sentinel, .sentinel, .sentinel, .sentinel, .sentinel, .sentinel], laidTests := true, laidLooks := .later }
def LateUptoCardSaid : Prop := Claim7.holds Tryz.pinned (.plain (OpenSpec.upto lateSpec)) lateUptoCard

/-- THE SECOND FORM's CARD OF 'vigilkeep.Alone'. -/
def aloneUptoCard : Claim7 := { stood := { row := aloneUptoRow, standIns := [], harness := (true, "5113fafe9c12d8341fd2e4ad74768ce5012e95d9d4597a1e705fbb1f3bab6100"), looks := true }, kinds := [], alts := [], goes := true, laidByText := true, laidKinds := [.data, .data, .data, .handle, .sentinel, .sentinel, .sentinel, .sentinel, .sentinel, .sentinel, .sentinel, .sentinel, .sentinel], laidTests := true, laidLooks := .later }
def AloneUptoCardSaid : Prop := Claim7.holds Tryz.pinned (.plain (OpenSpec.upto aloneSpec)) aloneUptoCard

/-- THE SECOND FORM's CARD OF 'vigillaw.Wholes'. -/
def wholesUptoCard : Claim7 := { stood := { row := wholesUptoRow, standIns := [], harness := (true, "5113fafe9c12d8341fd2e4ad74768ce5012e95d9d4597a1e705fbb1f3bab6100"), looks := true }, kinds := [], alts := [], goes := true, laidByText := true, laidKinds := [.data, .data, .data, .handle, .sentinel, .sentinel, .sentinel, .sentinel, .sentinel, .sentinel, .sentinel, .sentinel, .sentinel], laidTests := true, laidLooks := .later }
def WholesUptoCardSaid : Prop := Claim7.holds Tryz.pinned (.plain (OpenSpec.upto wholesSpec)) wholesUptoCard

/-- THE SECOND FORM's CARD OF 'vigillaw.All'. -/
def allUptoCard : Claim7 := { stood := { row := allUptoRow, standIns := [], harness := (true, "5113fafe9c12d8341fd2e4ad74768ce5012e95d9d4597a1e705fbb1f3bab6100"), looks := true }, kinds := [], alts := [], goes := true, laidByText := true, laidKinds := [.data, .data, .data, .handle, .sentinel, .sentinel, .sentinel, .sentinel, .sentinel, .sentinel, .sentinel, .sentinel, .sentinel], laidTests := true, laidLooks := .later }
def AllUptoCardSaid : Prop := Claim7.holds Tryz.pinned (.plain (OpenSpec.upto allSpec)) allUptoCard
end Rows
end Go.Proofs.YtpbbmagjhkakgaaGreatDoor
