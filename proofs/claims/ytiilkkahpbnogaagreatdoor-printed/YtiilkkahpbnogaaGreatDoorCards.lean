/-
  DERIVED. GIVEN WITH THE SEED: THE CARDS: each row of YtiilkkahpbnogaaGreatDoorRows.lean that lists a variable, with what it lists TIED to the program's text (the seventh form; the later family's looks); each row that meets fmt, with fmt's text TOLD by the authors' own Lean function (tested against real Go, not proved from fmt's source: count such statements apart). THE CARD IS WHAT COUNTS. Prove the row's statement (the work); the ties are given (YtiilkkahpbnogaaGreatDoorTie.lean); close each card by the builder's one call (the guide's Derived/Test/ToyasCard.lean, 'card_holds'). Laid BY PROGRAM, IN A SANDBOX (cutbox-door.mjs). By AI agents, Wed Nov 11 2026. No macro, syntax, notation, axiom, sorry.
-/
import Derived.Test.YtiilkkahpbnogaaGreatDoorRows
import GoSem.ClaimSeven
namespace Go.Proofs.YtiilkkahpbnogaaGreatDoor
namespace Rows

/-- THE TIED CARD OF 'vigillaw.Sentences'. -/
def sentencesCard : Claim7 := { stood := { row := sentencesRow, standIns := [], harness := (true, "a15c719ce86b69298c11d9d0318734ace432122964838f1b19257ad31e42bbda"), looks := true }, kinds := [], alts := [], laidByText := true, laidKinds := [.data, .data, .data, .handle, .sentinel, .sentinel, .sentinel], laidTests := true, laidLooks := .later }
def SentencesCardSaid : Prop := Claim7.holds Tryz.pinned (.plain (OpenSpec.ofChange sentencesSpec)) sentencesCard

/-- THE TIED CARD OF 'vigilkeep.Printed'. -/
def printedCard : Claim7 := { stood := { row := printedRow, standIns := [], harness := (true, "a15c719ce86b69298c11d9d0318734ace432122964838f1b19257ad31e42bbda"), looks := true }, kinds := [], alts := [], laidByText := true, laidKinds := [.data, .data, .data, .handle, .sentinel, .sentinel, .sentinel], laidTests := true, laidLooks := .later }
def PrintedCardSaid : Prop := Claim7.holds Tryz.pinned (.plain (OpenSpec.ofChange printedSpec)) printedCard

/-- THE SECOND FORM's CARD OF 'vigillaw.Sentences'. -/
def sentencesUptoCard : Claim7 := { stood := { row := sentencesUptoRow, standIns := [], harness := (true, "a15c719ce86b69298c11d9d0318734ace432122964838f1b19257ad31e42bbda"), looks := true }, kinds := [], alts := [], laidByText := true, laidKinds := [.data, .data, .data, .handle, .sentinel, .sentinel, .sentinel], laidTests := true, laidLooks := .later }
def SentencesUptoCardSaid : Prop := Claim7.holds Tryz.pinned (.plain (OpenSpec.upto sentencesSpec)) sentencesUptoCard

/-- THE SECOND FORM's CARD OF 'vigilkeep.Printed'. -/
def printedUptoCard : Claim7 := { stood := { row := printedUptoRow, standIns := [], harness := (true, "a15c719ce86b69298c11d9d0318734ace432122964838f1b19257ad31e42bbda"), looks := true }, kinds := [], alts := [], laidByText := true, laidKinds := [.data, .data, .data, .handle, .sentinel, .sentinel, .sentinel], laidTests := true, laidLooks := .later }
def PrintedUptoCardSaid : Prop := Claim7.holds Tryz.pinned (.plain (OpenSpec.upto printedSpec)) printedUptoCard
end Rows
end Go.Proofs.YtiilkkahpbnogaaGreatDoor
