/-
  DERIVED. GIVEN WITH THE SEED: THE CARDS: each row of YtekhcaanjaoioaaGreatDoorRows.lean that lists a variable, with what it lists TIED to the program's text (the seventh form; the later family's looks); each row that meets fmt, with fmt's text TOLD by the authors' own Lean function (tested against real Go, not proved from fmt's source: count such statements apart). THE CARD IS WHAT COUNTS. Prove the row's statement (the work); the ties are given (YtekhcaanjaoioaaGreatDoorTie.lean); close each card by the builder's one call (the guide's Derived/Test/ToyasCard.lean, 'card_holds'). Laid BY PROGRAM, IN A SANDBOX (cutbox-door.mjs). By AI agents, Wed Nov 11 2026. No macro, syntax, notation, axiom, sorry.
-/
import Derived.Test.YtekhcaanjaoioaaGreatDoorRows
import GoSem.ClaimSeven
namespace Go.Proofs.YtekhcaanjaoioaaGreatDoor
namespace Rows

/-- THE TIED CARD OF 'lambrequinlaw06.ParseAtoms'. -/
def parseAtomsCard : Claim7 := { stood := { row := parseAtomsRow, standIns := [], harness := (true, "0f1b02086636b44d674a6f81c98969f8c7154eecf99509916931775355ce8131"), looks := true }, kinds := [], alts := [], laidByText := true, laidKinds := [.data, .data, .data, .sentinel, .sentinel, .data, .data], laidTests := true, laidLooks := .later }
def ParseAtomsCardSaid : Prop := Claim7.holds Tryz.pinned (.plain (OpenSpec.ofChange parseAtomsSpec)) parseAtomsCard

/-- THE SECOND FORM's CARD OF 'lambrequinlaw06.ParseAtoms'. -/
def parseAtomsUptoCard : Claim7 := { stood := { row := parseAtomsUptoRow, standIns := [], harness := (true, "0f1b02086636b44d674a6f81c98969f8c7154eecf99509916931775355ce8131"), looks := true }, kinds := [], alts := [], laidByText := true, laidKinds := [.data, .data, .data, .sentinel, .sentinel, .data, .data], laidTests := true, laidLooks := .later }
def ParseAtomsUptoCardSaid : Prop := Claim7.holds Tryz.pinned (.plain (OpenSpec.upto parseAtomsSpec)) parseAtomsUptoCard
end Rows
end Go.Proofs.YtekhcaanjaoioaaGreatDoor
