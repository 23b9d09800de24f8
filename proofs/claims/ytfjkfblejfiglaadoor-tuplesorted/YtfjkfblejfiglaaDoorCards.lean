/-
  DERIVED. GIVEN WITH THE SEED: THE CARDS: each row of YtfjkfblejfiglaaDoorRows.lean that lists a variable, with what it lists TIED to the program's text (the seventh form; the later family's looks); each row that meets fmt, with fmt's text TOLD by the authors' own Lean function (tested against real Go, not proved from fmt's source: count such statements apart). THE CARD IS WHAT COUNTS. Prove the row's statement (the work); the ties are given (YtfjkfblejfiglaaDoorTie.lean); close each card by the builder's one call (the guide's Derived/Test/ToyasCard.lean, 'card_holds'). Laid BY PROGRAM, IN A SANDBOX (cutbox-door.mjs). By AI agents, Wed Nov 11 2026. No macro, syntax, notation, axiom, sorry.
-/
import Derived.Test.YtfjkfblejfiglaaDoorRows
import GoSem.ClaimSeven
namespace Go.Proofs.YtfjkfblejfiglaaDoor
namespace Rows

/-- THE TIED CARD OF 'lambrequinlaw03.TupleSorts'. -/
def tupleSortsCard : Claim7 := { stood := { row := tupleSortsRow, standIns := [], harness := (true, "f96085bef93509feca5b427c28acd11623a18bb2ab2af7312c5a9257817fe40c"), looks := false }, kinds := [], alts := [], laidByText := true, laidKinds := [.data, .data, .data], laidTests := true, laidLooks := .later }
def TupleSortsCardSaid : Prop := Claim7.holds Tryd.pinned (.plain (OpenSpec.ofChange tupleSortsSpec)) tupleSortsCard

/-- THE TIED CARD OF 'lambrequinlaw03.TupleSorted'. -/
def tupleSortedCard : Claim7 := { stood := { row := tupleSortedRow, standIns := [], harness := (true, "f96085bef93509feca5b427c28acd11623a18bb2ab2af7312c5a9257817fe40c"), looks := false }, kinds := [], alts := [], laidByText := true, laidKinds := [.data, .data, .data], laidTests := true, laidLooks := .later }
def TupleSortedCardSaid : Prop := Claim7.holds Tryd.pinned (.plain (OpenSpec.ofChange tupleSortedSpec)) tupleSortedCard

/-- THE SECOND FORM's CARD OF 'lambrequinlaw03.TupleSorts'. -/
def tupleSortsUptoCard : Claim7 := { stood := { row := tupleSortsUptoRow, standIns := [], harness := (true, "f96085bef93509feca5b427c28acd11623a18bb2ab2af7312c5a9257817fe40c"), looks := false }, kinds := [], alts := [], laidByText := true, laidKinds := [.data, .data, .data], laidTests := true, laidLooks := .later }
def TupleSortsUptoCardSaid : Prop := Claim7.holds Tryd.pinned (.plain (OpenSpec.upto tupleSortsSpec)) tupleSortsUptoCard

/-- THE SECOND FORM's CARD OF 'lambrequinlaw03.TupleSorted'. -/
def tupleSortedUptoCard : Claim7 := { stood := { row := tupleSortedUptoRow, standIns := [], harness := (true, "f96085bef93509feca5b427c28acd11623a18bb2ab2af7312c5a9257817fe40c"), looks := false }, kinds := [], alts := [], laidByText := true, laidKinds := [.data, .data, .data], laidTests := true, laidLooks := .later }
def TupleSortedUptoCardSaid : Prop := Claim7.holds Tryd.pinned (.plain (OpenSpec.upto tupleSortedSpec)) tupleSortedUptoCard
end Rows
end Go.Proofs.YtfjkfblejfiglaaDoor
