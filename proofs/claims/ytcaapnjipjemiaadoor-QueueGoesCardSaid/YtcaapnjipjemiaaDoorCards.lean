/-
  DERIVED. GIVEN WITH THE SEED: THE CARDS: each row of YtcaapnjipjemiaaDoorRows.lean that lists a variable, with what it lists TIED to the program's text (the seventh form; the later family's looks); each row that meets fmt, with fmt's text TOLD by the authors' own Lean function (tested against real Go, not proved from fmt's source: count such statements apart). THE CARD IS WHAT COUNTS. Prove the row's statement (the work); the ties are given (YtcaapnjipjemiaaDoorTie.lean); close each card by the builder's one call (the guide's Derived/Test/ToyasCard.lean, 'card_holds'). Laid BY PROGRAM, IN A SANDBOX (cutbox-door.mjs). By AI agents, Wed Nov 11 2026. No macro, syntax, notation, axiom, sorry.
-/
import Derived.Test.YtcaapnjipjemiaaDoorRows
import GoSem.ClaimSeven
namespace Go.Proofs.YtcaapnjipjemiaaDoor
namespace Rows

/-- THE TIED CARD OF 'batonlaw19.QueueStarts'. -/
def queueStartsCard : Claim7 := { stood := { row := queueStartsRow, standIns := [], harness := (true, "2c7de418406790c789c541c6759e1a152a391359566e5ff573c7f6762d7245b9"), looks := false }, kinds := [], alts := [], laidByText := true, laidKinds := [.data], laidTests := true, laidLooks := .later }
def QueueStartsCardSaid : Prop := Claim7.holds Tryd.pinned (.plain (OpenSpec.ofChange queueStartsSpec)) queueStartsCard

/-- THE TIED CARD OF 'batonlaw19.QueueGoes'. -/
def queueGoesCard : Claim7 := { stood := { row := queueGoesRow, standIns := [], harness := (true, "2c7de418406790c789c541c6759e1a152a391359566e5ff573c7f6762d7245b9"), looks := false }, kinds := [], alts := [], laidByText := true, laidKinds := [.data], laidTests := true, laidLooks := .later }
def QueueGoesCardSaid : Prop := Claim7.holds Tryd.pinned (.plain (OpenSpec.ofChange queueGoesSpec)) queueGoesCard

/-- THE SECOND FORM's CARD OF 'batonlaw19.QueueStarts'. -/
def queueStartsUptoCard : Claim7 := { stood := { row := queueStartsUptoRow, standIns := [], harness := (true, "2c7de418406790c789c541c6759e1a152a391359566e5ff573c7f6762d7245b9"), looks := false }, kinds := [], alts := [], laidByText := true, laidKinds := [.data], laidTests := true, laidLooks := .later }
def QueueStartsUptoCardSaid : Prop := Claim7.holds Tryd.pinned (.plain (OpenSpec.upto queueStartsSpec)) queueStartsUptoCard

/-- THE SECOND FORM's CARD OF 'batonlaw19.QueueGoes'. -/
def queueGoesUptoCard : Claim7 := { stood := { row := queueGoesUptoRow, standIns := [], harness := (true, "2c7de418406790c789c541c6759e1a152a391359566e5ff573c7f6762d7245b9"), looks := false }, kinds := [], alts := [], laidByText := true, laidKinds := [.data], laidTests := true, laidLooks := .later }
def QueueGoesUptoCardSaid : Prop := Claim7.holds Tryd.pinned (.plain (OpenSpec.upto queueGoesSpec)) queueGoesUptoCard
end Rows
end Go.Proofs.YtcaapnjipjemiaaDoor
