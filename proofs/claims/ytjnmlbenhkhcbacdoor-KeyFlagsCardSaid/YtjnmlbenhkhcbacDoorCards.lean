/-
  DERIVED. GIVEN WITH THE SEED: THE CARDS: each row of YtjnmlbenhkhcbacDoorRows.lean that lists a variable, with what it lists TIED to the program's text (the seventh form; the later family's looks); each row that meets fmt, with fmt's text TOLD by the authors' own Lean function (tested against real Go, not proved from fmt's source: count such statements apart). THE CARD IS WHAT COUNTS. Prove the row's statement (the work); the ties are given (YtjnmlbenhkhcbacDoorTie.lean); close each card by the builder's one call (the guide's Derived/Test/ToyasCard.lean, 'card_holds'). Laid BY PROGRAM, IN A SANDBOX (cutbox-door.mjs). By AI agents, Wed Nov 11 2026. No macro, syntax, notation, axiom, sorry.
-/
import Derived.Test.YtjnmlbenhkhcbacDoorRows
import GoSem.ClaimSeven
namespace Go.Proofs.YtjnmlbenhkhcbacDoor
namespace Rows

/-- THE TIED CARD OF 'batonlaw02.KeyFlags'. -/
def keyFlagsCard : Claim7 := { stood := { row := keyFlagsRow, standIns := [], harness := (true, "cf590a85d25729aa336a0ccd85782960c4d783bce648ba3b774b78c75321251a"), looks := false }, kinds := [], alts := [], laidByText := true, laidKinds := [.data], laidTests := true, laidLooks := .later }
def KeyFlagsCardSaid : Prop := Claim7.holds Tryd.pinned (.plain (OpenSpec.ofChange keyFlagsSpec)) keyFlagsCard

/-- THE SECOND FORM's CARD OF 'batonlaw02.KeyFlags'. -/
def keyFlagsUptoCard : Claim7 := { stood := { row := keyFlagsUptoRow, standIns := [], harness := (true, "cf590a85d25729aa336a0ccd85782960c4d783bce648ba3b774b78c75321251a"), looks := false }, kinds := [], alts := [], laidByText := true, laidKinds := [.data], laidTests := true, laidLooks := .later }
def KeyFlagsUptoCardSaid : Prop := Claim7.holds Tryd.pinned (.plain (OpenSpec.upto keyFlagsSpec)) keyFlagsUptoCard
end Rows
end Go.Proofs.YtjnmlbenhkhcbacDoor
