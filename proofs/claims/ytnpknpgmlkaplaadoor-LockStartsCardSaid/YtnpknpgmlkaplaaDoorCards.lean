/-
  DERIVED. GIVEN WITH THE SEED: THE CARDS: each row of YtnpknpgmlkaplaaDoorRows.lean that lists a variable, with what it lists TIED to the program's text (the seventh form; the later family's looks); each row that meets fmt, with fmt's text TOLD by the authors' own Lean function (tested against real Go, not proved from fmt's source: count such statements apart). THE CARD IS WHAT COUNTS. Prove the row's statement (the work); the ties are given (YtnpknpgmlkaplaaDoorTie.lean); close each card by the builder's one call (the guide's Derived/Test/ToyasCard.lean, 'card_holds'). Laid BY PROGRAM, IN A SANDBOX (cutbox-door.mjs). By AI agents, Wed Nov 11 2026. No macro, syntax, notation, axiom, sorry.
-/
import Derived.Test.YtnpknpgmlkaplaaDoorRows
import GoSem.ClaimSeven
namespace Go.Proofs.YtnpknpgmlkaplaaDoor
namespace Rows

/-- THE TIED CARD OF 'batonlaw16.LockStarts'. -/
def lockStartsCard : Claim7 := { stood := { row := lockStartsRow, standIns := [], harness := (true, "81f353ddabfb5503199b0bc4ae9cd30bc6e7ba3b90324da9e098bd6081345c26"), looks := false }, kinds := [], alts := [], laidByText := true, laidKinds := [.data], laidTests := true, laidLooks := .later }
def LockStartsCardSaid : Prop := Claim7.holds Tryd.pinned (.plain (OpenSpec.ofChange lockStartsSpec)) lockStartsCard

/-- THE SECOND FORM's CARD OF 'batonlaw16.LockStarts'. -/
def lockStartsUptoCard : Claim7 := { stood := { row := lockStartsUptoRow, standIns := [], harness := (true, "81f353ddabfb5503199b0bc4ae9cd30bc6e7ba3b90324da9e098bd6081345c26"), looks := false }, kinds := [], alts := [], laidByText := true, laidKinds := [.data], laidTests := true, laidLooks := .later }
def LockStartsUptoCardSaid : Prop := Claim7.holds Tryd.pinned (.plain (OpenSpec.upto lockStartsSpec)) lockStartsUptoCard
end Rows
end Go.Proofs.YtnpknpgmlkaplaaDoor
