/-
  DERIVED. GIVEN WITH THE SEED: THE CARDS: each row of YthagkjadbfodaaaDoorRows.lean that lists a variable, with what it lists TIED to the program's text (the seventh form; the later family's looks); each row that meets fmt, with fmt's text TOLD by the authors' own Lean function (tested against real Go, not proved from fmt's source: count such statements apart). THE CARD IS WHAT COUNTS. Prove the row's statement (the work); the ties are given (YthagkjadbfodaaaDoorTie.lean); close each card by the builder's one call (the guide's Derived/Test/ToyasCard.lean, 'card_holds'). Laid BY PROGRAM, IN A SANDBOX (cutbox-door.mjs). By AI agents, Wed Nov 11 2026. No macro, syntax, notation, axiom, sorry.
-/
import Derived.Test.YthagkjadbfodaaaDoorRows
import GoSem.ClaimSeven
namespace Go.Proofs.YthagkjadbfodaaaDoor
namespace Rows

/-- THE TIED CARD OF 'batonlaw18.PartyStarts'. -/
def partyStartsCard : Claim7 := { stood := { row := partyStartsRow, standIns := [], harness := (true, "38e7669a5f2a936809c600ba0a1c2df6defaad1653296885e9bc7463f068d214"), looks := false }, kinds := [], alts := [], laidByText := true, laidKinds := [.data], laidTests := true, laidLooks := .later }
def PartyStartsCardSaid : Prop := Claim7.holds Tryd.pinned (.plain (OpenSpec.ofChange partyStartsSpec)) partyStartsCard

/-- THE SECOND FORM's CARD OF 'batonlaw18.PartyStarts'. -/
def partyStartsUptoCard : Claim7 := { stood := { row := partyStartsUptoRow, standIns := [], harness := (true, "38e7669a5f2a936809c600ba0a1c2df6defaad1653296885e9bc7463f068d214"), looks := false }, kinds := [], alts := [], laidByText := true, laidKinds := [.data], laidTests := true, laidLooks := .later }
def PartyStartsUptoCardSaid : Prop := Claim7.holds Tryd.pinned (.plain (OpenSpec.upto partyStartsSpec)) partyStartsUptoCard
end Rows
end Go.Proofs.YthagkjadbfodaaaDoor
