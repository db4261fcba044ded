/-
  DERIVED. GIVEN WITH THE SEED: THE CARDS: each row of YtjjngablalnbeaaDoorRows.lean that lists a variable, with what it lists TIED to the program's text (the seventh form; the later family's looks); each row that meets fmt, with fmt's text TOLD by the authors' own Lean function (tested against real Go, not proved from fmt's source: count such statements apart). THE CARD IS WHAT COUNTS. Prove the row's statement (the work); the ties are given (YtjjngablalnbeaaDoorTie.lean); close each card by the builder's one call (the guide's Derived/Test/ToyasCard.lean, 'card_holds'). Laid BY PROGRAM, IN A SANDBOX (cutbox-door.mjs). By AI agents, Wed Nov 11 2026. No macro, syntax, notation, axiom, sorry.
-/
import Derived.Test.YtjjngablalnbeaaDoorRows
import GoSem.ClaimSeven
namespace Go.Proofs.YtjjngablalnbeaaDoor
namespace Rows

/-- THE TIED CARD OF 'batonlaw17.ElectTells'. -/
def electTellsCard : Claim7 := { stood := { row := electTellsRow, standIns := [], harness := (true, "4852bd95e0076ad4ef3b9c5f8ee597343f9cc2bdabc338d2a7edda416fc58301"), looks := false }, kinds := [], alts := [], laidByText := true, laidKinds := [.data], laidTests := true, laidLooks := .later }
def ElectTellsCardSaid : Prop := Claim7.holds Tryd.pinned (.plain (OpenSpec.ofChange electTellsSpec)) electTellsCard

/-- THE TIED CARD OF 'batonlaw17.ElectFollows'. -/
def electFollowsCard : Claim7 := { stood := { row := electFollowsRow, standIns := [], harness := (true, "4852bd95e0076ad4ef3b9c5f8ee597343f9cc2bdabc338d2a7edda416fc58301"), looks := false }, kinds := [], alts := [], laidByText := true, laidKinds := [.data], laidTests := true, laidLooks := .later }
def ElectFollowsCardSaid : Prop := Claim7.holds Tryd.pinned (.plain (OpenSpec.ofChange electFollowsSpec)) electFollowsCard

/-- THE TIED CARD OF 'batonlaw17.ElectTerms'. -/
def electTermsCard : Claim7 := { stood := { row := electTermsRow, standIns := [], harness := (true, "4852bd95e0076ad4ef3b9c5f8ee597343f9cc2bdabc338d2a7edda416fc58301"), looks := false }, kinds := [], alts := [], laidByText := true, laidKinds := [.data], laidTests := true, laidLooks := .later }
def ElectTermsCardSaid : Prop := Claim7.holds Tryd.pinned (.plain (OpenSpec.ofChange electTermsSpec)) electTermsCard

/-- THE TIED CARD OF 'batonlaw17.ElectParts'. -/
def electPartsCard : Claim7 := { stood := { row := electPartsRow, standIns := [], harness := (true, "4852bd95e0076ad4ef3b9c5f8ee597343f9cc2bdabc338d2a7edda416fc58301"), looks := false }, kinds := [], alts := [], laidByText := true, laidKinds := [.data], laidTests := true, laidLooks := .later }
def ElectPartsCardSaid : Prop := Claim7.holds Tryd.pinned (.plain (OpenSpec.ofChange electPartsSpec)) electPartsCard

/-- THE TIED CARD OF 'batonlaw17.ElectLeads'. -/
def electLeadsCard : Claim7 := { stood := { row := electLeadsRow, standIns := [], harness := (true, "4852bd95e0076ad4ef3b9c5f8ee597343f9cc2bdabc338d2a7edda416fc58301"), looks := false }, kinds := [], alts := [], laidByText := true, laidKinds := [.data], laidTests := true, laidLooks := .later }
def ElectLeadsCardSaid : Prop := Claim7.holds Tryd.pinned (.plain (OpenSpec.ofChange electLeadsSpec)) electLeadsCard

/-- THE TIED CARD OF 'batonlaw17.ElectSays'. -/
def electSaysCard : Claim7 := { stood := { row := electSaysRow, standIns := [], harness := (true, "4852bd95e0076ad4ef3b9c5f8ee597343f9cc2bdabc338d2a7edda416fc58301"), looks := false }, kinds := [], alts := [], laidByText := true, laidKinds := [.data], laidTests := true, laidLooks := .later }
def ElectSaysCardSaid : Prop := Claim7.holds Tryd.pinned (.plain (OpenSpec.ofChange electSaysSpec)) electSaysCard

/-- THE SECOND FORM's CARD OF 'batonlaw17.ElectTells'. -/
def electTellsUptoCard : Claim7 := { stood := { row := electTellsUptoRow, standIns := [], harness := (true, "4852bd95e0076ad4ef3b9c5f8ee597343f9cc2bdabc338d2a7edda416fc58301"), looks := false }, kinds := [], alts := [], laidByText := true, laidKinds := [.data], laidTests := true, laidLooks := .later }
def ElectTellsUptoCardSaid : Prop := Claim7.holds Tryd.pinned (.plain (OpenSpec.upto electTellsSpec)) electTellsUptoCard

/-- THE SECOND FORM's CARD OF 'batonlaw17.ElectFollows'. -/
def electFollowsUptoCard : Claim7 := { stood := { row := electFollowsUptoRow, standIns := [], harness := (true, "4852bd95e0076ad4ef3b9c5f8ee597343f9cc2bdabc338d2a7edda416fc58301"), looks := false }, kinds := [], alts := [], laidByText := true, laidKinds := [.data], laidTests := true, laidLooks := .later }
def ElectFollowsUptoCardSaid : Prop := Claim7.holds Tryd.pinned (.plain (OpenSpec.upto electFollowsSpec)) electFollowsUptoCard

/-- THE SECOND FORM's CARD OF 'batonlaw17.ElectTerms'. -/
def electTermsUptoCard : Claim7 := { stood := { row := electTermsUptoRow, standIns := [], harness := (true, "4852bd95e0076ad4ef3b9c5f8ee597343f9cc2bdabc338d2a7edda416fc58301"), looks := false }, kinds := [], alts := [], laidByText := true, laidKinds := [.data], laidTests := true, laidLooks := .later }
def ElectTermsUptoCardSaid : Prop := Claim7.holds Tryd.pinned (.plain (OpenSpec.upto electTermsSpec)) electTermsUptoCard

/-- THE SECOND FORM's CARD OF 'batonlaw17.ElectParts'. -/
def electPartsUptoCard : Claim7 := { stood := { row := electPartsUptoRow, standIns := [], harness := (true, "4852bd95e0076ad4ef3b9c5f8ee597343f9cc2bdabc338d2a7edda416fc58301"), looks := false }, kinds := [], alts := [], laidByText := true, laidKinds := [.data], laidTests := true, laidLooks := .later }
def ElectPartsUptoCardSaid : Prop := Claim7.holds Tryd.pinned (.plain (OpenSpec.upto electPartsSpec)) electPartsUptoCard

/-- THE SECOND FORM's CARD OF 'batonlaw17.ElectLeads'. -/
def electLeadsUptoCard : Claim7 := { stood := { row := electLeadsUptoRow, standIns := [], harness := (true, "4852bd95e0076ad4ef3b9c5f8ee597343f9cc2bdabc338d2a7edda416fc58301"), looks := false }, kinds := [], alts := [], laidByText := true, laidKinds := [.data], laidTests := true, laidLooks := .later }
def ElectLeadsUptoCardSaid : Prop := Claim7.holds Tryd.pinned (.plain (OpenSpec.upto electLeadsSpec)) electLeadsUptoCard

/-- THE SECOND FORM's CARD OF 'batonlaw17.ElectSays'. -/
def electSaysUptoCard : Claim7 := { stood := { row := electSaysUptoRow, standIns := [], harness := (true, "4852bd95e0076ad4ef3b9c5f8ee597343f9cc2bdabc338d2a7edda416fc58301"), looks := false }, kinds := [], alts := [], laidByText := true, laidKinds := [.data], laidTests := true, laidLooks := .later }
def ElectSaysUptoCardSaid : Prop := Claim7.holds Tryd.pinned (.plain (OpenSpec.upto electSaysSpec)) electSaysUptoCard
end Rows
end Go.Proofs.YtjjngablalnbeaaDoor
