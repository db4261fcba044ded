/-
  NARROWER THAN 'FOR EVERY INPUT', by the rows' own cells (each row's printed sentence says how): KeyTells: laid · KeyReads: laid · KeyBack: laid · KeyApart: laid · KeyOrder: laid.
  DERIVED. THE GIVEN ROWS OF THIS SEAT. 5 by the template 'for every input the law returns true; each argument reads behind the call as it read before'; 0 by the template 'total and deterministic' (their statements: YtjnmlbenhkhcbabDoorTotals.lean).
  GIVEN WITH THE SEED: the statements are not yours to turn. If you find one false, say at which input.
  Laid BY PROGRAM, IN A SANDBOX (cutbox-rows.mjs): the forced cells as the released guide's own fill.sh prints them over the translation 29209390025a0ca1… (all of the seat's roots in one cut). By AI agents, Wed Nov 11 2026. No macro, syntax, notation, axiom, sorry.
-/
import Derived.Test.YtjnmlbenhkhcbabDoorChecked
import GoSem.Claim
import GoSem.ClaimJoined
import GoSem.ClaimMapViews
import Derived.JoinedTies
import Derived.KernelRfl
namespace Go.Proofs.YtjnmlbenhkhcbabDoor
/- THE CELL 'sum', in the pinned program and in every row, IS THE sha256 OF THE DUMP (.gsa) THAT YtjnmlbenhkhcbabDoorProg.lean LOADS. Nothing in Lean hashes anything: it is a label: what it is worth is what the hold of that sum in a sandbox is worth. -/
noncomputable def Tryd.pinned : Pinned := { name := "ytjnmlbenhkhcbabdoor", sum := "29209390025a0ca1a201d6d4eabc13a2a2e7a55cd5f4f7bb8c308c2cb0834911", checked := Tryd.checked }
namespace Rows
def none {H : Type} : Left H := { results := [], args := [] }

/- WHAT THE LISTED PACKAGE-LEVEL VARIABLES READ AS WHEN THE CALL BEGINS. Each datum BY PROGRAM (the guide's laid-datum.mjs) off the statement by which the dump's own 'gosem.cut.vars' lays the variable. In a bare row this is a premise. The card (YtjnmlbenhkhcbabDoorCards.lean) ties it to the program's text. -/
def laid_baton_key_letters {H : Type} : DataW H := .agg [.lit (.string []), .lit (.string [109]), .lit (.string [108]), .lit (.string [108]), .lit (.string [115]), .lit (.string [101]), .lit (.string [112]), .lit (.string [113]), .lit (.string [113])]

/-- 'batonlaw02.KeyTells': WHATEVER THE INPUT: true; the input reads as it did. -/
def keyTellsSpec : ChangeSpec := { name := "keyTells", fn := fun _ => fun
  | [d1, d2, d3] => { results := [.lit (.bool true)], args := [d1, d2, d3] }
  | _ => none }
def keyTellsRow : OpenClaim := { program := "ytjnmlbenhkhcbabdoor", sum := "29209390025a0ca1a201d6d4eabc13a2a2e7a55cd5f4f7bb8c308c2cb0834911", func := "baton/batonlaw02.KeyTells", spec := "keyTells", inPlace := ["internal/bytealg.IndexByteString"], unfollowed := true, recurses := true, named := ["baton/key.letters"], apart := false, laid := [("baton/key.letters", laid_baton_key_letters)] }
def KeyTellsSaid : Prop := keyTellsRow.holds Tryd.pinned (OpenSpec.ofChange keyTellsSpec)

/-- ITS FALSE NEIGHBOUR: 'it returns false'. Refute it at one input. -/
def keyTellsWrong : ChangeSpec := { name := "keyTells", fn := fun _ => fun
  | [d1, d2, d3] => { results := [.lit (.bool false)], args := [d1, d2, d3] }
  | _ => none }
def KeyTellsWrongFalsely : Prop := keyTellsRow.holds Tryd.pinned (OpenSpec.ofChange keyTellsWrong)

/-- 'batonlaw02.KeyReads': WHATEVER THE INPUT: true; the input reads as it did. -/
def keyReadsSpec : ChangeSpec := { name := "keyReads", fn := fun _ => fun
  | [d1, d2] => { results := [.lit (.bool true)], args := [d1, d2] }
  | _ => none }
def keyReadsRow : OpenClaim := { program := "ytjnmlbenhkhcbabdoor", sum := "29209390025a0ca1a201d6d4eabc13a2a2e7a55cd5f4f7bb8c308c2cb0834911", func := "baton/batonlaw02.KeyReads", spec := "keyReads", inPlace := ["internal/bytealg.IndexByteString"], unfollowed := true, recurses := true, named := ["baton/key.letters"], apart := false, laid := [("baton/key.letters", laid_baton_key_letters)] }
def KeyReadsSaid : Prop := keyReadsRow.holds Tryd.pinned (OpenSpec.ofChange keyReadsSpec)

/-- ITS FALSE NEIGHBOUR: 'it returns false'. Refute it at one input. -/
def keyReadsWrong : ChangeSpec := { name := "keyReads", fn := fun _ => fun
  | [d1, d2] => { results := [.lit (.bool false)], args := [d1, d2] }
  | _ => none }
def KeyReadsWrongFalsely : Prop := keyReadsRow.holds Tryd.pinned (OpenSpec.ofChange keyReadsWrong)

/-- 'batonlaw02.KeyBack': WHATEVER THE INPUT: true; the input reads as it did. -/
def keyBackSpec : ChangeSpec := { name := "keyBack", fn := fun _ => fun
  | [d1, d2, d3] => { results := [.lit (.bool true)], args := [d1, d2, d3] }
  | _ => none }
def keyBackRow : OpenClaim := { program := "ytjnmlbenhkhcbabdoor", sum := "29209390025a0ca1a201d6d4eabc13a2a2e7a55cd5f4f7bb8c308c2cb0834911", func := "baton/batonlaw02.KeyBack", spec := "keyBack", inPlace := ["internal/bytealg.IndexByteString"], unfollowed := true, recurses := true, named := ["baton/key.letters"], apart := false, laid := [("baton/key.letters", laid_baton_key_letters)] }
def KeyBackSaid : Prop := keyBackRow.holds Tryd.pinned (OpenSpec.ofChange keyBackSpec)

/-- ITS FALSE NEIGHBOUR: 'it returns false'. Refute it at one input. -/
def keyBackWrong : ChangeSpec := { name := "keyBack", fn := fun _ => fun
  | [d1, d2, d3] => { results := [.lit (.bool false)], args := [d1, d2, d3] }
  | _ => none }
def KeyBackWrongFalsely : Prop := keyBackRow.holds Tryd.pinned (OpenSpec.ofChange keyBackWrong)

/-- 'batonlaw02.KeyApart': WHATEVER THE INPUT: true; the input reads as it did. -/
def keyApartSpec : ChangeSpec := { name := "keyApart", fn := fun _ => fun
  | [d1, d2, d3] => { results := [.lit (.bool true)], args := [d1, d2, d3] }
  | _ => none }
def keyApartRow : OpenClaim := { program := "ytjnmlbenhkhcbabdoor", sum := "29209390025a0ca1a201d6d4eabc13a2a2e7a55cd5f4f7bb8c308c2cb0834911", func := "baton/batonlaw02.KeyApart", spec := "keyApart", inPlace := ["internal/bytealg.IndexByteString"], unfollowed := true, recurses := true, named := ["baton/key.letters"], apart := false, laid := [("baton/key.letters", laid_baton_key_letters)] }
def KeyApartSaid : Prop := keyApartRow.holds Tryd.pinned (OpenSpec.ofChange keyApartSpec)

/-- ITS FALSE NEIGHBOUR: 'it returns false'. Refute it at one input. -/
def keyApartWrong : ChangeSpec := { name := "keyApart", fn := fun _ => fun
  | [d1, d2, d3] => { results := [.lit (.bool false)], args := [d1, d2, d3] }
  | _ => none }
def KeyApartWrongFalsely : Prop := keyApartRow.holds Tryd.pinned (OpenSpec.ofChange keyApartWrong)

/-- 'batonlaw02.KeyOrder': WHATEVER THE INPUT: true; the input reads as it did. -/
def keyOrderSpec : ChangeSpec := { name := "keyOrder", fn := fun _ => fun
  | [d1, d2, d3] => { results := [.lit (.bool true)], args := [d1, d2, d3] }
  | _ => none }
def keyOrderRow : OpenClaim := { program := "ytjnmlbenhkhcbabdoor", sum := "29209390025a0ca1a201d6d4eabc13a2a2e7a55cd5f4f7bb8c308c2cb0834911", func := "baton/batonlaw02.KeyOrder", spec := "keyOrder", inPlace := ["internal/bytealg.IndexByteString"], unfollowed := true, recurses := true, named := ["baton/key.letters"], apart := false, laid := [("baton/key.letters", laid_baton_key_letters)] }
def KeyOrderSaid : Prop := keyOrderRow.holds Tryd.pinned (OpenSpec.ofChange keyOrderSpec)

/-- ITS FALSE NEIGHBOUR: 'it returns false'. Refute it at one input. -/
def keyOrderWrong : ChangeSpec := { name := "keyOrder", fn := fun _ => fun
  | [d1, d2, d3] => { results := [.lit (.bool false)], args := [d1, d2, d3] }
  | _ => none }
def KeyOrderWrongFalsely : Prop := keyOrderRow.holds Tryd.pinned (OpenSpec.ofChange keyOrderWrong)

/- THE SECOND FORM. 'bulk': how many values and letters a reading holds, each counted each time it is reached (what is shared counts as often as it is met; a slice's spare places count too). A statement '..UptoSaid' is the law's where the arguments, and the package variables that the reading takes, are together of bulk at most 1048576: NARROWER than '..Said'. Prove '..Said' where nothing that the law and all that it calls make is longer than what came in: it says more and counts as full. Else prove '..UptoSaid'. A law counts once. -/
mutual
def uptoBulk {H : Type} : DataW H → Nat
  | .lit (.string bytes) => bytes.length + 1
  | .lit _ => 1
  | .nil => 1
  | .ptr d => uptoBulk d + 1
  | .slice elems spare => uptoBulkAll elems + uptoBulkAll spare + 1
  | .agg parts => uptoBulkAll parts + 1
  | .iface _ d => uptoBulk d + 1
  | .map entries => uptoBulkEntries entries + 1
  | .held _ => 1
def uptoBulkAll {H : Type} : List (DataW H) → Nat
  | [] => 0
  | d :: r => uptoBulk d + uptoBulkAll r
def uptoBulkEntries {H : Type} : List (Lit × DataW H) → Nat
  | [] => 0
  | x :: r => uptoBulkEntry x + uptoBulkEntries r
def uptoBulkEntry {H : Type} : Lit × DataW H → Nat
  | (.string bytes, d) => bytes.length + uptoBulk d + 1
  | (_, d) => uptoBulk d + 1
 end
def uptoSmall : (H : Type) → List (DataW H) → Bool := fun _ ds => decide (uptoBulkAll ds ≤ 1048576)
def OpenSpec.upto (s : _root_.Go.ChangeSpec) : _root_.Go.OpenSpec := { _root_.Go.OpenSpec.ofChange s with cond := some uptoSmall }

/-- 'batonlaw02.KeyTells', WHERE WHAT IT READS IS OF BULK AT MOST 1048576: true; the input reads as it did. -/
def keyTellsUptoRow : OpenClaim := { program := "ytjnmlbenhkhcbabdoor", sum := "29209390025a0ca1a201d6d4eabc13a2a2e7a55cd5f4f7bb8c308c2cb0834911", func := "baton/batonlaw02.KeyTells", spec := "keyTells", inPlace := ["internal/bytealg.IndexByteString"], unfollowed := true, recurses := true, named := ["baton/key.letters"], apart := false, laid := [("baton/key.letters", laid_baton_key_letters)], narrowed := true }
def KeyTellsUptoSaid : Prop := keyTellsUptoRow.holds Tryd.pinned (OpenSpec.upto keyTellsSpec)

/-- 'batonlaw02.KeyReads', WHERE WHAT IT READS IS OF BULK AT MOST 1048576: true; the input reads as it did. -/
def keyReadsUptoRow : OpenClaim := { program := "ytjnmlbenhkhcbabdoor", sum := "29209390025a0ca1a201d6d4eabc13a2a2e7a55cd5f4f7bb8c308c2cb0834911", func := "baton/batonlaw02.KeyReads", spec := "keyReads", inPlace := ["internal/bytealg.IndexByteString"], unfollowed := true, recurses := true, named := ["baton/key.letters"], apart := false, laid := [("baton/key.letters", laid_baton_key_letters)], narrowed := true }
def KeyReadsUptoSaid : Prop := keyReadsUptoRow.holds Tryd.pinned (OpenSpec.upto keyReadsSpec)

/-- 'batonlaw02.KeyBack', WHERE WHAT IT READS IS OF BULK AT MOST 1048576: true; the input reads as it did. -/
def keyBackUptoRow : OpenClaim := { program := "ytjnmlbenhkhcbabdoor", sum := "29209390025a0ca1a201d6d4eabc13a2a2e7a55cd5f4f7bb8c308c2cb0834911", func := "baton/batonlaw02.KeyBack", spec := "keyBack", inPlace := ["internal/bytealg.IndexByteString"], unfollowed := true, recurses := true, named := ["baton/key.letters"], apart := false, laid := [("baton/key.letters", laid_baton_key_letters)], narrowed := true }
def KeyBackUptoSaid : Prop := keyBackUptoRow.holds Tryd.pinned (OpenSpec.upto keyBackSpec)

/-- 'batonlaw02.KeyApart', WHERE WHAT IT READS IS OF BULK AT MOST 1048576: true; the input reads as it did. -/
def keyApartUptoRow : OpenClaim := { program := "ytjnmlbenhkhcbabdoor", sum := "29209390025a0ca1a201d6d4eabc13a2a2e7a55cd5f4f7bb8c308c2cb0834911", func := "baton/batonlaw02.KeyApart", spec := "keyApart", inPlace := ["internal/bytealg.IndexByteString"], unfollowed := true, recurses := true, named := ["baton/key.letters"], apart := false, laid := [("baton/key.letters", laid_baton_key_letters)], narrowed := true }
def KeyApartUptoSaid : Prop := keyApartUptoRow.holds Tryd.pinned (OpenSpec.upto keyApartSpec)

/-- 'batonlaw02.KeyOrder', WHERE WHAT IT READS IS OF BULK AT MOST 1048576: true; the input reads as it did. -/
def keyOrderUptoRow : OpenClaim := { program := "ytjnmlbenhkhcbabdoor", sum := "29209390025a0ca1a201d6d4eabc13a2a2e7a55cd5f4f7bb8c308c2cb0834911", func := "baton/batonlaw02.KeyOrder", spec := "keyOrder", inPlace := ["internal/bytealg.IndexByteString"], unfollowed := true, recurses := true, named := ["baton/key.letters"], apart := false, laid := [("baton/key.letters", laid_baton_key_letters)], narrowed := true }
def KeyOrderUptoSaid : Prop := keyOrderUptoRow.holds Tryd.pinned (OpenSpec.upto keyOrderSpec)

end Rows
end Go.Proofs.YtjnmlbenhkhcbabDoor
