/-
  No cell of these rows narrows 'for every input' (looked for: loops, veiled, ifaces, maps, wideKeys, modest, calm, conditions, laid).
  DERIVED. THE GIVEN ROWS OF THIS SEAT. 6 by the template 'for every input the law returns true; each argument reads behind the call as it read before'; 0 by the template 'total and deterministic' (their statements: YtjnmlbenhkhcbaaTotals.lean).
  GIVEN WITH THE SEED: the statements are not yours to turn. If you find one false, say at which input.
  Laid BY PROGRAM, IN A SANDBOX (cutbox-rows.mjs): the forced cells as the released guide's own fill.sh prints them over the translation 7c8c1427110e3acc… (all of the seat's roots in one cut). By AI agents, Wed Nov 11 2026. No macro, syntax, notation, axiom, sorry.
-/
import Derived.Test.YtjnmlbenhkhcbaaChecked
import GoSem.Claim
import GoSem.ClaimJoined
import GoSem.ClaimMapViews
import Derived.JoinedTies
import Derived.KernelRfl
namespace Go.Proofs.Ytjnmlbenhkhcbaa
/- THE CELL 'sum', in the pinned program and in every row, IS THE sha256 OF THE DUMP (.gsa) THAT YtjnmlbenhkhcbaaProg.lean LOADS. Nothing in Lean hashes anything: it is a label: what it is worth is what the hold of that sum in a sandbox is worth. -/
noncomputable def Try.pinned : Pinned := { name := "ytjnmlbenhkhcbaa", sum := "7c8c1427110e3acc9526a82cf7996bf52a6cfa038557664964cc52f936668f0e", checked := Try.checked }
namespace Rows
def none {H : Type} : Left H := { results := [], args := [] }

/-- 'batonlaw01.ShiftBytes': WHATEVER THE INPUT: true; the input reads as it did. -/
def shiftBytesSpec : ChangeSpec := { name := "shiftBytes", fn := fun _ => fun
  | [d1, d2, d3] => { results := [.lit (.bool true)], args := [d1, d2, d3] }
  | _ => none }
def shiftBytesRow : OpenClaim := { program := "ytjnmlbenhkhcbaa", sum := "7c8c1427110e3acc9526a82cf7996bf52a6cfa038557664964cc52f936668f0e", func := "baton/batonlaw01.ShiftBytes", spec := "shiftBytes", apart := false }
def ShiftBytesSaid : Prop := shiftBytesRow.holds Try.pinned (OpenSpec.ofChange shiftBytesSpec)

/-- ITS FALSE NEIGHBOUR: 'it returns false'. Refute it at one input. -/
def shiftBytesWrong : ChangeSpec := { name := "shiftBytes", fn := fun _ => fun
  | [d1, d2, d3] => { results := [.lit (.bool false)], args := [d1, d2, d3] }
  | _ => none }
def ShiftBytesWrongFalsely : Prop := shiftBytesRow.holds Try.pinned (OpenSpec.ofChange shiftBytesWrong)

/-- 'batonlaw01.ShiftSigns': WHATEVER THE INPUT: true; the input reads as it did. -/
def shiftSignsSpec : ChangeSpec := { name := "shiftSigns", fn := fun _ => fun
  | [d1, d2, d3] => { results := [.lit (.bool true)], args := [d1, d2, d3] }
  | _ => none }
def shiftSignsRow : OpenClaim := { program := "ytjnmlbenhkhcbaa", sum := "7c8c1427110e3acc9526a82cf7996bf52a6cfa038557664964cc52f936668f0e", func := "baton/batonlaw01.ShiftSigns", spec := "shiftSigns", apart := false }
def ShiftSignsSaid : Prop := shiftSignsRow.holds Try.pinned (OpenSpec.ofChange shiftSignsSpec)

/-- ITS FALSE NEIGHBOUR: 'it returns false'. Refute it at one input. -/
def shiftSignsWrong : ChangeSpec := { name := "shiftSigns", fn := fun _ => fun
  | [d1, d2, d3] => { results := [.lit (.bool false)], args := [d1, d2, d3] }
  | _ => none }
def ShiftSignsWrongFalsely : Prop := shiftSignsRow.holds Try.pinned (OpenSpec.ofChange shiftSignsWrong)

/-- 'batonlaw01.ShiftReads': WHATEVER THE INPUT: true; the input reads as it did. -/
def shiftReadsSpec : ChangeSpec := { name := "shiftReads", fn := fun _ => fun
  | [d1, d2, d3] => { results := [.lit (.bool true)], args := [d1, d2, d3] }
  | _ => none }
def shiftReadsRow : OpenClaim := { program := "ytjnmlbenhkhcbaa", sum := "7c8c1427110e3acc9526a82cf7996bf52a6cfa038557664964cc52f936668f0e", func := "baton/batonlaw01.ShiftReads", spec := "shiftReads", apart := false }
def ShiftReadsSaid : Prop := shiftReadsRow.holds Try.pinned (OpenSpec.ofChange shiftReadsSpec)

/-- ITS FALSE NEIGHBOUR: 'it returns false'. Refute it at one input. -/
def shiftReadsWrong : ChangeSpec := { name := "shiftReads", fn := fun _ => fun
  | [d1, d2, d3] => { results := [.lit (.bool false)], args := [d1, d2, d3] }
  | _ => none }
def ShiftReadsWrongFalsely : Prop := shiftReadsRow.holds Try.pinned (OpenSpec.ofChange shiftReadsWrong)

/-- 'batonlaw01.ShiftBack': WHATEVER THE INPUT: true; the input reads as it did. -/
def shiftBackSpec : ChangeSpec := { name := "shiftBack", fn := fun _ => fun
  | [d1, d2, d3] => { results := [.lit (.bool true)], args := [d1, d2, d3] }
  | _ => none }
def shiftBackRow : OpenClaim := { program := "ytjnmlbenhkhcbaa", sum := "7c8c1427110e3acc9526a82cf7996bf52a6cfa038557664964cc52f936668f0e", func := "baton/batonlaw01.ShiftBack", spec := "shiftBack", apart := false }
def ShiftBackSaid : Prop := shiftBackRow.holds Try.pinned (OpenSpec.ofChange shiftBackSpec)

/-- ITS FALSE NEIGHBOUR: 'it returns false'. Refute it at one input. -/
def shiftBackWrong : ChangeSpec := { name := "shiftBack", fn := fun _ => fun
  | [d1, d2, d3] => { results := [.lit (.bool false)], args := [d1, d2, d3] }
  | _ => none }
def ShiftBackWrongFalsely : Prop := shiftBackRow.holds Try.pinned (OpenSpec.ofChange shiftBackWrong)

/-- 'batonlaw01.ShiftTurns': WHATEVER THE INPUT: true; the input reads as it did. -/
def shiftTurnsSpec : ChangeSpec := { name := "shiftTurns", fn := fun _ => fun
  | [d1, d2] => { results := [.lit (.bool true)], args := [d1, d2] }
  | _ => none }
def shiftTurnsRow : OpenClaim := { program := "ytjnmlbenhkhcbaa", sum := "7c8c1427110e3acc9526a82cf7996bf52a6cfa038557664964cc52f936668f0e", func := "baton/batonlaw01.ShiftTurns", spec := "shiftTurns", apart := false }
def ShiftTurnsSaid : Prop := shiftTurnsRow.holds Try.pinned (OpenSpec.ofChange shiftTurnsSpec)

/-- ITS FALSE NEIGHBOUR: 'it returns false'. Refute it at one input. -/
def shiftTurnsWrong : ChangeSpec := { name := "shiftTurns", fn := fun _ => fun
  | [d1, d2] => { results := [.lit (.bool false)], args := [d1, d2] }
  | _ => none }
def ShiftTurnsWrongFalsely : Prop := shiftTurnsRow.holds Try.pinned (OpenSpec.ofChange shiftTurnsWrong)

/-- 'batonlaw01.ShiftWho': WHATEVER THE INPUT: true; the input reads as it did. -/
def shiftWhoSpec : ChangeSpec := { name := "shiftWho", fn := fun _ => fun
  | [d1, d2, d3] => { results := [.lit (.bool true)], args := [d1, d2, d3] }
  | _ => none }
def shiftWhoRow : OpenClaim := { program := "ytjnmlbenhkhcbaa", sum := "7c8c1427110e3acc9526a82cf7996bf52a6cfa038557664964cc52f936668f0e", func := "baton/batonlaw01.ShiftWho", spec := "shiftWho", apart := false }
def ShiftWhoSaid : Prop := shiftWhoRow.holds Try.pinned (OpenSpec.ofChange shiftWhoSpec)

/-- ITS FALSE NEIGHBOUR: 'it returns false'. Refute it at one input. -/
def shiftWhoWrong : ChangeSpec := { name := "shiftWho", fn := fun _ => fun
  | [d1, d2, d3] => { results := [.lit (.bool false)], args := [d1, d2, d3] }
  | _ => none }
def ShiftWhoWrongFalsely : Prop := shiftWhoRow.holds Try.pinned (OpenSpec.ofChange shiftWhoWrong)

/- THE SECOND FORM. 'bulk': how many values and letters a reading holds, each counted each time it is reached (what is shared counts as often as it is met; a slice's spare places count too). A statement '..UptoSaid' is the law's where the arguments, and the package variables that the reading takes, are together of bulk at most 1048576: NARROWER than '..Said'. Prove '..Said' where nothing that the law and all that it calls make is longer than what came in: it says more and counts as full. Else prove '..UptoSaid'. A law counts once. -/
mutual
def uptoBulk {H : Type} : DataW H → Nat
  | .lit (.string bytes) => bytes.length + 1
  | .lit _ => 1
  | .nil => 1
  | .ptr d => uptoBulk d + 1
  | .slice elems spare => uptoBulkAll elems + uptoBulkAll spare + 1
  | .agg parts => uptoBulkAll parts + 1
  | .iface _ d => uptoBulk d + 1
  | .map entries => uptoBulkEntries entries + 1
  | .held _ => 1
def uptoBulkAll {H : Type} : List (DataW H) → Nat
  | [] => 0
  | d :: r => uptoBulk d + uptoBulkAll r
def uptoBulkEntries {H : Type} : List (Lit × DataW H) → Nat
  | [] => 0
  | x :: r => uptoBulkEntry x + uptoBulkEntries r
def uptoBulkEntry {H : Type} : Lit × DataW H → Nat
  | (.string bytes, d) => bytes.length + uptoBulk d + 1
  | (_, d) => uptoBulk d + 1
 end
def uptoSmall : (H : Type) → List (DataW H) → Bool := fun _ ds => decide (uptoBulkAll ds ≤ 1048576)
def OpenSpec.upto (s : _root_.Go.ChangeSpec) : _root_.Go.OpenSpec := { _root_.Go.OpenSpec.ofChange s with cond := some uptoSmall }

/-- 'batonlaw01.ShiftBytes', WHERE WHAT IT READS IS OF BULK AT MOST 1048576: true; the input reads as it did. -/
def shiftBytesUptoRow : OpenClaim := { program := "ytjnmlbenhkhcbaa", sum := "7c8c1427110e3acc9526a82cf7996bf52a6cfa038557664964cc52f936668f0e", func := "baton/batonlaw01.ShiftBytes", spec := "shiftBytes", apart := false, narrowed := true }
def ShiftBytesUptoSaid : Prop := shiftBytesUptoRow.holds Try.pinned (OpenSpec.upto shiftBytesSpec)

/-- 'batonlaw01.ShiftSigns', WHERE WHAT IT READS IS OF BULK AT MOST 1048576: true; the input reads as it did. -/
def shiftSignsUptoRow : OpenClaim := { program := "ytjnmlbenhkhcbaa", sum := "7c8c1427110e3acc9526a82cf7996bf52a6cfa038557664964cc52f936668f0e", func := "baton/batonlaw01.ShiftSigns", spec := "shiftSigns", apart := false, narrowed := true }
def ShiftSignsUptoSaid : Prop := shiftSignsUptoRow.holds Try.pinned (OpenSpec.upto shiftSignsSpec)

/-- 'batonlaw01.ShiftReads', WHERE WHAT IT READS IS OF BULK AT MOST 1048576: true; the input reads as it did. -/
def shiftReadsUptoRow : OpenClaim := { program := "ytjnmlbenhkhcbaa", sum := "7c8c1427110e3acc9526a82cf7996bf52a6cfa038557664964cc52f936668f0e", func := "baton/batonlaw01.ShiftReads", spec := "shiftReads", apart := false, narrowed := true }
def ShiftReadsUptoSaid : Prop := shiftReadsUptoRow.holds Try.pinned (OpenSpec.upto shiftReadsSpec)

/-- 'batonlaw01.ShiftBack', WHERE WHAT IT READS IS OF BULK AT MOST 1048576: true; the input reads as it did. -/
def shiftBackUptoRow : OpenClaim := { program := "ytjnmlbenhkhcbaa", sum := "7c8c1427110e3acc9526a82cf7996bf52a6cfa038557664964cc52f936668f0e", func := "baton/batonlaw01.ShiftBack", spec := "shiftBack", apart := false, narrowed := true }
def ShiftBackUptoSaid : Prop := shiftBackUptoRow.holds Try.pinned (OpenSpec.upto shiftBackSpec)

/-- 'batonlaw01.ShiftTurns', WHERE WHAT IT READS IS OF BULK AT MOST 1048576: true; the input reads as it did. -/
def shiftTurnsUptoRow : OpenClaim := { program := "ytjnmlbenhkhcbaa", sum := "7c8c1427110e3acc9526a82cf7996bf52a6cfa038557664964cc52f936668f0e", func := "baton/batonlaw01.ShiftTurns", spec := "shiftTurns", apart := false, narrowed := true }
def ShiftTurnsUptoSaid : Prop := shiftTurnsUptoRow.holds Try.pinned (OpenSpec.upto shiftTurnsSpec)

/-- 'batonlaw01.ShiftWho', WHERE WHAT IT READS IS OF BULK AT MOST 1048576: true; the input reads as it did. -/
def shiftWhoUptoRow : OpenClaim := { program := "ytjnmlbenhkhcbaa", sum := "7c8c1427110e3acc9526a82cf7996bf52a6cfa038557664964cc52f936668f0e", func := "baton/batonlaw01.ShiftWho", spec := "shiftWho", apart := false, narrowed := true }
def ShiftWhoUptoSaid : Prop := shiftWhoUptoRow.holds Try.pinned (OpenSpec.upto shiftWhoSpec)

end Rows
end Go.Proofs.Ytjnmlbenhkhcbaa
