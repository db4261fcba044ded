/-
  NARROWER THAN 'FOR EVERY INPUT', by the rows' own cells (each row's printed sentence says how): LockStarts: laid.
  DERIVED. THE GIVEN ROWS OF THIS SEAT. 1 by the template 'for every input the law returns true; each argument reads behind the call as it read before'; 0 by the template 'total and deterministic' (their statements: YtnpknpgmlkaplaaDoorTotals.lean).
  GIVEN WITH THE SEED: the statements are not yours to turn. If you find one false, say at which input.
  Laid BY PROGRAM, IN A SANDBOX (cutbox-rows.mjs): the forced cells as the released guide's own fill.sh prints them over the translation 0d2bb1a5d2812c42… (all of the seat's roots in one cut). By AI agents, Wed Nov 11 2026. No macro, syntax, notation, axiom, sorry.
-/
import Derived.Test.YtnpknpgmlkaplaaDoorChecked
import GoSem.Claim
import GoSem.ClaimJoined
import GoSem.ClaimMapViews
import Derived.JoinedTies
import Derived.KernelRfl
namespace Go.Proofs.YtnpknpgmlkaplaaDoor
/- THE CELL 'sum', in the pinned program and in every row, IS THE sha256 OF THE DUMP (.gsa) THAT YtnpknpgmlkaplaaDoorProg.lean LOADS. Nothing in Lean hashes anything: it is a label: what it is worth is what the hold of that sum in a sandbox is worth. -/
noncomputable def Tryd.pinned : Pinned := { name := "ytnpknpgmlkaplaadoor", sum := "0d2bb1a5d2812c4231585d0ddc6605d9a7fd73fdf6e7508086f58f44287c902b", checked := Tryd.checked }
namespace Rows
def none {H : Type} : Left H := { results := [], args := [] }

/- WHAT THE LISTED PACKAGE-LEVEL VARIABLES READ AS WHEN THE CALL BEGINS. Each datum BY PROGRAM (the guide's laid-datum.mjs) off the statement by which the dump's own 'gosem.cut.vars' lays the variable. In a bare row this is a premise. The card (YtnpknpgmlkaplaaDoorCards.lean) ties it to the program's text. -/
def laid_baton_key_letters {H : Type} : DataW H := .agg [.lit (.string []), .lit (.string [109]), .lit (.string [108]), .lit (.string [108]), .lit (.string [115]), .lit (.string [101]), .lit (.string [112]), .lit (.string [113]), .lit (.string [113])]

/-- 'batonlaw16.LockStarts': WHATEVER THE INPUT: true; the input reads as it did. -/
def lockStartsSpec : ChangeSpec := { name := "lockStarts", fn := fun _ => fun
  | [d1, d2, d3] => { results := [.lit (.bool true)], args := [d1, d2, d3] }
  | _ => none }
def lockStartsRow : OpenClaim := { program := "ytnpknpgmlkaplaadoor", sum := "0d2bb1a5d2812c4231585d0ddc6605d9a7fd73fdf6e7508086f58f44287c902b", func := "baton/batonlaw16.LockStarts", spec := "lockStarts", inPlace := ["internal/bytealg.abigen_runtime_cmpstring"], unfollowed := true, recurses := true, named := ["baton/key.letters"], apart := false, laid := [("baton/key.letters", laid_baton_key_letters)] }
def LockStartsSaid : Prop := lockStartsRow.holds Tryd.pinned (OpenSpec.ofChange lockStartsSpec)

/-- ITS FALSE NEIGHBOUR: 'it returns false'. Refute it at one input. -/
def lockStartsWrong : ChangeSpec := { name := "lockStarts", fn := fun _ => fun
  | [d1, d2, d3] => { results := [.lit (.bool false)], args := [d1, d2, d3] }
  | _ => none }
def LockStartsWrongFalsely : Prop := lockStartsRow.holds Tryd.pinned (OpenSpec.ofChange lockStartsWrong)

/- THE SECOND FORM. 'bulk': how many values and letters a reading holds, each counted each time it is reached (what is shared counts as often as it is met; a slice's spare places count too). A statement '..UptoSaid' is the law's where the arguments, and the package variables that the reading takes, are together of bulk at most 1048576: NARROWER than '..Said'. Prove '..Said' where nothing that the law and all that it calls make is longer than what came in: it says more and counts as full. Else prove '..UptoSaid'. A law counts once. -/
mutual
def uptoBulk {H : Type} : DataW H → Nat
  | .lit (.string bytes) => bytes.length + 1
  | .lit _ => 1
  | .nil => 1
  | .ptr d => uptoBulk d + 1
  | .slice elems spare => uptoBulkAll elems + uptoBulkAll spare + 1
  | .agg parts => uptoBulkAll parts + 1
  | .iface _ d => uptoBulk d + 1
  | .map entries => uptoBulkEntries entries + 1
  | .held _ => 1
def uptoBulkAll {H : Type} : List (DataW H) → Nat
  | [] => 0
  | d :: r => uptoBulk d + uptoBulkAll r
def uptoBulkEntries {H : Type} : List (Lit × DataW H) → Nat
  | [] => 0
  | x :: r => uptoBulkEntry x + uptoBulkEntries r
def uptoBulkEntry {H : Type} : Lit × DataW H → Nat
  | (.string bytes, d) => bytes.length + uptoBulk d + 1
  | (_, d) => uptoBulk d + 1
 end
def uptoSmall : (H : Type) → List (DataW H) → Bool := fun _ ds => decide (uptoBulkAll ds ≤ 1048576)
def OpenSpec.upto (s : _root_.Go.ChangeSpec) : _root_.Go.OpenSpec := { _root_.Go.OpenSpec.ofChange s with cond := some uptoSmall }

/-- 'batonlaw16.LockStarts', WHERE WHAT IT READS IS OF BULK AT MOST 1048576: true; the input reads as it did. -/
def lockStartsUptoRow : OpenClaim := { program := "ytnpknpgmlkaplaadoor", sum := "0d2bb1a5d2812c4231585d0ddc6605d9a7fd73fdf6e7508086f58f44287c902b", func := "baton/batonlaw16.LockStarts", spec := "lockStarts", inPlace := ["internal/bytealg.abigen_runtime_cmpstring"], unfollowed := true, recurses := true, named := ["baton/key.letters"], apart := false, laid := [("baton/key.letters", laid_baton_key_letters)], narrowed := true }
def LockStartsUptoSaid : Prop := lockStartsUptoRow.holds Tryd.pinned (OpenSpec.upto lockStartsSpec)

end Rows
end Go.Proofs.YtnpknpgmlkaplaaDoor
