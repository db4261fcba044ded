/-
  NARROWER THAN 'FOR EVERY INPUT', by the rows' own cells (each row's printed sentence says how): QueueStarts: laid · QueueGoes: laid.
  DERIVED. THE GIVEN ROWS OF THIS SEAT. 2 by the template 'for every input the law returns true; each argument reads behind the call as it read before'; 0 by the template 'total and deterministic' (their statements: YtcaapnjipjemiaaDoorTotals.lean).
  GIVEN WITH THE SEED: the statements are not yours to turn. If you find one false, say at which input.
  Laid BY PROGRAM, IN A SANDBOX (cutbox-rows.mjs): the forced cells as the released guide's own fill.sh prints them over the translation 8c9490ea97c9b19d… (all of the seat's roots in one cut). By AI agents, Wed Nov 11 2026. No macro, syntax, notation, axiom, sorry.
-/
import Derived.Test.YtcaapnjipjemiaaDoorChecked
import GoSem.Claim
import GoSem.ClaimJoined
import GoSem.ClaimMapViews
import Derived.JoinedTies
import Derived.KernelRfl
namespace Go.Proofs.YtcaapnjipjemiaaDoor
/- THE CELL 'sum', in the pinned program and in every row, IS THE sha256 OF THE DUMP (.gsa) THAT YtcaapnjipjemiaaDoorProg.lean LOADS. Nothing in Lean hashes anything: it is a label: what it is worth is what the hold of that sum in a sandbox is worth. -/
noncomputable def Tryd.pinned : Pinned := { name := "ytcaapnjipjemiaadoor", sum := "8c9490ea97c9b19db94f457be070b84489830549b733d90001c4501f3394d3e9", checked := Tryd.checked }
namespace Rows
def none {H : Type} : Left H := { results := [], args := [] }

/- WHAT THE LISTED PACKAGE-LEVEL VARIABLES READ AS WHEN THE CALL BEGINS. Each datum BY PROGRAM (the guide's laid-datum.mjs) off the statement by which the dump's own 'gosem.cut.vars' lays the variable. In a bare row this is a premise. The card (YtcaapnjipjemiaaDoorCards.lean) ties it to the program's text. -/
def laid_baton_key_letters {H : Type} : DataW H := .agg [.lit (.string []), .lit (.string [109]), .lit (.string [108]), .lit (.string [108]), .lit (.string [115]), .lit (.string [101]), .lit (.string [112]), .lit (.string [113]), .lit (.string [113])]

/-- 'batonlaw19.QueueStarts': WHATEVER THE INPUT: true; the input reads as it did. -/
def queueStartsSpec : ChangeSpec := { name := "queueStarts", fn := fun _ => fun
  | [d1, d2, d3] => { results := [.lit (.bool true)], args := [d1, d2, d3] }
  | _ => none }
def queueStartsRow : OpenClaim := { program := "ytcaapnjipjemiaadoor", sum := "8c9490ea97c9b19db94f457be070b84489830549b733d90001c4501f3394d3e9", func := "baton/batonlaw19.QueueStarts", spec := "queueStarts", inPlace := ["internal/bytealg.abigen_runtime_cmpstring"], unfollowed := true, recurses := true, named := ["baton/key.letters"], plainKeys := false, apart := false, laid := [("baton/key.letters", laid_baton_key_letters)] }
def QueueStartsSaid : Prop := queueStartsRow.holds Tryd.pinned (OpenSpec.ofChange queueStartsSpec)

/-- ITS FALSE NEIGHBOUR: 'it returns false'. Refute it at one input. -/
def queueStartsWrong : ChangeSpec := { name := "queueStarts", fn := fun _ => fun
  | [d1, d2, d3] => { results := [.lit (.bool false)], args := [d1, d2, d3] }
  | _ => none }
def QueueStartsWrongFalsely : Prop := queueStartsRow.holds Tryd.pinned (OpenSpec.ofChange queueStartsWrong)

/-- 'batonlaw19.QueueGoes': WHATEVER THE INPUT: true; the input reads as it did. -/
def queueGoesSpec : ChangeSpec := { name := "queueGoes", fn := fun _ => fun
  | [d1, d2] => { results := [.lit (.bool true)], args := [d1, d2] }
  | _ => none }
def queueGoesRow : OpenClaim := { program := "ytcaapnjipjemiaadoor", sum := "8c9490ea97c9b19db94f457be070b84489830549b733d90001c4501f3394d3e9", func := "baton/batonlaw19.QueueGoes", spec := "queueGoes", inPlace := ["internal/bytealg.abigen_runtime_cmpstring"], unfollowed := true, recurses := true, named := ["baton/key.letters"], plainKeys := false, apart := false, laid := [("baton/key.letters", laid_baton_key_letters)] }
def QueueGoesSaid : Prop := queueGoesRow.holds Tryd.pinned (OpenSpec.ofChange queueGoesSpec)

/-- ITS FALSE NEIGHBOUR: 'it returns false'. Refute it at one input. -/
def queueGoesWrong : ChangeSpec := { name := "queueGoes", fn := fun _ => fun
  | [d1, d2] => { results := [.lit (.bool false)], args := [d1, d2] }
  | _ => none }
def QueueGoesWrongFalsely : Prop := queueGoesRow.holds Tryd.pinned (OpenSpec.ofChange queueGoesWrong)

/- THE SECOND FORM. 'bulk': how many values and letters a reading holds, each counted each time it is reached (what is shared counts as often as it is met; a slice's spare places count too). A statement '..UptoSaid' is the law's where the arguments, and the package variables that the reading takes, are together of bulk at most 1048576: NARROWER than '..Said'. Prove '..Said' where nothing that the law and all that it calls make is longer than what came in: it says more and counts as full. Else prove '..UptoSaid'. A law counts once. -/
mutual
def uptoBulk {H : Type} : DataW H → Nat
  | .lit (.string bytes) => bytes.length + 1
  | .lit _ => 1
  | .nil => 1
  | .ptr d => uptoBulk d + 1
  | .slice elems spare => uptoBulkAll elems + uptoBulkAll spare + 1
  | .agg parts => uptoBulkAll parts + 1
  | .iface _ d => uptoBulk d + 1
  | .map entries => uptoBulkEntries entries + 1
  | .held _ => 1
def uptoBulkAll {H : Type} : List (DataW H) → Nat
  | [] => 0
  | d :: r => uptoBulk d + uptoBulkAll r
def uptoBulkEntries {H : Type} : List (Lit × DataW H) → Nat
  | [] => 0
  | x :: r => uptoBulkEntry x + uptoBulkEntries r
def uptoBulkEntry {H : Type} : Lit × DataW H → Nat
  | (.string bytes, d) => bytes.length + uptoBulk d + 1
  | (_, d) => uptoBulk d + 1
 end
def uptoSmall : (H : Type) → List (DataW H) → Bool := fun _ ds => decide (uptoBulkAll ds ≤ 1048576)
def OpenSpec.upto (s : _root_.Go.ChangeSpec) : _root_.Go.OpenSpec := { _root_.Go.OpenSpec.ofChange s with cond := some uptoSmall }

/-- 'batonlaw19.QueueStarts', WHERE WHAT IT READS IS OF BULK AT MOST 1048576: true; the input reads as it did. -/
def queueStartsUptoRow : OpenClaim := { program := "ytcaapnjipjemiaadoor", sum := "8c9490ea97c9b19db94f457be070b84489830549b733d90001c4501f3394d3e9", func := "baton/batonlaw19.QueueStarts", spec := "queueStarts", inPlace := ["internal/bytealg.abigen_runtime_cmpstring"], unfollowed := true, recurses := true, named := ["baton/key.letters"], plainKeys := false, apart := false, laid := [("baton/key.letters", laid_baton_key_letters)], narrowed := true }
def QueueStartsUptoSaid : Prop := queueStartsUptoRow.holds Tryd.pinned (OpenSpec.upto queueStartsSpec)

/-- 'batonlaw19.QueueGoes', WHERE WHAT IT READS IS OF BULK AT MOST 1048576: true; the input reads as it did. -/
def queueGoesUptoRow : OpenClaim := { program := "ytcaapnjipjemiaadoor", sum := "8c9490ea97c9b19db94f457be070b84489830549b733d90001c4501f3394d3e9", func := "baton/batonlaw19.QueueGoes", spec := "queueGoes", inPlace := ["internal/bytealg.abigen_runtime_cmpstring"], unfollowed := true, recurses := true, named := ["baton/key.letters"], plainKeys := false, apart := false, laid := [("baton/key.letters", laid_baton_key_letters)], narrowed := true }
def QueueGoesUptoSaid : Prop := queueGoesUptoRow.holds Tryd.pinned (OpenSpec.upto queueGoesSpec)

end Rows
end Go.Proofs.YtcaapnjipjemiaaDoor
