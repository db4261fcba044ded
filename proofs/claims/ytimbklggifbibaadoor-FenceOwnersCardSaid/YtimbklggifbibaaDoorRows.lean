/-
  NARROWER THAN 'FOR EVERY INPUT', by the rows' own cells (each row's printed sentence says how): FenceWrites: laid · FenceRises: laid · FenceBytes: laid · FenceOwners: laid.
  DERIVED. THE GIVEN ROWS OF THIS SEAT. 4 by the template 'for every input the law returns true; each argument reads behind the call as it read before'; 0 by the template 'total and deterministic' (their statements: YtimbklggifbibaaDoorTotals.lean).
  GIVEN WITH THE SEED: the statements are not yours to turn. If you find one false, say at which input.
  Laid BY PROGRAM, IN A SANDBOX (cutbox-rows.mjs): the forced cells as the released guide's own fill.sh prints them over the translation a5327f1df661491c… (all of the seat's roots in one cut). By AI agents, Wed Nov 11 2026. No macro, syntax, notation, axiom, sorry.
-/
import Derived.Test.YtimbklggifbibaaDoorChecked
import GoSem.Claim
import GoSem.ClaimJoined
import GoSem.ClaimMapViews
import Derived.JoinedTies
import Derived.KernelRfl
namespace Go.Proofs.YtimbklggifbibaaDoor
/- THE CELL 'sum', in the pinned program and in every row, IS THE sha256 OF THE DUMP (.gsa) THAT YtimbklggifbibaaDoorProg.lean LOADS. Nothing in Lean hashes anything: it is a label: what it is worth is what the hold of that sum in a sandbox is worth. -/
noncomputable def Tryd.pinned : Pinned := { name := "ytimbklggifbibaadoor", sum := "a5327f1df661491c1646b943774c6630bb25502c1e328b6cda03a84773a2adc7", checked := Tryd.checked }
namespace Rows
def none {H : Type} : Left H := { results := [], args := [] }

/- WHAT THE LISTED PACKAGE-LEVEL VARIABLES READ AS WHEN THE CALL BEGINS. Each datum BY PROGRAM (the guide's laid-datum.mjs) off the statement by which the dump's own 'gosem.cut.vars' lays the variable. In a bare row this is a premise. The card (YtimbklggifbibaaDoorCards.lean) ties it to the program's text. -/
def laid_baton_fence_errArg {H : Type} : DataW H := .iface "*errors.errorString" (.ptr (.agg [.lit (.string [105, 116, 32, 109, 97, 121, 32, 110, 111, 116, 32, 98, 101])]))
def laid_baton_fence_errForm {H : Type} : DataW H := .iface "*errors.errorString" (.ptr (.agg [.lit (.string [105, 116, 32, 105, 115, 32, 110, 111, 32, 119, 114, 105, 116, 101])]))
def laid_baton_fence_errFull {H : Type} : DataW H := .iface "*errors.errorString" (.ptr (.agg [.lit (.string [116, 104, 101, 114, 101, 32, 105, 115, 32, 110, 111, 32, 114, 111, 111, 109, 32, 102, 111, 114, 32, 105, 116])]))
def laid_baton_fence_errStale {H : Type} : DataW H := .iface "*errors.errorString" (.ptr (.agg [.lit (.string [105, 116, 32, 105, 115, 32, 111, 118, 101, 114])]))

/-- 'batonlaw20.FenceWrites': WHATEVER THE INPUT: true; the input reads as it did. -/
def fenceWritesSpec : ChangeSpec := { name := "fenceWrites", fn := fun _ => fun
  | [d1, d2, d3] => { results := [.lit (.bool true)], args := [d1, d2, d3] }
  | _ => none }
def fenceWritesRow : OpenClaim := { program := "ytimbklggifbibaadoor", sum := "a5327f1df661491c1646b943774c6630bb25502c1e328b6cda03a84773a2adc7", func := "baton/batonlaw20.FenceWrites", spec := "fenceWrites", inPlace := ["internal/reflectlite.TypeOf"], unfollowed := true, recurses := true, named := ["baton/fence.errArg", "baton/fence.errStale", "baton/fence.errFull", "baton/fence.errForm"], apart := false, laid := [("baton/fence.errArg", laid_baton_fence_errArg), ("baton/fence.errForm", laid_baton_fence_errForm), ("baton/fence.errFull", laid_baton_fence_errFull), ("baton/fence.errStale", laid_baton_fence_errStale)] }
def FenceWritesSaid : Prop := fenceWritesRow.holds Tryd.pinned (OpenSpec.ofChange fenceWritesSpec)

/-- ITS FALSE NEIGHBOUR: 'it returns false'. Refute it at one input. -/
def fenceWritesWrong : ChangeSpec := { name := "fenceWrites", fn := fun _ => fun
  | [d1, d2, d3] => { results := [.lit (.bool false)], args := [d1, d2, d3] }
  | _ => none }
def FenceWritesWrongFalsely : Prop := fenceWritesRow.holds Tryd.pinned (OpenSpec.ofChange fenceWritesWrong)

/-- 'batonlaw20.FenceRises': WHATEVER THE INPUT: true; the input reads as it did. -/
def fenceRisesSpec : ChangeSpec := { name := "fenceRises", fn := fun _ => fun
  | [d1, d2] => { results := [.lit (.bool true)], args := [d1, d2] }
  | _ => none }
def fenceRisesRow : OpenClaim := { program := "ytimbklggifbibaadoor", sum := "a5327f1df661491c1646b943774c6630bb25502c1e328b6cda03a84773a2adc7", func := "baton/batonlaw20.FenceRises", spec := "fenceRises", inPlace := ["internal/reflectlite.TypeOf"], unfollowed := true, recurses := true, named := ["baton/fence.errArg", "baton/fence.errStale", "baton/fence.errFull", "baton/fence.errForm"], apart := false, laid := [("baton/fence.errArg", laid_baton_fence_errArg), ("baton/fence.errForm", laid_baton_fence_errForm), ("baton/fence.errFull", laid_baton_fence_errFull), ("baton/fence.errStale", laid_baton_fence_errStale)] }
def FenceRisesSaid : Prop := fenceRisesRow.holds Tryd.pinned (OpenSpec.ofChange fenceRisesSpec)

/-- ITS FALSE NEIGHBOUR: 'it returns false'. Refute it at one input. -/
def fenceRisesWrong : ChangeSpec := { name := "fenceRises", fn := fun _ => fun
  | [d1, d2] => { results := [.lit (.bool false)], args := [d1, d2] }
  | _ => none }
def FenceRisesWrongFalsely : Prop := fenceRisesRow.holds Tryd.pinned (OpenSpec.ofChange fenceRisesWrong)

/-- 'batonlaw20.FenceBytes': WHATEVER THE INPUT: true; the input reads as it did. -/
def fenceBytesSpec : ChangeSpec := { name := "fenceBytes", fn := fun _ => fun
  | [d1, d2] => { results := [.lit (.bool true)], args := [d1, d2] }
  | _ => none }
def fenceBytesRow : OpenClaim := { program := "ytimbklggifbibaadoor", sum := "a5327f1df661491c1646b943774c6630bb25502c1e328b6cda03a84773a2adc7", func := "baton/batonlaw20.FenceBytes", spec := "fenceBytes", inPlace := ["internal/reflectlite.TypeOf"], unfollowed := true, recurses := true, named := ["baton/fence.errArg", "baton/fence.errStale", "baton/fence.errFull", "baton/fence.errForm"], apart := false, laid := [("baton/fence.errArg", laid_baton_fence_errArg), ("baton/fence.errForm", laid_baton_fence_errForm), ("baton/fence.errFull", laid_baton_fence_errFull), ("baton/fence.errStale", laid_baton_fence_errStale)] }
def FenceBytesSaid : Prop := fenceBytesRow.holds Tryd.pinned (OpenSpec.ofChange fenceBytesSpec)

/-- ITS FALSE NEIGHBOUR: 'it returns false'. Refute it at one input. -/
def fenceBytesWrong : ChangeSpec := { name := "fenceBytes", fn := fun _ => fun
  | [d1, d2] => { results := [.lit (.bool false)], args := [d1, d2] }
  | _ => none }
def FenceBytesWrongFalsely : Prop := fenceBytesRow.holds Tryd.pinned (OpenSpec.ofChange fenceBytesWrong)

/-- 'batonlaw20.FenceOwners': WHATEVER THE INPUT: true; the input reads as it did. -/
def fenceOwnersSpec : ChangeSpec := { name := "fenceOwners", fn := fun _ => fun
  | [d1, d2, d3] => { results := [.lit (.bool true)], args := [d1, d2, d3] }
  | _ => none }
def fenceOwnersRow : OpenClaim := { program := "ytimbklggifbibaadoor", sum := "a5327f1df661491c1646b943774c6630bb25502c1e328b6cda03a84773a2adc7", func := "baton/batonlaw20.FenceOwners", spec := "fenceOwners", inPlace := ["internal/reflectlite.TypeOf"], unfollowed := true, recurses := true, named := ["baton/fence.errArg", "baton/fence.errStale", "baton/fence.errFull", "baton/fence.errForm"], apart := false, laid := [("baton/fence.errArg", laid_baton_fence_errArg), ("baton/fence.errForm", laid_baton_fence_errForm), ("baton/fence.errFull", laid_baton_fence_errFull), ("baton/fence.errStale", laid_baton_fence_errStale)] }
def FenceOwnersSaid : Prop := fenceOwnersRow.holds Tryd.pinned (OpenSpec.ofChange fenceOwnersSpec)

/-- ITS FALSE NEIGHBOUR: 'it returns false'. Refute it at one input. -/
def fenceOwnersWrong : ChangeSpec := { name := "fenceOwners", fn := fun _ => fun
  | [d1, d2, d3] => { results := [.lit (.bool false)], args := [d1, d2, d3] }
  | _ => none }
def FenceOwnersWrongFalsely : Prop := fenceOwnersRow.holds Tryd.pinned (OpenSpec.ofChange fenceOwnersWrong)

/- THE SECOND FORM. 'bulk': how many values and letters a reading holds, each counted each time it is reached (what is shared counts as often as it is met; a slice's spare places count too). A statement '..UptoSaid' is the law's where the arguments, and the package variables that the reading takes, are together of bulk at most 1048576: NARROWER than '..Said'. Prove '..Said' where nothing that the law and all that it calls make is longer than what came in: it says more and counts as full. Else prove '..UptoSaid'. A law counts once. -/
mutual
def uptoBulk {H : Type} : DataW H → Nat
  | .lit (.string bytes) => bytes.length + 1
  | .lit _ => 1
  | .nil => 1
  | .ptr d => uptoBulk d + 1
  | .slice elems spare => uptoBulkAll elems + uptoBulkAll spare + 1
  | .agg parts => uptoBulkAll parts + 1
  | .iface _ d => uptoBulk d + 1
  | .map entries => uptoBulkEntries entries + 1
  | .held _ => 1
def uptoBulkAll {H : Type} : List (DataW H) → Nat
  | [] => 0
  | d :: r => uptoBulk d + uptoBulkAll r
def uptoBulkEntries {H : Type} : List (Lit × DataW H) → Nat
  | [] => 0
  | x :: r => uptoBulkEntry x + uptoBulkEntries r
def uptoBulkEntry {H : Type} : Lit × DataW H → Nat
  | (.string bytes, d) => bytes.length + uptoBulk d + 1
  | (_, d) => uptoBulk d + 1
 end
def uptoSmall : (H : Type) → List (DataW H) → Bool := fun _ ds => decide (uptoBulkAll ds ≤ 1048576)
def OpenSpec.upto (s : _root_.Go.ChangeSpec) : _root_.Go.OpenSpec := { _root_.Go.OpenSpec.ofChange s with cond := some uptoSmall }

/-- 'batonlaw20.FenceWrites', WHERE WHAT IT READS IS OF BULK AT MOST 1048576: true; the input reads as it did. -/
def fenceWritesUptoRow : OpenClaim := { program := "ytimbklggifbibaadoor", sum := "a5327f1df661491c1646b943774c6630bb25502c1e328b6cda03a84773a2adc7", func := "baton/batonlaw20.FenceWrites", spec := "fenceWrites", inPlace := ["internal/reflectlite.TypeOf"], unfollowed := true, recurses := true, named := ["baton/fence.errArg", "baton/fence.errStale", "baton/fence.errFull", "baton/fence.errForm"], apart := false, laid := [("baton/fence.errArg", laid_baton_fence_errArg), ("baton/fence.errForm", laid_baton_fence_errForm), ("baton/fence.errFull", laid_baton_fence_errFull), ("baton/fence.errStale", laid_baton_fence_errStale)], narrowed := true }
def FenceWritesUptoSaid : Prop := fenceWritesUptoRow.holds Tryd.pinned (OpenSpec.upto fenceWritesSpec)

/-- 'batonlaw20.FenceRises', WHERE WHAT IT READS IS OF BULK AT MOST 1048576: true; the input reads as it did. -/
def fenceRisesUptoRow : OpenClaim := { program := "ytimbklggifbibaadoor", sum := "a5327f1df661491c1646b943774c6630bb25502c1e328b6cda03a84773a2adc7", func := "baton/batonlaw20.FenceRises", spec := "fenceRises", inPlace := ["internal/reflectlite.TypeOf"], unfollowed := true, recurses := true, named := ["baton/fence.errArg", "baton/fence.errStale", "baton/fence.errFull", "baton/fence.errForm"], apart := false, laid := [("baton/fence.errArg", laid_baton_fence_errArg), ("baton/fence.errForm", laid_baton_fence_errForm), ("baton/fence.errFull", laid_baton_fence_errFull), ("baton/fence.errStale", laid_baton_fence_errStale)], narrowed := true }
def FenceRisesUptoSaid : Prop := fenceRisesUptoRow.holds Tryd.pinned (OpenSpec.upto fenceRisesSpec)

/-- 'batonlaw20.FenceBytes', WHERE WHAT IT READS IS OF BULK AT MOST 1048576: true; the input reads as it did. -/
def fenceBytesUptoRow : OpenClaim := { program := "ytimbklggifbibaadoor", sum := "a5327f1df661491c1646b943774c6630bb25502c1e328b6cda03a84773a2adc7", func := "baton/batonlaw20.FenceBytes", spec := "fenceBytes", inPlace := ["internal/reflectlite.TypeOf"], unfollowed := true, recurses := true, named := ["baton/fence.errArg", "baton/fence.errStale", "baton/fence.errFull", "baton/fence.errForm"], apart := false, laid := [("baton/fence.errArg", laid_baton_fence_errArg), ("baton/fence.errForm", laid_baton_fence_errForm), ("baton/fence.errFull", laid_baton_fence_errFull), ("baton/fence.errStale", laid_baton_fence_errStale)], narrowed := true }
def FenceBytesUptoSaid : Prop := fenceBytesUptoRow.holds Tryd.pinned (OpenSpec.upto fenceBytesSpec)

/-- 'batonlaw20.FenceOwners', WHERE WHAT IT READS IS OF BULK AT MOST 1048576: true; the input reads as it did. -/
def fenceOwnersUptoRow : OpenClaim := { program := "ytimbklggifbibaadoor", sum := "a5327f1df661491c1646b943774c6630bb25502c1e328b6cda03a84773a2adc7", func := "baton/batonlaw20.FenceOwners", spec := "fenceOwners", inPlace := ["internal/reflectlite.TypeOf"], unfollowed := true, recurses := true, named := ["baton/fence.errArg", "baton/fence.errStale", "baton/fence.errFull", "baton/fence.errForm"], apart := false, laid := [("baton/fence.errArg", laid_baton_fence_errArg), ("baton/fence.errForm", laid_baton_fence_errForm), ("baton/fence.errFull", laid_baton_fence_errFull), ("baton/fence.errStale", laid_baton_fence_errStale)], narrowed := true }
def FenceOwnersUptoSaid : Prop := fenceOwnersUptoRow.holds Tryd.pinned (OpenSpec.upto fenceOwnersSpec)

end Rows
end Go.Proofs.YtimbklggifbibaaDoor
