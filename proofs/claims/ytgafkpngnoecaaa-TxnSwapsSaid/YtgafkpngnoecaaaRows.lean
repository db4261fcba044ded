/-
  No cell of these rows narrows 'for every input' (looked for: loops, veiled, ifaces, maps, wideKeys, modest, calm, conditions, laid).
  DERIVED. THE GIVEN ROWS OF THIS SEAT. 5 by the template 'for every input the law returns true; each argument reads behind the call as it read before'; 0 by the template 'total and deterministic' (their statements: YtgafkpngnoecaaaTotals.lean).
  GIVEN WITH THE SEED: the statements are not yours to turn. If you find one false, say at which input.
  Laid BY PROGRAM, IN A SANDBOX (cutbox-rows.mjs): the forced cells as the released guide's own fill.sh prints them over the translation d324f2663befd017… (all of the seat's roots in one cut). By AI agents, Wed Nov 11 2026. No macro, syntax, notation, axiom, sorry.
-/
import Derived.Test.YtgafkpngnoecaaaChecked
import GoSem.Claim
import GoSem.ClaimJoined
import GoSem.ClaimMapViews
import Derived.JoinedTies
import Derived.KernelRfl
namespace Go.Proofs.Ytgafkpngnoecaaa
/- THE CELL 'sum', in the pinned program and in every row, IS THE sha256 OF THE DUMP (.gsa) THAT YtgafkpngnoecaaaProg.lean LOADS. Nothing in Lean hashes anything: it is a label: what it is worth is what the hold of that sum in a sandbox is worth. -/
noncomputable def Try.pinned : Pinned := { name := "ytgafkpngnoecaaa", sum := "d324f2663befd01719144c924e9b2408c7ab1bea398b079a89e40ac15106cf45", checked := Try.checked }
namespace Rows
def none {H : Type} : Left H := { results := [], args := [] }

/-- 'batonlaw05.MvccTells': WHATEVER THE INPUT: true; the input reads as it did. -/
def mvccTellsSpec : ChangeSpec := { name := "mvccTells", fn := fun _ => fun
  | [d1, d2] => { results := [.lit (.bool true)], args := [d1, d2] }
  | _ => none }
def mvccTellsRow : OpenClaim := { program := "ytgafkpngnoecaaa", sum := "d324f2663befd01719144c924e9b2408c7ab1bea398b079a89e40ac15106cf45", func := "baton/batonlaw05.MvccTells", spec := "mvccTells", inPlace := ["internal/bytealg.abigen_runtime_cmpstring", "slices.overlaps[baton/api.KV]"], unfollowed := true, recurses := true, apart := false }
def MvccTellsSaid : Prop := mvccTellsRow.holds Try.pinned (OpenSpec.ofChange mvccTellsSpec)

/-- ITS FALSE NEIGHBOUR: 'it returns false'. Refute it at one input. -/
def mvccTellsWrong : ChangeSpec := { name := "mvccTells", fn := fun _ => fun
  | [d1, d2] => { results := [.lit (.bool false)], args := [d1, d2] }
  | _ => none }
def MvccTellsWrongFalsely : Prop := mvccTellsRow.holds Try.pinned (OpenSpec.ofChange mvccTellsWrong)

/-- 'batonlaw05.MvccApplies': WHATEVER THE INPUT: true; the input reads as it did. -/
def mvccAppliesSpec : ChangeSpec := { name := "mvccApplies", fn := fun _ => fun
  | [d1, d2, d3] => { results := [.lit (.bool true)], args := [d1, d2, d3] }
  | _ => none }
def mvccAppliesRow : OpenClaim := { program := "ytgafkpngnoecaaa", sum := "d324f2663befd01719144c924e9b2408c7ab1bea398b079a89e40ac15106cf45", func := "baton/batonlaw05.MvccApplies", spec := "mvccApplies", inPlace := ["internal/bytealg.abigen_runtime_cmpstring", "slices.overlaps[baton/api.KV]"], unfollowed := true, recurses := true, apart := false }
def MvccAppliesSaid : Prop := mvccAppliesRow.holds Try.pinned (OpenSpec.ofChange mvccAppliesSpec)

/-- ITS FALSE NEIGHBOUR: 'it returns false'. Refute it at one input. -/
def mvccAppliesWrong : ChangeSpec := { name := "mvccApplies", fn := fun _ => fun
  | [d1, d2, d3] => { results := [.lit (.bool false)], args := [d1, d2, d3] }
  | _ => none }
def MvccAppliesWrongFalsely : Prop := mvccAppliesRow.holds Try.pinned (OpenSpec.ofChange mvccAppliesWrong)

/-- 'batonlaw06.TxnDoes': WHATEVER THE INPUT: true; the input reads as it did. -/
def txnDoesSpec : ChangeSpec := { name := "txnDoes", fn := fun _ => fun
  | [d1, d2] => { results := [.lit (.bool true)], args := [d1, d2] }
  | _ => none }
def txnDoesRow : OpenClaim := { program := "ytgafkpngnoecaaa", sum := "d324f2663befd01719144c924e9b2408c7ab1bea398b079a89e40ac15106cf45", func := "baton/batonlaw06.TxnDoes", spec := "txnDoes", inPlace := ["internal/bytealg.abigen_runtime_cmpstring", "slices.overlaps[baton/api.KV]"], unfollowed := true, recurses := true, apart := false }
def TxnDoesSaid : Prop := txnDoesRow.holds Try.pinned (OpenSpec.ofChange txnDoesSpec)

/-- ITS FALSE NEIGHBOUR: 'it returns false'. Refute it at one input. -/
def txnDoesWrong : ChangeSpec := { name := "txnDoes", fn := fun _ => fun
  | [d1, d2] => { results := [.lit (.bool false)], args := [d1, d2] }
  | _ => none }
def TxnDoesWrongFalsely : Prop := txnDoesRow.holds Try.pinned (OpenSpec.ofChange txnDoesWrong)

/-- 'batonlaw06.TxnMakes': WHATEVER THE INPUT: true; the input reads as it did. -/
def txnMakesSpec : ChangeSpec := { name := "txnMakes", fn := fun _ => fun
  | [d1, d2, d3] => { results := [.lit (.bool true)], args := [d1, d2, d3] }
  | _ => none }
def txnMakesRow : OpenClaim := { program := "ytgafkpngnoecaaa", sum := "d324f2663befd01719144c924e9b2408c7ab1bea398b079a89e40ac15106cf45", func := "baton/batonlaw06.TxnMakes", spec := "txnMakes", inPlace := ["internal/bytealg.abigen_runtime_cmpstring", "slices.overlaps[baton/api.KV]"], unfollowed := true, recurses := true, apart := false }
def TxnMakesSaid : Prop := txnMakesRow.holds Try.pinned (OpenSpec.ofChange txnMakesSpec)

/-- ITS FALSE NEIGHBOUR: 'it returns false'. Refute it at one input. -/
def txnMakesWrong : ChangeSpec := { name := "txnMakes", fn := fun _ => fun
  | [d1, d2, d3] => { results := [.lit (.bool false)], args := [d1, d2, d3] }
  | _ => none }
def TxnMakesWrongFalsely : Prop := txnMakesRow.holds Try.pinned (OpenSpec.ofChange txnMakesWrong)

/-- 'batonlaw06.TxnSwaps': WHATEVER THE INPUT: true; the input reads as it did. -/
def txnSwapsSpec : ChangeSpec := { name := "txnSwaps", fn := fun _ => fun
  | [d1, d2, d3] => { results := [.lit (.bool true)], args := [d1, d2, d3] }
  | _ => none }
def txnSwapsRow : OpenClaim := { program := "ytgafkpngnoecaaa", sum := "d324f2663befd01719144c924e9b2408c7ab1bea398b079a89e40ac15106cf45", func := "baton/batonlaw06.TxnSwaps", spec := "txnSwaps", inPlace := ["internal/bytealg.abigen_runtime_cmpstring", "slices.overlaps[baton/api.KV]"], unfollowed := true, recurses := true, apart := false }
def TxnSwapsSaid : Prop := txnSwapsRow.holds Try.pinned (OpenSpec.ofChange txnSwapsSpec)

/-- ITS FALSE NEIGHBOUR: 'it returns false'. Refute it at one input. -/
def txnSwapsWrong : ChangeSpec := { name := "txnSwaps", fn := fun _ => fun
  | [d1, d2, d3] => { results := [.lit (.bool false)], args := [d1, d2, d3] }
  | _ => none }
def TxnSwapsWrongFalsely : Prop := txnSwapsRow.holds Try.pinned (OpenSpec.ofChange txnSwapsWrong)

/- THE SECOND FORM. 'bulk': how many values and letters a reading holds, each counted each time it is reached (what is shared counts as often as it is met; a slice's spare places count too). A statement '..UptoSaid' is the law's where the arguments, and the package variables that the reading takes, are together of bulk at most 1048576: NARROWER than '..Said'. Prove '..Said' where nothing that the law and all that it calls make is longer than what came in: it says more and counts as full. Else prove '..UptoSaid'. A law counts once. -/
mutual
def uptoBulk {H : Type} : DataW H → Nat
  | .lit (.string bytes) => bytes.length + 1
  | .lit _ => 1
  | .nil => 1
  | .ptr d => uptoBulk d + 1
  | .slice elems spare => uptoBulkAll elems + uptoBulkAll spare + 1
  | .agg parts => uptoBulkAll parts + 1
  | .iface _ d => uptoBulk d + 1
  | .map entries => uptoBulkEntries entries + 1
  | .held _ => 1
def uptoBulkAll {H : Type} : List (DataW H) → Nat
  | [] => 0
  | d :: r => uptoBulk d + uptoBulkAll r
def uptoBulkEntries {H : Type} : List (Lit × DataW H) → Nat
  | [] => 0
  | x :: r => uptoBulkEntry x + uptoBulkEntries r
def uptoBulkEntry {H : Type} : Lit × DataW H → Nat
  | (.string bytes, d) => bytes.length + uptoBulk d + 1
  | (_, d) => uptoBulk d + 1
 end
def uptoSmall : (H : Type) → List (DataW H) → Bool := fun _ ds => decide (uptoBulkAll ds ≤ 1048576)
def OpenSpec.upto (s : _root_.Go.ChangeSpec) : _root_.Go.OpenSpec := { _root_.Go.OpenSpec.ofChange s with cond := some uptoSmall }

/-- 'batonlaw05.MvccTells', WHERE WHAT IT READS IS OF BULK AT MOST 1048576: true; the input reads as it did. -/
def mvccTellsUptoRow : OpenClaim := { program := "ytgafkpngnoecaaa", sum := "d324f2663befd01719144c924e9b2408c7ab1bea398b079a89e40ac15106cf45", func := "baton/batonlaw05.MvccTells", spec := "mvccTells", inPlace := ["internal/bytealg.abigen_runtime_cmpstring", "slices.overlaps[baton/api.KV]"], unfollowed := true, recurses := true, apart := false, narrowed := true }
def MvccTellsUptoSaid : Prop := mvccTellsUptoRow.holds Try.pinned (OpenSpec.upto mvccTellsSpec)

/-- 'batonlaw05.MvccApplies', WHERE WHAT IT READS IS OF BULK AT MOST 1048576: true; the input reads as it did. -/
def mvccAppliesUptoRow : OpenClaim := { program := "ytgafkpngnoecaaa", sum := "d324f2663befd01719144c924e9b2408c7ab1bea398b079a89e40ac15106cf45", func := "baton/batonlaw05.MvccApplies", spec := "mvccApplies", inPlace := ["internal/bytealg.abigen_runtime_cmpstring", "slices.overlaps[baton/api.KV]"], unfollowed := true, recurses := true, apart := false, narrowed := true }
def MvccAppliesUptoSaid : Prop := mvccAppliesUptoRow.holds Try.pinned (OpenSpec.upto mvccAppliesSpec)

/-- 'batonlaw06.TxnDoes', WHERE WHAT IT READS IS OF BULK AT MOST 1048576: true; the input reads as it did. -/
def txnDoesUptoRow : OpenClaim := { program := "ytgafkpngnoecaaa", sum := "d324f2663befd01719144c924e9b2408c7ab1bea398b079a89e40ac15106cf45", func := "baton/batonlaw06.TxnDoes", spec := "txnDoes", inPlace := ["internal/bytealg.abigen_runtime_cmpstring", "slices.overlaps[baton/api.KV]"], unfollowed := true, recurses := true, apart := false, narrowed := true }
def TxnDoesUptoSaid : Prop := txnDoesUptoRow.holds Try.pinned (OpenSpec.upto txnDoesSpec)

/-- 'batonlaw06.TxnMakes', WHERE WHAT IT READS IS OF BULK AT MOST 1048576: true; the input reads as it did. -/
def txnMakesUptoRow : OpenClaim := { program := "ytgafkpngnoecaaa", sum := "d324f2663befd01719144c924e9b2408c7ab1bea398b079a89e40ac15106cf45", func := "baton/batonlaw06.TxnMakes", spec := "txnMakes", inPlace := ["internal/bytealg.abigen_runtime_cmpstring", "slices.overlaps[baton/api.KV]"], unfollowed := true, recurses := true, apart := false, narrowed := true }
def TxnMakesUptoSaid : Prop := txnMakesUptoRow.holds Try.pinned (OpenSpec.upto txnMakesSpec)

/-- 'batonlaw06.TxnSwaps', WHERE WHAT IT READS IS OF BULK AT MOST 1048576: true; the input reads as it did. -/
def txnSwapsUptoRow : OpenClaim := { program := "ytgafkpngnoecaaa", sum := "d324f2663befd01719144c924e9b2408c7ab1bea398b079a89e40ac15106cf45", func := "baton/batonlaw06.TxnSwaps", spec := "txnSwaps", inPlace := ["internal/bytealg.abigen_runtime_cmpstring", "slices.overlaps[baton/api.KV]"], unfollowed := true, recurses := true, apart := false, narrowed := true }
def TxnSwapsUptoSaid : Prop := txnSwapsUptoRow.holds Try.pinned (OpenSpec.upto txnSwapsSpec)

end Rows
end Go.Proofs.Ytgafkpngnoecaaa
