/-
  No cell of these rows narrows 'for every input' (looked for: loops, veiled, ifaces, maps, wideKeys, modest, calm, conditions, laid).
  DERIVED. THE GIVEN ROWS OF THIS SEAT. 16 by the template 'for every input the law returns true; each argument reads behind the call as it read before'; 0 by the template 'total and deterministic' (their statements: YtdmhpnobdflkfaaTotals.lean).
  GIVEN WITH THE SEED: the statements are not yours to turn. If you find one false, say at which input.
  Laid BY PROGRAM, IN A SANDBOX (cutbox-rows.mjs): the forced cells as the released guide's own fill.sh prints them over the translation 5edcdb2fff0958ad… (all of the seat's roots in one cut). By AI agents, Wed Nov 11 2026. No macro, syntax, notation, axiom, sorry.
-/
import Derived.Test.YtdmhpnobdflkfaaChecked
import GoSem.Claim
import GoSem.ClaimJoined
import GoSem.ClaimMapViews
import Derived.JoinedTies
import Derived.KernelRfl
namespace Go.Proofs.Ytdmhpnobdflkfaa
/- THE CELL 'sum', in the pinned program and in every row, IS THE sha256 OF THE DUMP (.gsa) THAT YtdmhpnobdflkfaaProg.lean LOADS. Nothing in Lean hashes anything: it is a label: what it is worth is what the hold of that sum in a sandbox is worth. -/
noncomputable def Try.pinned : Pinned := { name := "ytdmhpnobdflkfaa", sum := "5edcdb2fff0958ada988cdf4476c5cba5636c148c0fce8c2e7ddea4bdb239698", checked := Try.checked }
namespace Rows
def none {H : Type} : Left H := { results := [], args := [] }

/-- 'batonlaw11.DriftRuns': WHATEVER THE INPUT: true; the input reads as it did. -/
def driftRunsSpec : ChangeSpec := { name := "driftRuns", fn := fun _ => fun
  | [d1, d2, d3] => { results := [.lit (.bool true)], args := [d1, d2, d3] }
  | _ => none }
def driftRunsRow : OpenClaim := { program := "ytdmhpnobdflkfaa", sum := "5edcdb2fff0958ada988cdf4476c5cba5636c148c0fce8c2e7ddea4bdb239698", func := "baton/batonlaw11.DriftRuns", spec := "driftRuns", unfollowed := true, recurses := true, plainKeys := false, apart := false }
def DriftRunsSaid : Prop := driftRunsRow.holds Try.pinned (OpenSpec.ofChange driftRunsSpec)

/-- ITS FALSE NEIGHBOUR: 'it returns false'. Refute it at one input. -/
def driftRunsWrong : ChangeSpec := { name := "driftRuns", fn := fun _ => fun
  | [d1, d2, d3] => { results := [.lit (.bool false)], args := [d1, d2, d3] }
  | _ => none }
def DriftRunsWrongFalsely : Prop := driftRunsRow.holds Try.pinned (OpenSpec.ofChange driftRunsWrong)

/-- 'batonlaw11.DriftSpans': WHATEVER THE INPUT: true; the input reads as it did. -/
def driftSpansSpec : ChangeSpec := { name := "driftSpans", fn := fun _ => fun
  | [d1, d2, d3] => { results := [.lit (.bool true)], args := [d1, d2, d3] }
  | _ => none }
def driftSpansRow : OpenClaim := { program := "ytdmhpnobdflkfaa", sum := "5edcdb2fff0958ada988cdf4476c5cba5636c148c0fce8c2e7ddea4bdb239698", func := "baton/batonlaw11.DriftSpans", spec := "driftSpans", unfollowed := true, recurses := true, plainKeys := false, apart := false }
def DriftSpansSaid : Prop := driftSpansRow.holds Try.pinned (OpenSpec.ofChange driftSpansSpec)

/-- ITS FALSE NEIGHBOUR: 'it returns false'. Refute it at one input. -/
def driftSpansWrong : ChangeSpec := { name := "driftSpans", fn := fun _ => fun
  | [d1, d2, d3] => { results := [.lit (.bool false)], args := [d1, d2, d3] }
  | _ => none }
def DriftSpansWrongFalsely : Prop := driftSpansRow.holds Try.pinned (OpenSpec.ofChange driftSpansWrong)

/-- 'batonlaw11.DriftFits': WHATEVER THE INPUT: true; the input reads as it did. -/
def driftFitsSpec : ChangeSpec := { name := "driftFits", fn := fun _ => fun
  | [d1, d2, d3] => { results := [.lit (.bool true)], args := [d1, d2, d3] }
  | _ => none }
def driftFitsRow : OpenClaim := { program := "ytdmhpnobdflkfaa", sum := "5edcdb2fff0958ada988cdf4476c5cba5636c148c0fce8c2e7ddea4bdb239698", func := "baton/batonlaw11.DriftFits", spec := "driftFits", unfollowed := true, recurses := true, plainKeys := false, apart := false }
def DriftFitsSaid : Prop := driftFitsRow.holds Try.pinned (OpenSpec.ofChange driftFitsSpec)

/-- ITS FALSE NEIGHBOUR: 'it returns false'. Refute it at one input. -/
def driftFitsWrong : ChangeSpec := { name := "driftFits", fn := fun _ => fun
  | [d1, d2, d3] => { results := [.lit (.bool false)], args := [d1, d2, d3] }
  | _ => none }
def DriftFitsWrongFalsely : Prop := driftFitsRow.holds Try.pinned (OpenSpec.ofChange driftFitsWrong)

/-- 'batonlaw11.DriftTight': WHATEVER THE INPUT: true; the input reads as it did. -/
def driftTightSpec : ChangeSpec := { name := "driftTight", fn := fun _ => fun
  | [d] => { results := [.lit (.bool true)], args := [d] }
  | _ => none }
def driftTightRow : OpenClaim := { program := "ytdmhpnobdflkfaa", sum := "5edcdb2fff0958ada988cdf4476c5cba5636c148c0fce8c2e7ddea4bdb239698", func := "baton/batonlaw11.DriftTight", spec := "driftTight", unfollowed := true, recurses := true, plainKeys := false, apart := false }
def DriftTightSaid : Prop := driftTightRow.holds Try.pinned (OpenSpec.ofChange driftTightSpec)

/-- ITS FALSE NEIGHBOUR: 'it returns false'. Refute it at one input. -/
def driftTightWrong : ChangeSpec := { name := "driftTight", fn := fun _ => fun
  | [d] => { results := [.lit (.bool false)], args := [d] }
  | _ => none }
def DriftTightWrongFalsely : Prop := driftTightRow.holds Try.pinned (OpenSpec.ofChange driftTightWrong)

/-- 'batonlaw11.DriftBounds': WHATEVER THE INPUT: true; the input reads as it did. -/
def driftBoundsSpec : ChangeSpec := { name := "driftBounds", fn := fun _ => fun
  | [d1, d2, d3] => { results := [.lit (.bool true)], args := [d1, d2, d3] }
  | _ => none }
def driftBoundsRow : OpenClaim := { program := "ytdmhpnobdflkfaa", sum := "5edcdb2fff0958ada988cdf4476c5cba5636c148c0fce8c2e7ddea4bdb239698", func := "baton/batonlaw11.DriftBounds", spec := "driftBounds", unfollowed := true, recurses := true, plainKeys := false, apart := false }
def DriftBoundsSaid : Prop := driftBoundsRow.holds Try.pinned (OpenSpec.ofChange driftBoundsSpec)

/-- ITS FALSE NEIGHBOUR: 'it returns false'. Refute it at one input. -/
def driftBoundsWrong : ChangeSpec := { name := "driftBounds", fn := fun _ => fun
  | [d1, d2, d3] => { results := [.lit (.bool false)], args := [d1, d2, d3] }
  | _ => none }
def DriftBoundsWrongFalsely : Prop := driftBoundsRow.holds Try.pinned (OpenSpec.ofChange driftBoundsWrong)

/-- 'batonlaw12.BagPuts': WHATEVER THE INPUT: true; the input reads as it did. -/
def bagPutsSpec : ChangeSpec := { name := "bagPuts", fn := fun _ => fun
  | [d1, d2] => { results := [.lit (.bool true)], args := [d1, d2] }
  | _ => none }
def bagPutsRow : OpenClaim := { program := "ytdmhpnobdflkfaa", sum := "5edcdb2fff0958ada988cdf4476c5cba5636c148c0fce8c2e7ddea4bdb239698", func := "baton/batonlaw12.BagPuts", spec := "bagPuts", plainKeys := false, apart := false }
def BagPutsSaid : Prop := bagPutsRow.holds Try.pinned (OpenSpec.ofChange bagPutsSpec)

/-- ITS FALSE NEIGHBOUR: 'it returns false'. Refute it at one input. -/
def bagPutsWrong : ChangeSpec := { name := "bagPuts", fn := fun _ => fun
  | [d1, d2] => { results := [.lit (.bool false)], args := [d1, d2] }
  | _ => none }
def BagPutsWrongFalsely : Prop := bagPutsRow.holds Try.pinned (OpenSpec.ofChange bagPutsWrong)

/-- 'batonlaw12.BagTakes': WHATEVER THE INPUT: true; the input reads as it did. -/
def bagTakesSpec : ChangeSpec := { name := "bagTakes", fn := fun _ => fun
  | [d1, d2, d3] => { results := [.lit (.bool true)], args := [d1, d2, d3] }
  | _ => none }
def bagTakesRow : OpenClaim := { program := "ytdmhpnobdflkfaa", sum := "5edcdb2fff0958ada988cdf4476c5cba5636c148c0fce8c2e7ddea4bdb239698", func := "baton/batonlaw12.BagTakes", spec := "bagTakes", plainKeys := false, apart := false }
def BagTakesSaid : Prop := bagTakesRow.holds Try.pinned (OpenSpec.ofChange bagTakesSpec)

/-- ITS FALSE NEIGHBOUR: 'it returns false'. Refute it at one input. -/
def bagTakesWrong : ChangeSpec := { name := "bagTakes", fn := fun _ => fun
  | [d1, d2, d3] => { results := [.lit (.bool false)], args := [d1, d2, d3] }
  | _ => none }
def BagTakesWrongFalsely : Prop := bagTakesRow.holds Try.pinned (OpenSpec.ofChange bagTakesWrong)

/-- 'batonlaw12.BagMay': WHATEVER THE INPUT: true; the input reads as it did. -/
def bagMaySpec : ChangeSpec := { name := "bagMay", fn := fun _ => fun
  | [d1, d2, d3] => { results := [.lit (.bool true)], args := [d1, d2, d3] }
  | _ => none }
def bagMayRow : OpenClaim := { program := "ytdmhpnobdflkfaa", sum := "5edcdb2fff0958ada988cdf4476c5cba5636c148c0fce8c2e7ddea4bdb239698", func := "baton/batonlaw12.BagMay", spec := "bagMay", plainKeys := false, apart := false }
def BagMaySaid : Prop := bagMayRow.holds Try.pinned (OpenSpec.ofChange bagMaySpec)

/-- ITS FALSE NEIGHBOUR: 'it returns false'. Refute it at one input. -/
def bagMayWrong : ChangeSpec := { name := "bagMay", fn := fun _ => fun
  | [d1, d2, d3] => { results := [.lit (.bool false)], args := [d1, d2, d3] }
  | _ => none }
def BagMayWrongFalsely : Prop := bagMayRow.holds Try.pinned (OpenSpec.ofChange bagMayWrong)

/-- 'batonlaw12.BagBack': WHATEVER THE INPUT: true; the input reads as it did. -/
def bagBackSpec : ChangeSpec := { name := "bagBack", fn := fun _ => fun
  | [d1, d2, d3] => { results := [.lit (.bool true)], args := [d1, d2, d3] }
  | _ => none }
def bagBackRow : OpenClaim := { program := "ytdmhpnobdflkfaa", sum := "5edcdb2fff0958ada988cdf4476c5cba5636c148c0fce8c2e7ddea4bdb239698", func := "baton/batonlaw12.BagBack", spec := "bagBack", plainKeys := false, apart := false }
def BagBackSaid : Prop := bagBackRow.holds Try.pinned (OpenSpec.ofChange bagBackSpec)

/-- ITS FALSE NEIGHBOUR: 'it returns false'. Refute it at one input. -/
def bagBackWrong : ChangeSpec := { name := "bagBack", fn := fun _ => fun
  | [d1, d2, d3] => { results := [.lit (.bool false)], args := [d1, d2, d3] }
  | _ => none }
def BagBackWrongFalsely : Prop := bagBackRow.holds Try.pinned (OpenSpec.ofChange bagBackWrong)

/-- 'batonlaw12.BagCounts': WHATEVER THE INPUT: true; the input reads as it did. -/
def bagCountsSpec : ChangeSpec := { name := "bagCounts", fn := fun _ => fun
  | [d1, d2, d3] => { results := [.lit (.bool true)], args := [d1, d2, d3] }
  | _ => none }
def bagCountsRow : OpenClaim := { program := "ytdmhpnobdflkfaa", sum := "5edcdb2fff0958ada988cdf4476c5cba5636c148c0fce8c2e7ddea4bdb239698", func := "baton/batonlaw12.BagCounts", spec := "bagCounts", plainKeys := false, apart := false }
def BagCountsSaid : Prop := bagCountsRow.holds Try.pinned (OpenSpec.ofChange bagCountsSpec)

/-- ITS FALSE NEIGHBOUR: 'it returns false'. Refute it at one input. -/
def bagCountsWrong : ChangeSpec := { name := "bagCounts", fn := fun _ => fun
  | [d1, d2, d3] => { results := [.lit (.bool false)], args := [d1, d2, d3] }
  | _ => none }
def BagCountsWrongFalsely : Prop := bagCountsRow.holds Try.pinned (OpenSpec.ofChange bagCountsWrong)

/-- 'batonlaw12.BagMoves': WHATEVER THE INPUT: true; the input reads as it did. -/
def bagMovesSpec : ChangeSpec := { name := "bagMoves", fn := fun _ => fun
  | [d1, d2] => { results := [.lit (.bool true)], args := [d1, d2] }
  | _ => none }
def bagMovesRow : OpenClaim := { program := "ytdmhpnobdflkfaa", sum := "5edcdb2fff0958ada988cdf4476c5cba5636c148c0fce8c2e7ddea4bdb239698", func := "baton/batonlaw12.BagMoves", spec := "bagMoves", plainKeys := false, apart := false }
def BagMovesSaid : Prop := bagMovesRow.holds Try.pinned (OpenSpec.ofChange bagMovesSpec)

/-- ITS FALSE NEIGHBOUR: 'it returns false'. Refute it at one input. -/
def bagMovesWrong : ChangeSpec := { name := "bagMoves", fn := fun _ => fun
  | [d1, d2] => { results := [.lit (.bool false)], args := [d1, d2] }
  | _ => none }
def BagMovesWrongFalsely : Prop := bagMovesRow.holds Try.pinned (OpenSpec.ofChange bagMovesWrong)

/-- 'batonlaw09.MemoKeeps': WHATEVER THE INPUT: true; the input reads as it did. -/
def memoKeepsSpec : ChangeSpec := { name := "memoKeeps", fn := fun _ => fun
  | [d1, d2, d3] => { results := [.lit (.bool true)], args := [d1, d2, d3] }
  | _ => none }
def memoKeepsRow : OpenClaim := { program := "ytdmhpnobdflkfaa", sum := "5edcdb2fff0958ada988cdf4476c5cba5636c148c0fce8c2e7ddea4bdb239698", func := "baton/batonlaw09.MemoKeeps", spec := "memoKeeps", unfollowed := true, recurses := true, plainKeys := false, apart := false }
def MemoKeepsSaid : Prop := memoKeepsRow.holds Try.pinned (OpenSpec.ofChange memoKeepsSpec)

/-- ITS FALSE NEIGHBOUR: 'it returns false'. Refute it at one input. -/
def memoKeepsWrong : ChangeSpec := { name := "memoKeeps", fn := fun _ => fun
  | [d1, d2, d3] => { results := [.lit (.bool false)], args := [d1, d2, d3] }
  | _ => none }
def MemoKeepsWrongFalsely : Prop := memoKeepsRow.holds Try.pinned (OpenSpec.ofChange memoKeepsWrong)

/-- 'batonlaw09.MemoMay': WHATEVER THE INPUT: true; the input reads as it did. -/
def memoMaySpec : ChangeSpec := { name := "memoMay", fn := fun _ => fun
  | [d1, d2, d3] => { results := [.lit (.bool true)], args := [d1, d2, d3] }
  | _ => none }
def memoMayRow : OpenClaim := { program := "ytdmhpnobdflkfaa", sum := "5edcdb2fff0958ada988cdf4476c5cba5636c148c0fce8c2e7ddea4bdb239698", func := "baton/batonlaw09.MemoMay", spec := "memoMay", unfollowed := true, recurses := true, plainKeys := false, apart := false }
def MemoMaySaid : Prop := memoMayRow.holds Try.pinned (OpenSpec.ofChange memoMaySpec)

/-- ITS FALSE NEIGHBOUR: 'it returns false'. Refute it at one input. -/
def memoMayWrong : ChangeSpec := { name := "memoMay", fn := fun _ => fun
  | [d1, d2, d3] => { results := [.lit (.bool false)], args := [d1, d2, d3] }
  | _ => none }
def MemoMayWrongFalsely : Prop := memoMayRow.holds Try.pinned (OpenSpec.ofChange memoMayWrong)

/-- 'batonlaw09.MemoOnce': WHATEVER THE INPUT: true; the input reads as it did. -/
def memoOnceSpec : ChangeSpec := { name := "memoOnce", fn := fun _ => fun
  | [d1, d2, d3] => { results := [.lit (.bool true)], args := [d1, d2, d3] }
  | _ => none }
def memoOnceRow : OpenClaim := { program := "ytdmhpnobdflkfaa", sum := "5edcdb2fff0958ada988cdf4476c5cba5636c148c0fce8c2e7ddea4bdb239698", func := "baton/batonlaw09.MemoOnce", spec := "memoOnce", unfollowed := true, recurses := true, plainKeys := false, apart := false }
def MemoOnceSaid : Prop := memoOnceRow.holds Try.pinned (OpenSpec.ofChange memoOnceSpec)

/-- ITS FALSE NEIGHBOUR: 'it returns false'. Refute it at one input. -/
def memoOnceWrong : ChangeSpec := { name := "memoOnce", fn := fun _ => fun
  | [d1, d2, d3] => { results := [.lit (.bool false)], args := [d1, d2, d3] }
  | _ => none }
def MemoOnceWrongFalsely : Prop := memoOnceRow.holds Try.pinned (OpenSpec.ofChange memoOnceWrong)

/-- 'batonlaw09.MemoWindow': WHATEVER THE INPUT: true; the input reads as it did. -/
def memoWindowSpec : ChangeSpec := { name := "memoWindow", fn := fun _ => fun
  | [d1, d2] => { results := [.lit (.bool true)], args := [d1, d2] }
  | _ => none }
def memoWindowRow : OpenClaim := { program := "ytdmhpnobdflkfaa", sum := "5edcdb2fff0958ada988cdf4476c5cba5636c148c0fce8c2e7ddea4bdb239698", func := "baton/batonlaw09.MemoWindow", spec := "memoWindow", unfollowed := true, recurses := true, plainKeys := false, apart := false }
def MemoWindowSaid : Prop := memoWindowRow.holds Try.pinned (OpenSpec.ofChange memoWindowSpec)

/-- ITS FALSE NEIGHBOUR: 'it returns false'. Refute it at one input. -/
def memoWindowWrong : ChangeSpec := { name := "memoWindow", fn := fun _ => fun
  | [d1, d2] => { results := [.lit (.bool false)], args := [d1, d2] }
  | _ => none }
def MemoWindowWrongFalsely : Prop := memoWindowRow.holds Try.pinned (OpenSpec.ofChange memoWindowWrong)

/-- 'batonlaw09.MemoFloors': WHATEVER THE INPUT: true; the input reads as it did. -/
def memoFloorsSpec : ChangeSpec := { name := "memoFloors", fn := fun _ => fun
  | [d] => { results := [.lit (.bool true)], args := [d] }
  | _ => none }
def memoFloorsRow : OpenClaim := { program := "ytdmhpnobdflkfaa", sum := "5edcdb2fff0958ada988cdf4476c5cba5636c148c0fce8c2e7ddea4bdb239698", func := "baton/batonlaw09.MemoFloors", spec := "memoFloors", unfollowed := true, recurses := true, plainKeys := false, apart := false }
def MemoFloorsSaid : Prop := memoFloorsRow.holds Try.pinned (OpenSpec.ofChange memoFloorsSpec)

/-- ITS FALSE NEIGHBOUR: 'it returns false'. Refute it at one input. -/
def memoFloorsWrong : ChangeSpec := { name := "memoFloors", fn := fun _ => fun
  | [d] => { results := [.lit (.bool false)], args := [d] }
  | _ => none }
def MemoFloorsWrongFalsely : Prop := memoFloorsRow.holds Try.pinned (OpenSpec.ofChange memoFloorsWrong)

/- THE SECOND FORM. 'bulk': how many values and letters a reading holds, each counted each time it is reached (what is shared counts as often as it is met; a slice's spare places count too). A statement '..UptoSaid' is the law's where the arguments, and the package variables that the reading takes, are together of bulk at most 1048576: NARROWER than '..Said'. Prove '..Said' where nothing that the law and all that it calls make is longer than what came in: it says more and counts as full. Else prove '..UptoSaid'. A law counts once. -/
mutual
def uptoBulk {H : Type} : DataW H → Nat
  | .lit (.string bytes) => bytes.length + 1
  | .lit _ => 1
  | .nil => 1
  | .ptr d => uptoBulk d + 1
  | .slice elems spare => uptoBulkAll elems + uptoBulkAll spare + 1
  | .agg parts => uptoBulkAll parts + 1
  | .iface _ d => uptoBulk d + 1
  | .map entries => uptoBulkEntries entries + 1
  | .held _ => 1
def uptoBulkAll {H : Type} : List (DataW H) → Nat
  | [] => 0
  | d :: r => uptoBulk d + uptoBulkAll r
def uptoBulkEntries {H : Type} : List (Lit × DataW H) → Nat
  | [] => 0
  | x :: r => uptoBulkEntry x + uptoBulkEntries r
def uptoBulkEntry {H : Type} : Lit × DataW H → Nat
  | (.string bytes, d) => bytes.length + uptoBulk d + 1
  | (_, d) => uptoBulk d + 1
 end
def uptoSmall : (H : Type) → List (DataW H) → Bool := fun _ ds => decide (uptoBulkAll ds ≤ 1048576)
def OpenSpec.upto (s : _root_.Go.ChangeSpec) : _root_.Go.OpenSpec := { _root_.Go.OpenSpec.ofChange s with cond := some uptoSmall }

/-- 'batonlaw11.DriftRuns', WHERE WHAT IT READS IS OF BULK AT MOST 1048576: true; the input reads as it did. -/
def driftRunsUptoRow : OpenClaim := { program := "ytdmhpnobdflkfaa", sum := "5edcdb2fff0958ada988cdf4476c5cba5636c148c0fce8c2e7ddea4bdb239698", func := "baton/batonlaw11.DriftRuns", spec := "driftRuns", unfollowed := true, recurses := true, plainKeys := false, apart := false, narrowed := true }
def DriftRunsUptoSaid : Prop := driftRunsUptoRow.holds Try.pinned (OpenSpec.upto driftRunsSpec)

/-- 'batonlaw11.DriftSpans', WHERE WHAT IT READS IS OF BULK AT MOST 1048576: true; the input reads as it did. -/
def driftSpansUptoRow : OpenClaim := { program := "ytdmhpnobdflkfaa", sum := "5edcdb2fff0958ada988cdf4476c5cba5636c148c0fce8c2e7ddea4bdb239698", func := "baton/batonlaw11.DriftSpans", spec := "driftSpans", unfollowed := true, recurses := true, plainKeys := false, apart := false, narrowed := true }
def DriftSpansUptoSaid : Prop := driftSpansUptoRow.holds Try.pinned (OpenSpec.upto driftSpansSpec)

/-- 'batonlaw11.DriftFits', WHERE WHAT IT READS IS OF BULK AT MOST 1048576: true; the input reads as it did. -/
def driftFitsUptoRow : OpenClaim := { program := "ytdmhpnobdflkfaa", sum := "5edcdb2fff0958ada988cdf4476c5cba5636c148c0fce8c2e7ddea4bdb239698", func := "baton/batonlaw11.DriftFits", spec := "driftFits", unfollowed := true, recurses := true, plainKeys := false, apart := false, narrowed := true }
def DriftFitsUptoSaid : Prop := driftFitsUptoRow.holds Try.pinned (OpenSpec.upto driftFitsSpec)

/-- 'batonlaw11.DriftTight', WHERE WHAT IT READS IS OF BULK AT MOST 1048576: true; the input reads as it did. -/
def driftTightUptoRow : OpenClaim := { program := "ytdmhpnobdflkfaa", sum := "5edcdb2fff0958ada988cdf4476c5cba5636c148c0fce8c2e7ddea4bdb239698", func := "baton/batonlaw11.DriftTight", spec := "driftTight", unfollowed := true, recurses := true, plainKeys := false, apart := false, narrowed := true }
def DriftTightUptoSaid : Prop := driftTightUptoRow.holds Try.pinned (OpenSpec.upto driftTightSpec)

/-- 'batonlaw11.DriftBounds', WHERE WHAT IT READS IS OF BULK AT MOST 1048576: true; the input reads as it did. -/
def driftBoundsUptoRow : OpenClaim := { program := "ytdmhpnobdflkfaa", sum := "5edcdb2fff0958ada988cdf4476c5cba5636c148c0fce8c2e7ddea4bdb239698", func := "baton/batonlaw11.DriftBounds", spec := "driftBounds", unfollowed := true, recurses := true, plainKeys := false, apart := false, narrowed := true }
def DriftBoundsUptoSaid : Prop := driftBoundsUptoRow.holds Try.pinned (OpenSpec.upto driftBoundsSpec)

/-- 'batonlaw12.BagPuts', WHERE WHAT IT READS IS OF BULK AT MOST 1048576: true; the input reads as it did. -/
def bagPutsUptoRow : OpenClaim := { program := "ytdmhpnobdflkfaa", sum := "5edcdb2fff0958ada988cdf4476c5cba5636c148c0fce8c2e7ddea4bdb239698", func := "baton/batonlaw12.BagPuts", spec := "bagPuts", plainKeys := false, apart := false, narrowed := true }
def BagPutsUptoSaid : Prop := bagPutsUptoRow.holds Try.pinned (OpenSpec.upto bagPutsSpec)

/-- 'batonlaw12.BagTakes', WHERE WHAT IT READS IS OF BULK AT MOST 1048576: true; the input reads as it did. -/
def bagTakesUptoRow : OpenClaim := { program := "ytdmhpnobdflkfaa", sum := "5edcdb2fff0958ada988cdf4476c5cba5636c148c0fce8c2e7ddea4bdb239698", func := "baton/batonlaw12.BagTakes", spec := "bagTakes", plainKeys := false, apart := false, narrowed := true }
def BagTakesUptoSaid : Prop := bagTakesUptoRow.holds Try.pinned (OpenSpec.upto bagTakesSpec)

/-- 'batonlaw12.BagMay', WHERE WHAT IT READS IS OF BULK AT MOST 1048576: true; the input reads as it did. -/
def bagMayUptoRow : OpenClaim := { program := "ytdmhpnobdflkfaa", sum := "5edcdb2fff0958ada988cdf4476c5cba5636c148c0fce8c2e7ddea4bdb239698", func := "baton/batonlaw12.BagMay", spec := "bagMay", plainKeys := false, apart := false, narrowed := true }
def BagMayUptoSaid : Prop := bagMayUptoRow.holds Try.pinned (OpenSpec.upto bagMaySpec)

/-- 'batonlaw12.BagBack', WHERE WHAT IT READS IS OF BULK AT MOST 1048576: true; the input reads as it did. -/
def bagBackUptoRow : OpenClaim := { program := "ytdmhpnobdflkfaa", sum := "5edcdb2fff0958ada988cdf4476c5cba5636c148c0fce8c2e7ddea4bdb239698", func := "baton/batonlaw12.BagBack", spec := "bagBack", plainKeys := false, apart := false, narrowed := true }
def BagBackUptoSaid : Prop := bagBackUptoRow.holds Try.pinned (OpenSpec.upto bagBackSpec)

/-- 'batonlaw12.BagCounts', WHERE WHAT IT READS IS OF BULK AT MOST 1048576: true; the input reads as it did. -/
def bagCountsUptoRow : OpenClaim := { program := "ytdmhpnobdflkfaa", sum := "5edcdb2fff0958ada988cdf4476c5cba5636c148c0fce8c2e7ddea4bdb239698", func := "baton/batonlaw12.BagCounts", spec := "bagCounts", plainKeys := false, apart := false, narrowed := true }
def BagCountsUptoSaid : Prop := bagCountsUptoRow.holds Try.pinned (OpenSpec.upto bagCountsSpec)

/-- 'batonlaw12.BagMoves', WHERE WHAT IT READS IS OF BULK AT MOST 1048576: true; the input reads as it did. -/
def bagMovesUptoRow : OpenClaim := { program := "ytdmhpnobdflkfaa", sum := "5edcdb2fff0958ada988cdf4476c5cba5636c148c0fce8c2e7ddea4bdb239698", func := "baton/batonlaw12.BagMoves", spec := "bagMoves", plainKeys := false, apart := false, narrowed := true }
def BagMovesUptoSaid : Prop := bagMovesUptoRow.holds Try.pinned (OpenSpec.upto bagMovesSpec)

/-- 'batonlaw09.MemoKeeps', WHERE WHAT IT READS IS OF BULK AT MOST 1048576: true; the input reads as it did. -/
def memoKeepsUptoRow : OpenClaim := { program := "ytdmhpnobdflkfaa", sum := "5edcdb2fff0958ada988cdf4476c5cba5636c148c0fce8c2e7ddea4bdb239698", func := "baton/batonlaw09.MemoKeeps", spec := "memoKeeps", unfollowed := true, recurses := true, plainKeys := false, apart := false, narrowed := true }
def MemoKeepsUptoSaid : Prop := memoKeepsUptoRow.holds Try.pinned (OpenSpec.upto memoKeepsSpec)

/-- 'batonlaw09.MemoMay', WHERE WHAT IT READS IS OF BULK AT MOST 1048576: true; the input reads as it did. -/
def memoMayUptoRow : OpenClaim := { program := "ytdmhpnobdflkfaa", sum := "5edcdb2fff0958ada988cdf4476c5cba5636c148c0fce8c2e7ddea4bdb239698", func := "baton/batonlaw09.MemoMay", spec := "memoMay", unfollowed := true, recurses := true, plainKeys := false, apart := false, narrowed := true }
def MemoMayUptoSaid : Prop := memoMayUptoRow.holds Try.pinned (OpenSpec.upto memoMaySpec)

/-- 'batonlaw09.MemoOnce', WHERE WHAT IT READS IS OF BULK AT MOST 1048576: true; the input reads as it did. -/
def memoOnceUptoRow : OpenClaim := { program := "ytdmhpnobdflkfaa", sum := "5edcdb2fff0958ada988cdf4476c5cba5636c148c0fce8c2e7ddea4bdb239698", func := "baton/batonlaw09.MemoOnce", spec := "memoOnce", unfollowed := true, recurses := true, plainKeys := false, apart := false, narrowed := true }
def MemoOnceUptoSaid : Prop := memoOnceUptoRow.holds Try.pinned (OpenSpec.upto memoOnceSpec)

/-- 'batonlaw09.MemoWindow', WHERE WHAT IT READS IS OF BULK AT MOST 1048576: true; the input reads as it did. -/
def memoWindowUptoRow : OpenClaim := { program := "ytdmhpnobdflkfaa", sum := "5edcdb2fff0958ada988cdf4476c5cba5636c148c0fce8c2e7ddea4bdb239698", func := "baton/batonlaw09.MemoWindow", spec := "memoWindow", unfollowed := true, recurses := true, plainKeys := false, apart := false, narrowed := true }
def MemoWindowUptoSaid : Prop := memoWindowUptoRow.holds Try.pinned (OpenSpec.upto memoWindowSpec)

/-- 'batonlaw09.MemoFloors', WHERE WHAT IT READS IS OF BULK AT MOST 1048576: true; the input reads as it did. -/
def memoFloorsUptoRow : OpenClaim := { program := "ytdmhpnobdflkfaa", sum := "5edcdb2fff0958ada988cdf4476c5cba5636c148c0fce8c2e7ddea4bdb239698", func := "baton/batonlaw09.MemoFloors", spec := "memoFloors", unfollowed := true, recurses := true, plainKeys := false, apart := false, narrowed := true }
def MemoFloorsUptoSaid : Prop := memoFloorsUptoRow.holds Try.pinned (OpenSpec.upto memoFloorsSpec)

end Rows
end Go.Proofs.Ytdmhpnobdflkfaa
