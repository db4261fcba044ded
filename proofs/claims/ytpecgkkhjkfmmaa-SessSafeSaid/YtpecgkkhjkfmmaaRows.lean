/-
  No cell of these rows narrows 'for every input' (looked for: loops, veiled, ifaces, maps, wideKeys, modest, calm, conditions, laid).
  DERIVED. THE GIVEN ROWS OF THIS SEAT. 10 by the template 'for every input the law returns true; each argument reads behind the call as it read before'; 0 by the template 'total and deterministic' (their statements: YtpecgkkhjkfmmaaTotals.lean).
  GIVEN WITH THE SEED: the statements are not yours to turn. If you find one false, say at which input.
  Laid BY PROGRAM, IN A SANDBOX (cutbox-rows.mjs): the forced cells as the released guide's own fill.sh prints them over the translation a0b37e3cf4bdddff… (all of the seat's roots in one cut). By AI agents, Wed Nov 11 2026. No macro, syntax, notation, axiom, sorry.
-/
import Derived.Test.YtpecgkkhjkfmmaaChecked
import GoSem.Claim
import GoSem.ClaimJoined
import GoSem.ClaimMapViews
import Derived.JoinedTies
import Derived.KernelRfl
namespace Go.Proofs.Ytpecgkkhjkfmmaa
/- THE CELL 'sum', in the pinned program and in every row, IS THE sha256 OF THE DUMP (.gsa) THAT YtpecgkkhjkfmmaaProg.lean LOADS. Nothing in Lean hashes anything: it is a label: what it is worth is what the hold of that sum in a sandbox is worth. -/
noncomputable def Try.pinned : Pinned := { name := "ytpecgkkhjkfmmaa", sum := "a0b37e3cf4bdddffd6e0add8be2c144608124762a54c7f38ad488321290cb9a7", checked := Try.checked }
namespace Rows
def none {H : Type} : Left H := { results := [], args := [] }

/-- 'batonlaw09.MemoKeeps': WHATEVER THE INPUT: true; the input reads as it did. -/
def memoKeepsSpec : ChangeSpec := { name := "memoKeeps", fn := fun _ => fun
  | [d1, d2, d3] => { results := [.lit (.bool true)], args := [d1, d2, d3] }
  | _ => none }
def memoKeepsRow : OpenClaim := { program := "ytpecgkkhjkfmmaa", sum := "a0b37e3cf4bdddffd6e0add8be2c144608124762a54c7f38ad488321290cb9a7", func := "baton/batonlaw09.MemoKeeps", spec := "memoKeeps", unfollowed := true, recurses := true, plainKeys := false, apart := false }
def MemoKeepsSaid : Prop := memoKeepsRow.holds Try.pinned (OpenSpec.ofChange memoKeepsSpec)

/-- ITS FALSE NEIGHBOUR: 'it returns false'. Refute it at one input. -/
def memoKeepsWrong : ChangeSpec := { name := "memoKeeps", fn := fun _ => fun
  | [d1, d2, d3] => { results := [.lit (.bool false)], args := [d1, d2, d3] }
  | _ => none }
def MemoKeepsWrongFalsely : Prop := memoKeepsRow.holds Try.pinned (OpenSpec.ofChange memoKeepsWrong)

/-- 'batonlaw09.MemoMay': WHATEVER THE INPUT: true; the input reads as it did. -/
def memoMaySpec : ChangeSpec := { name := "memoMay", fn := fun _ => fun
  | [d1, d2, d3] => { results := [.lit (.bool true)], args := [d1, d2, d3] }
  | _ => none }
def memoMayRow : OpenClaim := { program := "ytpecgkkhjkfmmaa", sum := "a0b37e3cf4bdddffd6e0add8be2c144608124762a54c7f38ad488321290cb9a7", func := "baton/batonlaw09.MemoMay", spec := "memoMay", unfollowed := true, recurses := true, plainKeys := false, apart := false }
def MemoMaySaid : Prop := memoMayRow.holds Try.pinned (OpenSpec.ofChange memoMaySpec)

/-- ITS FALSE NEIGHBOUR: 'it returns false'. Refute it at one input. -/
def memoMayWrong : ChangeSpec := { name := "memoMay", fn := fun _ => fun
  | [d1, d2, d3] => { results := [.lit (.bool false)], args := [d1, d2, d3] }
  | _ => none }
def MemoMayWrongFalsely : Prop := memoMayRow.holds Try.pinned (OpenSpec.ofChange memoMayWrong)

/-- 'batonlaw09.MemoOnce': WHATEVER THE INPUT: true; the input reads as it did. -/
def memoOnceSpec : ChangeSpec := { name := "memoOnce", fn := fun _ => fun
  | [d1, d2, d3] => { results := [.lit (.bool true)], args := [d1, d2, d3] }
  | _ => none }
def memoOnceRow : OpenClaim := { program := "ytpecgkkhjkfmmaa", sum := "a0b37e3cf4bdddffd6e0add8be2c144608124762a54c7f38ad488321290cb9a7", func := "baton/batonlaw09.MemoOnce", spec := "memoOnce", unfollowed := true, recurses := true, plainKeys := false, apart := false }
def MemoOnceSaid : Prop := memoOnceRow.holds Try.pinned (OpenSpec.ofChange memoOnceSpec)

/-- ITS FALSE NEIGHBOUR: 'it returns false'. Refute it at one input. -/
def memoOnceWrong : ChangeSpec := { name := "memoOnce", fn := fun _ => fun
  | [d1, d2, d3] => { results := [.lit (.bool false)], args := [d1, d2, d3] }
  | _ => none }
def MemoOnceWrongFalsely : Prop := memoOnceRow.holds Try.pinned (OpenSpec.ofChange memoOnceWrong)

/-- 'batonlaw09.MemoWindow': WHATEVER THE INPUT: true; the input reads as it did. -/
def memoWindowSpec : ChangeSpec := { name := "memoWindow", fn := fun _ => fun
  | [d1, d2] => { results := [.lit (.bool true)], args := [d1, d2] }
  | _ => none }
def memoWindowRow : OpenClaim := { program := "ytpecgkkhjkfmmaa", sum := "a0b37e3cf4bdddffd6e0add8be2c144608124762a54c7f38ad488321290cb9a7", func := "baton/batonlaw09.MemoWindow", spec := "memoWindow", unfollowed := true, recurses := true, plainKeys := false, apart := false }
def MemoWindowSaid : Prop := memoWindowRow.holds Try.pinned (OpenSpec.ofChange memoWindowSpec)

/-- ITS FALSE NEIGHBOUR: 'it returns false'. Refute it at one input. -/
def memoWindowWrong : ChangeSpec := { name := "memoWindow", fn := fun _ => fun
  | [d1, d2] => { results := [.lit (.bool false)], args := [d1, d2] }
  | _ => none }
def MemoWindowWrongFalsely : Prop := memoWindowRow.holds Try.pinned (OpenSpec.ofChange memoWindowWrong)

/-- 'batonlaw09.MemoFloors': WHATEVER THE INPUT: true; the input reads as it did. -/
def memoFloorsSpec : ChangeSpec := { name := "memoFloors", fn := fun _ => fun
  | [d] => { results := [.lit (.bool true)], args := [d] }
  | _ => none }
def memoFloorsRow : OpenClaim := { program := "ytpecgkkhjkfmmaa", sum := "a0b37e3cf4bdddffd6e0add8be2c144608124762a54c7f38ad488321290cb9a7", func := "baton/batonlaw09.MemoFloors", spec := "memoFloors", unfollowed := true, recurses := true, plainKeys := false, apart := false }
def MemoFloorsSaid : Prop := memoFloorsRow.holds Try.pinned (OpenSpec.ofChange memoFloorsSpec)

/-- ITS FALSE NEIGHBOUR: 'it returns false'. Refute it at one input. -/
def memoFloorsWrong : ChangeSpec := { name := "memoFloors", fn := fun _ => fun
  | [d] => { results := [.lit (.bool false)], args := [d] }
  | _ => none }
def MemoFloorsWrongFalsely : Prop := memoFloorsRow.holds Try.pinned (OpenSpec.ofChange memoFloorsWrong)

/-- 'batonlaw14.SessTells': WHATEVER THE INPUT: true; the input reads as it did. -/
def sessTellsSpec : ChangeSpec := { name := "sessTells", fn := fun _ => fun
  | [d1, d2, d3] => { results := [.lit (.bool true)], args := [d1, d2, d3] }
  | _ => none }
def sessTellsRow : OpenClaim := { program := "ytpecgkkhjkfmmaa", sum := "a0b37e3cf4bdddffd6e0add8be2c144608124762a54c7f38ad488321290cb9a7", func := "baton/batonlaw14.SessTells", spec := "sessTells", plainKeys := false, apart := false }
def SessTellsSaid : Prop := sessTellsRow.holds Try.pinned (OpenSpec.ofChange sessTellsSpec)

/-- ITS FALSE NEIGHBOUR: 'it returns false'. Refute it at one input. -/
def sessTellsWrong : ChangeSpec := { name := "sessTells", fn := fun _ => fun
  | [d1, d2, d3] => { results := [.lit (.bool false)], args := [d1, d2, d3] }
  | _ => none }
def SessTellsWrongFalsely : Prop := sessTellsRow.holds Try.pinned (OpenSpec.ofChange sessTellsWrong)

/-- 'batonlaw14.SessKeeps': WHATEVER THE INPUT: true; the input reads as it did. -/
def sessKeepsSpec : ChangeSpec := { name := "sessKeeps", fn := fun _ => fun
  | [d1, d2, d3] => { results := [.lit (.bool true)], args := [d1, d2, d3] }
  | _ => none }
def sessKeepsRow : OpenClaim := { program := "ytpecgkkhjkfmmaa", sum := "a0b37e3cf4bdddffd6e0add8be2c144608124762a54c7f38ad488321290cb9a7", func := "baton/batonlaw14.SessKeeps", spec := "sessKeeps", plainKeys := false, apart := false }
def SessKeepsSaid : Prop := sessKeepsRow.holds Try.pinned (OpenSpec.ofChange sessKeepsSpec)

/-- ITS FALSE NEIGHBOUR: 'it returns false'. Refute it at one input. -/
def sessKeepsWrong : ChangeSpec := { name := "sessKeeps", fn := fun _ => fun
  | [d1, d2, d3] => { results := [.lit (.bool false)], args := [d1, d2, d3] }
  | _ => none }
def SessKeepsWrongFalsely : Prop := sessKeepsRow.holds Try.pinned (OpenSpec.ofChange sessKeepsWrong)

/-- 'batonlaw14.SessLasts': WHATEVER THE INPUT: true; the input reads as it did. -/
def sessLastsSpec : ChangeSpec := { name := "sessLasts", fn := fun _ => fun
  | [d1, d2, d3] => { results := [.lit (.bool true)], args := [d1, d2, d3] }
  | _ => none }
def sessLastsRow : OpenClaim := { program := "ytpecgkkhjkfmmaa", sum := "a0b37e3cf4bdddffd6e0add8be2c144608124762a54c7f38ad488321290cb9a7", func := "baton/batonlaw14.SessLasts", spec := "sessLasts", plainKeys := false, apart := false }
def SessLastsSaid : Prop := sessLastsRow.holds Try.pinned (OpenSpec.ofChange sessLastsSpec)

/-- ITS FALSE NEIGHBOUR: 'it returns false'. Refute it at one input. -/
def sessLastsWrong : ChangeSpec := { name := "sessLasts", fn := fun _ => fun
  | [d1, d2, d3] => { results := [.lit (.bool false)], args := [d1, d2, d3] }
  | _ => none }
def SessLastsWrongFalsely : Prop := sessLastsRow.holds Try.pinned (OpenSpec.ofChange sessLastsWrong)

/-- 'batonlaw14.SessSafe': WHATEVER THE INPUT: true; the input reads as it did. -/
def sessSafeSpec : ChangeSpec := { name := "sessSafe", fn := fun _ => fun
  | [d1, d2, d3] => { results := [.lit (.bool true)], args := [d1, d2, d3] }
  | _ => none }
def sessSafeRow : OpenClaim := { program := "ytpecgkkhjkfmmaa", sum := "a0b37e3cf4bdddffd6e0add8be2c144608124762a54c7f38ad488321290cb9a7", func := "baton/batonlaw14.SessSafe", spec := "sessSafe", plainKeys := false, apart := false }
def SessSafeSaid : Prop := sessSafeRow.holds Try.pinned (OpenSpec.ofChange sessSafeSpec)

/-- ITS FALSE NEIGHBOUR: 'it returns false'. Refute it at one input. -/
def sessSafeWrong : ChangeSpec := { name := "sessSafe", fn := fun _ => fun
  | [d1, d2, d3] => { results := [.lit (.bool false)], args := [d1, d2, d3] }
  | _ => none }
def SessSafeWrongFalsely : Prop := sessSafeRow.holds Try.pinned (OpenSpec.ofChange sessSafeWrong)

/-- 'batonlaw14.SessBegins': WHATEVER THE INPUT: true; the input reads as it did. -/
def sessBeginsSpec : ChangeSpec := { name := "sessBegins", fn := fun _ => fun
  | [d1, d2, d3] => { results := [.lit (.bool true)], args := [d1, d2, d3] }
  | _ => none }
def sessBeginsRow : OpenClaim := { program := "ytpecgkkhjkfmmaa", sum := "a0b37e3cf4bdddffd6e0add8be2c144608124762a54c7f38ad488321290cb9a7", func := "baton/batonlaw14.SessBegins", spec := "sessBegins", plainKeys := false, apart := false }
def SessBeginsSaid : Prop := sessBeginsRow.holds Try.pinned (OpenSpec.ofChange sessBeginsSpec)

/-- ITS FALSE NEIGHBOUR: 'it returns false'. Refute it at one input. -/
def sessBeginsWrong : ChangeSpec := { name := "sessBegins", fn := fun _ => fun
  | [d1, d2, d3] => { results := [.lit (.bool false)], args := [d1, d2, d3] }
  | _ => none }
def SessBeginsWrongFalsely : Prop := sessBeginsRow.holds Try.pinned (OpenSpec.ofChange sessBeginsWrong)

/- THE SECOND FORM. 'bulk': how many values and letters a reading holds, each counted each time it is reached (what is shared counts as often as it is met; a slice's spare places count too). A statement '..UptoSaid' is the law's where the arguments, and the package variables that the reading takes, are together of bulk at most 1048576: NARROWER than '..Said'. Prove '..Said' where nothing that the law and all that it calls make is longer than what came in: it says more and counts as full. Else prove '..UptoSaid'. A law counts once. -/
mutual
def uptoBulk {H : Type} : DataW H → Nat
  | .lit (.string bytes) => bytes.length + 1
  | .lit _ => 1
  | .nil => 1
  | .ptr d => uptoBulk d + 1
  | .slice elems spare => uptoBulkAll elems + uptoBulkAll spare + 1
  | .agg parts => uptoBulkAll parts + 1
  | .iface _ d => uptoBulk d + 1
  | .map entries => uptoBulkEntries entries + 1
  | .held _ => 1
def uptoBulkAll {H : Type} : List (DataW H) → Nat
  | [] => 0
  | d :: r => uptoBulk d + uptoBulkAll r
def uptoBulkEntries {H : Type} : List (Lit × DataW H) → Nat
  | [] => 0
  | x :: r => uptoBulkEntry x + uptoBulkEntries r
def uptoBulkEntry {H : Type} : Lit × DataW H → Nat
  | (.string bytes, d) => bytes.length + uptoBulk d + 1
  | (_, d) => uptoBulk d + 1
 end
def uptoSmall : (H : Type) → List (DataW H) → Bool := fun _ ds => decide (uptoBulkAll ds ≤ 1048576)
def OpenSpec.upto (s : _root_.Go.ChangeSpec) : _root_.Go.OpenSpec := { _root_.Go.OpenSpec.ofChange s with cond := some uptoSmall }

/-- 'batonlaw09.MemoKeeps', WHERE WHAT IT READS IS OF BULK AT MOST 1048576: true; the input reads as it did. -/
def memoKeepsUptoRow : OpenClaim := { program := "ytpecgkkhjkfmmaa", sum := "a0b37e3cf4bdddffd6e0add8be2c144608124762a54c7f38ad488321290cb9a7", func := "baton/batonlaw09.MemoKeeps", spec := "memoKeeps", unfollowed := true, recurses := true, plainKeys := false, apart := false, narrowed := true }
def MemoKeepsUptoSaid : Prop := memoKeepsUptoRow.holds Try.pinned (OpenSpec.upto memoKeepsSpec)

/-- 'batonlaw09.MemoMay', WHERE WHAT IT READS IS OF BULK AT MOST 1048576: true; the input reads as it did. -/
def memoMayUptoRow : OpenClaim := { program := "ytpecgkkhjkfmmaa", sum := "a0b37e3cf4bdddffd6e0add8be2c144608124762a54c7f38ad488321290cb9a7", func := "baton/batonlaw09.MemoMay", spec := "memoMay", unfollowed := true, recurses := true, plainKeys := false, apart := false, narrowed := true }
def MemoMayUptoSaid : Prop := memoMayUptoRow.holds Try.pinned (OpenSpec.upto memoMaySpec)

/-- 'batonlaw09.MemoOnce', WHERE WHAT IT READS IS OF BULK AT MOST 1048576: true; the input reads as it did. -/
def memoOnceUptoRow : OpenClaim := { program := "ytpecgkkhjkfmmaa", sum := "a0b37e3cf4bdddffd6e0add8be2c144608124762a54c7f38ad488321290cb9a7", func := "baton/batonlaw09.MemoOnce", spec := "memoOnce", unfollowed := true, recurses := true, plainKeys := false, apart := false, narrowed := true }
def MemoOnceUptoSaid : Prop := memoOnceUptoRow.holds Try.pinned (OpenSpec.upto memoOnceSpec)

/-- 'batonlaw09.MemoWindow', WHERE WHAT IT READS IS OF BULK AT MOST 1048576: true; the input reads as it did. -/
def memoWindowUptoRow : OpenClaim := { program := "ytpecgkkhjkfmmaa", sum := "a0b37e3cf4bdddffd6e0add8be2c144608124762a54c7f38ad488321290cb9a7", func := "baton/batonlaw09.MemoWindow", spec := "memoWindow", unfollowed := true, recurses := true, plainKeys := false, apart := false, narrowed := true }
def MemoWindowUptoSaid : Prop := memoWindowUptoRow.holds Try.pinned (OpenSpec.upto memoWindowSpec)

/-- 'batonlaw09.MemoFloors', WHERE WHAT IT READS IS OF BULK AT MOST 1048576: true; the input reads as it did. -/
def memoFloorsUptoRow : OpenClaim := { program := "ytpecgkkhjkfmmaa", sum := "a0b37e3cf4bdddffd6e0add8be2c144608124762a54c7f38ad488321290cb9a7", func := "baton/batonlaw09.MemoFloors", spec := "memoFloors", unfollowed := true, recurses := true, plainKeys := false, apart := false, narrowed := true }
def MemoFloorsUptoSaid : Prop := memoFloorsUptoRow.holds Try.pinned (OpenSpec.upto memoFloorsSpec)

/-- 'batonlaw14.SessTells', WHERE WHAT IT READS IS OF BULK AT MOST 1048576: true; the input reads as it did. -/
def sessTellsUptoRow : OpenClaim := { program := "ytpecgkkhjkfmmaa", sum := "a0b37e3cf4bdddffd6e0add8be2c144608124762a54c7f38ad488321290cb9a7", func := "baton/batonlaw14.SessTells", spec := "sessTells", plainKeys := false, apart := false, narrowed := true }
def SessTellsUptoSaid : Prop := sessTellsUptoRow.holds Try.pinned (OpenSpec.upto sessTellsSpec)

/-- 'batonlaw14.SessKeeps', WHERE WHAT IT READS IS OF BULK AT MOST 1048576: true; the input reads as it did. -/
def sessKeepsUptoRow : OpenClaim := { program := "ytpecgkkhjkfmmaa", sum := "a0b37e3cf4bdddffd6e0add8be2c144608124762a54c7f38ad488321290cb9a7", func := "baton/batonlaw14.SessKeeps", spec := "sessKeeps", plainKeys := false, apart := false, narrowed := true }
def SessKeepsUptoSaid : Prop := sessKeepsUptoRow.holds Try.pinned (OpenSpec.upto sessKeepsSpec)

/-- 'batonlaw14.SessLasts', WHERE WHAT IT READS IS OF BULK AT MOST 1048576: true; the input reads as it did. -/
def sessLastsUptoRow : OpenClaim := { program := "ytpecgkkhjkfmmaa", sum := "a0b37e3cf4bdddffd6e0add8be2c144608124762a54c7f38ad488321290cb9a7", func := "baton/batonlaw14.SessLasts", spec := "sessLasts", plainKeys := false, apart := false, narrowed := true }
def SessLastsUptoSaid : Prop := sessLastsUptoRow.holds Try.pinned (OpenSpec.upto sessLastsSpec)

/-- 'batonlaw14.SessSafe', WHERE WHAT IT READS IS OF BULK AT MOST 1048576: true; the input reads as it did. -/
def sessSafeUptoRow : OpenClaim := { program := "ytpecgkkhjkfmmaa", sum := "a0b37e3cf4bdddffd6e0add8be2c144608124762a54c7f38ad488321290cb9a7", func := "baton/batonlaw14.SessSafe", spec := "sessSafe", plainKeys := false, apart := false, narrowed := true }
def SessSafeUptoSaid : Prop := sessSafeUptoRow.holds Try.pinned (OpenSpec.upto sessSafeSpec)

/-- 'batonlaw14.SessBegins', WHERE WHAT IT READS IS OF BULK AT MOST 1048576: true; the input reads as it did. -/
def sessBeginsUptoRow : OpenClaim := { program := "ytpecgkkhjkfmmaa", sum := "a0b37e3cf4bdddffd6e0add8be2c144608124762a54c7f38ad488321290cb9a7", func := "baton/batonlaw14.SessBegins", spec := "sessBegins", plainKeys := false, apart := false, narrowed := true }
def SessBeginsUptoSaid : Prop := sessBeginsUptoRow.holds Try.pinned (OpenSpec.upto sessBeginsSpec)

end Rows
end Go.Proofs.Ytpecgkkhjkfmmaa
