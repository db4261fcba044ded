/-
  No cell of these rows narrows 'for every input' (looked for: loops, veiled, ifaces, maps, wideKeys, modest, calm, conditions, laid).
  DERIVED. THE GIVEN ROWS OF THIS SEAT. 7 by the template 'for every input the law returns true; each argument reads behind the call as it read before'; 0 by the template 'total and deterministic' (their statements: YtmklafbmelkpmaaTotals.lean).
  GIVEN WITH THE SEED: the statements are not yours to turn. If you find one false, say at which input.
  Laid BY PROGRAM, IN A SANDBOX (cutbox-rows.mjs): the forced cells as the released guide's own fill.sh prints them over the translation 1ef48580cf202b84… (all of the seat's roots in one cut). By AI agents, Wed Nov 11 2026. No macro, syntax, notation, axiom, sorry.
-/
import Derived.Test.YtmklafbmelkpmaaChecked
import GoSem.Claim
import GoSem.ClaimJoined
import GoSem.ClaimMapViews
import Derived.JoinedTies
import Derived.KernelRfl
namespace Go.Proofs.Ytmklafbmelkpmaa
/- THE CELL 'sum', in the pinned program and in every row, IS THE sha256 OF THE DUMP (.gsa) THAT YtmklafbmelkpmaaProg.lean LOADS. Nothing in Lean hashes anything: it is a label: what it is worth is what the hold of that sum in a sandbox is worth. -/
noncomputable def Try.pinned : Pinned := { name := "ytmklafbmelkpmaa", sum := "1ef48580cf202b84896e0ecd15fc7e03ac17b442333e1acd4e35d5db4f579d8a", checked := Try.checked }
namespace Rows
def none {H : Type} : Left H := { results := [], args := [] }

/-- 'batonlaw13.CallTells': WHATEVER THE INPUT: true; the input reads as it did. -/
def callTellsSpec : ChangeSpec := { name := "callTells", fn := fun _ => fun
  | [d1, d2, d3] => { results := [.lit (.bool true)], args := [d1, d2, d3] }
  | _ => none }
def callTellsRow : OpenClaim := { program := "ytmklafbmelkpmaa", sum := "1ef48580cf202b84896e0ecd15fc7e03ac17b442333e1acd4e35d5db4f579d8a", func := "baton/batonlaw13.CallTells", spec := "callTells", unfollowed := true, recurses := true, apart := false }
def CallTellsSaid : Prop := callTellsRow.holds Try.pinned (OpenSpec.ofChange callTellsSpec)

/-- ITS FALSE NEIGHBOUR: 'it returns false'. Refute it at one input. -/
def callTellsWrong : ChangeSpec := { name := "callTells", fn := fun _ => fun
  | [d1, d2, d3] => { results := [.lit (.bool false)], args := [d1, d2, d3] }
  | _ => none }
def CallTellsWrongFalsely : Prop := callTellsRow.holds Try.pinned (OpenSpec.ofChange callTellsWrong)

/-- 'batonlaw13.CallSends': WHATEVER THE INPUT: true; the input reads as it did. -/
def callSendsSpec : ChangeSpec := { name := "callSends", fn := fun _ => fun
  | [d1, d2, d3] => { results := [.lit (.bool true)], args := [d1, d2, d3] }
  | _ => none }
def callSendsRow : OpenClaim := { program := "ytmklafbmelkpmaa", sum := "1ef48580cf202b84896e0ecd15fc7e03ac17b442333e1acd4e35d5db4f579d8a", func := "baton/batonlaw13.CallSends", spec := "callSends", unfollowed := true, recurses := true, apart := false }
def CallSendsSaid : Prop := callSendsRow.holds Try.pinned (OpenSpec.ofChange callSendsSpec)

/-- ITS FALSE NEIGHBOUR: 'it returns false'. Refute it at one input. -/
def callSendsWrong : ChangeSpec := { name := "callSends", fn := fun _ => fun
  | [d1, d2, d3] => { results := [.lit (.bool false)], args := [d1, d2, d3] }
  | _ => none }
def CallSendsWrongFalsely : Prop := callSendsRow.holds Try.pinned (OpenSpec.ofChange callSendsWrong)

/-- 'batonlaw13.CallRetries': WHATEVER THE INPUT: true; the input reads as it did. -/
def callRetriesSpec : ChangeSpec := { name := "callRetries", fn := fun _ => fun
  | [d1, d2, d3] => { results := [.lit (.bool true)], args := [d1, d2, d3] }
  | _ => none }
def callRetriesRow : OpenClaim := { program := "ytmklafbmelkpmaa", sum := "1ef48580cf202b84896e0ecd15fc7e03ac17b442333e1acd4e35d5db4f579d8a", func := "baton/batonlaw13.CallRetries", spec := "callRetries", unfollowed := true, recurses := true, apart := false }
def CallRetriesSaid : Prop := callRetriesRow.holds Try.pinned (OpenSpec.ofChange callRetriesSpec)

/-- ITS FALSE NEIGHBOUR: 'it returns false'. Refute it at one input. -/
def callRetriesWrong : ChangeSpec := { name := "callRetries", fn := fun _ => fun
  | [d1, d2, d3] => { results := [.lit (.bool false)], args := [d1, d2, d3] }
  | _ => none }
def CallRetriesWrongFalsely : Prop := callRetriesRow.holds Try.pinned (OpenSpec.ofChange callRetriesWrong)

/-- 'batonlaw13.CallTold': WHATEVER THE INPUT: true; the input reads as it did. -/
def callToldSpec : ChangeSpec := { name := "callTold", fn := fun _ => fun
  | [d1, d2, d3] => { results := [.lit (.bool true)], args := [d1, d2, d3] }
  | _ => none }
def callToldRow : OpenClaim := { program := "ytmklafbmelkpmaa", sum := "1ef48580cf202b84896e0ecd15fc7e03ac17b442333e1acd4e35d5db4f579d8a", func := "baton/batonlaw13.CallTold", spec := "callTold", unfollowed := true, recurses := true, apart := false }
def CallToldSaid : Prop := callToldRow.holds Try.pinned (OpenSpec.ofChange callToldSpec)

/-- ITS FALSE NEIGHBOUR: 'it returns false'. Refute it at one input. -/
def callToldWrong : ChangeSpec := { name := "callTold", fn := fun _ => fun
  | [d1, d2, d3] => { results := [.lit (.bool false)], args := [d1, d2, d3] }
  | _ => none }
def CallToldWrongFalsely : Prop := callToldRow.holds Try.pinned (OpenSpec.ofChange callToldWrong)

/-- 'batonlaw13.CallPauses': WHATEVER THE INPUT: true; the input reads as it did. -/
def callPausesSpec : ChangeSpec := { name := "callPauses", fn := fun _ => fun
  | [d] => { results := [.lit (.bool true)], args := [d] }
  | _ => none }
def callPausesRow : OpenClaim := { program := "ytmklafbmelkpmaa", sum := "1ef48580cf202b84896e0ecd15fc7e03ac17b442333e1acd4e35d5db4f579d8a", func := "baton/batonlaw13.CallPauses", spec := "callPauses", unfollowed := true, recurses := true, apart := false }
def CallPausesSaid : Prop := callPausesRow.holds Try.pinned (OpenSpec.ofChange callPausesSpec)

/-- ITS FALSE NEIGHBOUR: 'it returns false'. Refute it at one input. -/
def callPausesWrong : ChangeSpec := { name := "callPauses", fn := fun _ => fun
  | [d] => { results := [.lit (.bool false)], args := [d] }
  | _ => none }
def CallPausesWrongFalsely : Prop := callPausesRow.holds Try.pinned (OpenSpec.ofChange callPausesWrong)

/-- 'batonlaw03.WireAsks': WHATEVER THE INPUT: true; the input reads as it did. -/
def wireAsksSpec : ChangeSpec := { name := "wireAsks", fn := fun _ => fun
  | [d1, d2] => { results := [.lit (.bool true)], args := [d1, d2] }
  | _ => none }
def wireAsksRow : OpenClaim := { program := "ytmklafbmelkpmaa", sum := "1ef48580cf202b84896e0ecd15fc7e03ac17b442333e1acd4e35d5db4f579d8a", func := "baton/batonlaw03.WireAsks", spec := "wireAsks", unfollowed := true, recurses := true, apart := false }
def WireAsksSaid : Prop := wireAsksRow.holds Try.pinned (OpenSpec.ofChange wireAsksSpec)

/-- ITS FALSE NEIGHBOUR: 'it returns false'. Refute it at one input. -/
def wireAsksWrong : ChangeSpec := { name := "wireAsks", fn := fun _ => fun
  | [d1, d2] => { results := [.lit (.bool false)], args := [d1, d2] }
  | _ => none }
def WireAsksWrongFalsely : Prop := wireAsksRow.holds Try.pinned (OpenSpec.ofChange wireAsksWrong)

/-- 'batonlaw03.WireTells': WHATEVER THE INPUT: true; the input reads as it did. -/
def wireTellsSpec : ChangeSpec := { name := "wireTells", fn := fun _ => fun
  | [d1, d2] => { results := [.lit (.bool true)], args := [d1, d2] }
  | _ => none }
def wireTellsRow : OpenClaim := { program := "ytmklafbmelkpmaa", sum := "1ef48580cf202b84896e0ecd15fc7e03ac17b442333e1acd4e35d5db4f579d8a", func := "baton/batonlaw03.WireTells", spec := "wireTells", unfollowed := true, recurses := true, apart := false }
def WireTellsSaid : Prop := wireTellsRow.holds Try.pinned (OpenSpec.ofChange wireTellsSpec)

/-- ITS FALSE NEIGHBOUR: 'it returns false'. Refute it at one input. -/
def wireTellsWrong : ChangeSpec := { name := "wireTells", fn := fun _ => fun
  | [d1, d2] => { results := [.lit (.bool false)], args := [d1, d2] }
  | _ => none }
def WireTellsWrongFalsely : Prop := wireTellsRow.holds Try.pinned (OpenSpec.ofChange wireTellsWrong)

/- THE SECOND FORM. 'bulk': how many values and letters a reading holds, each counted each time it is reached (what is shared counts as often as it is met; a slice's spare places count too). A statement '..UptoSaid' is the law's where the arguments, and the package variables that the reading takes, are together of bulk at most 1048576: NARROWER than '..Said'. Prove '..Said' where nothing that the law and all that it calls make is longer than what came in: it says more and counts as full. Else prove '..UptoSaid'. A law counts once. -/
mutual
def uptoBulk {H : Type} : DataW H → Nat
  | .lit (.string bytes) => bytes.length + 1
  | .lit _ => 1
  | .nil => 1
  | .ptr d => uptoBulk d + 1
  | .slice elems spare => uptoBulkAll elems + uptoBulkAll spare + 1
  | .agg parts => uptoBulkAll parts + 1
  | .iface _ d => uptoBulk d + 1
  | .map entries => uptoBulkEntries entries + 1
  | .held _ => 1
def uptoBulkAll {H : Type} : List (DataW H) → Nat
  | [] => 0
  | d :: r => uptoBulk d + uptoBulkAll r
def uptoBulkEntries {H : Type} : List (Lit × DataW H) → Nat
  | [] => 0
  | x :: r => uptoBulkEntry x + uptoBulkEntries r
def uptoBulkEntry {H : Type} : Lit × DataW H → Nat
  | (.string bytes, d) => bytes.length + uptoBulk d + 1
  | (_, d) => uptoBulk d + 1
 end
def uptoSmall : (H : Type) → List (DataW H) → Bool := fun _ ds => decide (uptoBulkAll ds ≤ 1048576)
def OpenSpec.upto (s : _root_.Go.ChangeSpec) : _root_.Go.OpenSpec := { _root_.Go.OpenSpec.ofChange s with cond := some uptoSmall }

/-- 'batonlaw13.CallTells', WHERE WHAT IT READS IS OF BULK AT MOST 1048576: true; the input reads as it did. -/
def callTellsUptoRow : OpenClaim := { program := "ytmklafbmelkpmaa", sum := "1ef48580cf202b84896e0ecd15fc7e03ac17b442333e1acd4e35d5db4f579d8a", func := "baton/batonlaw13.CallTells", spec := "callTells", unfollowed := true, recurses := true, apart := false, narrowed := true }
def CallTellsUptoSaid : Prop := callTellsUptoRow.holds Try.pinned (OpenSpec.upto callTellsSpec)

/-- 'batonlaw13.CallSends', WHERE WHAT IT READS IS OF BULK AT MOST 1048576: true; the input reads as it did. -/
def callSendsUptoRow : OpenClaim := { program := "ytmklafbmelkpmaa", sum := "1ef48580cf202b84896e0ecd15fc7e03ac17b442333e1acd4e35d5db4f579d8a", func := "baton/batonlaw13.CallSends", spec := "callSends", unfollowed := true, recurses := true, apart := false, narrowed := true }
def CallSendsUptoSaid : Prop := callSendsUptoRow.holds Try.pinned (OpenSpec.upto callSendsSpec)

/-- 'batonlaw13.CallRetries', WHERE WHAT IT READS IS OF BULK AT MOST 1048576: true; the input reads as it did. -/
def callRetriesUptoRow : OpenClaim := { program := "ytmklafbmelkpmaa", sum := "1ef48580cf202b84896e0ecd15fc7e03ac17b442333e1acd4e35d5db4f579d8a", func := "baton/batonlaw13.CallRetries", spec := "callRetries", unfollowed := true, recurses := true, apart := false, narrowed := true }
def CallRetriesUptoSaid : Prop := callRetriesUptoRow.holds Try.pinned (OpenSpec.upto callRetriesSpec)

/-- 'batonlaw13.CallTold', WHERE WHAT IT READS IS OF BULK AT MOST 1048576: true; the input reads as it did. -/
def callToldUptoRow : OpenClaim := { program := "ytmklafbmelkpmaa", sum := "1ef48580cf202b84896e0ecd15fc7e03ac17b442333e1acd4e35d5db4f579d8a", func := "baton/batonlaw13.CallTold", spec := "callTold", unfollowed := true, recurses := true, apart := false, narrowed := true }
def CallToldUptoSaid : Prop := callToldUptoRow.holds Try.pinned (OpenSpec.upto callToldSpec)

/-- 'batonlaw13.CallPauses', WHERE WHAT IT READS IS OF BULK AT MOST 1048576: true; the input reads as it did. -/
def callPausesUptoRow : OpenClaim := { program := "ytmklafbmelkpmaa", sum := "1ef48580cf202b84896e0ecd15fc7e03ac17b442333e1acd4e35d5db4f579d8a", func := "baton/batonlaw13.CallPauses", spec := "callPauses", unfollowed := true, recurses := true, apart := false, narrowed := true }
def CallPausesUptoSaid : Prop := callPausesUptoRow.holds Try.pinned (OpenSpec.upto callPausesSpec)

/-- 'batonlaw03.WireAsks', WHERE WHAT IT READS IS OF BULK AT MOST 1048576: true; the input reads as it did. -/
def wireAsksUptoRow : OpenClaim := { program := "ytmklafbmelkpmaa", sum := "1ef48580cf202b84896e0ecd15fc7e03ac17b442333e1acd4e35d5db4f579d8a", func := "baton/batonlaw03.WireAsks", spec := "wireAsks", unfollowed := true, recurses := true, apart := false, narrowed := true }
def WireAsksUptoSaid : Prop := wireAsksUptoRow.holds Try.pinned (OpenSpec.upto wireAsksSpec)

/-- 'batonlaw03.WireTells', WHERE WHAT IT READS IS OF BULK AT MOST 1048576: true; the input reads as it did. -/
def wireTellsUptoRow : OpenClaim := { program := "ytmklafbmelkpmaa", sum := "1ef48580cf202b84896e0ecd15fc7e03ac17b442333e1acd4e35d5db4f579d8a", func := "baton/batonlaw03.WireTells", spec := "wireTells", unfollowed := true, recurses := true, apart := false, narrowed := true }
def WireTellsUptoSaid : Prop := wireTellsUptoRow.holds Try.pinned (OpenSpec.upto wireTellsSpec)

end Rows
end Go.Proofs.Ytmklafbmelkpmaa
