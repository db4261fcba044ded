/- A machine of a lock: how it starts, how it joins: the program's way, and the document's. -/
import Derived.Test.YtcaapnjipjemiaaDoorTkFirst
import Derived.Test.YtcaapnjipjemiaaDoorKeyRef
import Derived.Test.YtcaapnjipjemiaaDoorRowOwn
namespace Go.Proofs.YtcaapnjipjemiaaDoor.P
open Go.RowKit Go.Sort
set_option maxHeartbeats 4000000
set_option linter.unusedVariables false
set_option linter.unusedSimpArgs false
set_option maxRecDepth 100000

structure Mc where
  kind : Int
  name : ByteArray
  n : Int
  val : ByteArray
  key : ByteArray
  lease : Int
  phase : Int
  tok : Int
  rev : Int
  err : Int
abbrev mcc (m : Mc) : Array Value := #[.int .i64 m.kind, .string m.name, .int .i64 m.n, .string m.val, .string m.key, .int .i64 m.lease, .int .i64 m.phase, .int .i64 m.tok, .int .i64 m.rev, .int .i64 m.err]
abbrev Mc.agg (m : Mc) : Value := .agg (mcc m)
structure Mc.ok (m : Mc) : Prop where
  kind : inI m.kind
  name : m.name.size ≤ maxLen
  n : inI m.n
  val : m.val.size ≤ maxLen
  key : m.key.size ≤ maxLen
  lease : inI m.lease
  phase : inI m.phase
  tok : inI m.tok
  rev : inI m.rev
  err : inI m.err
def zMc : Mc := ⟨0, ⟨#[]⟩, 0, ⟨#[]⟩, ⟨#[]⟩, 0, 0, 0, 0, 0⟩
abbrev zMcc : Array Value := #[.int .i64 0, .string ⟨#[]⟩, .int .i64 0, .string ⟨#[]⟩, .string ⟨#[]⟩, .int .i64 0, .int .i64 0, .int .i64 0, .int .i64 0, .int .i64 0]
/-- May there be a machine of these? -/
def mayK (kind : Int) (name : ByteArray) (n : Int) (v : ByteArray) : Bool :=
  nameL name.data.toList && (if kind = 4 then decide (1 ≤ n ∧ n ≤ 100) else if kind = 5 then decide (v.size ≤ 20) else decide (1 ≤ kind ∧ kind ≤ 3))
def startL (kind : Int) (name : ByteArray) (n : Int) (v : ByteArray) : Mc × Bool :=
  if mayK kind name n v = true then (⟨kind, name, if kind = 4 then n else 0, if kind = 5 then v else signB kind, ⟨#[]⟩, 0, 1, 0, 0, 0⟩, true) else (zMc, false)
def StartEnd (r : Mc × Bool) (w : World) (e : Ending) (w' : World) : Prop := e = .returned (.tuple #[r.1.agg, .bool r.2]) ∧ Below w.heap.size w w'
end Go.Proofs.YtcaapnjipjemiaaDoor.P
