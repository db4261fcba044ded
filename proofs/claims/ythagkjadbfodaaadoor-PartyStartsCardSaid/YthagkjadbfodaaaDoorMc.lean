/- A machine of a lock: how it starts, how it joins: the program's way, and the document's. -/
import Derived.Test.YthagkjadbfodaaaDoorGenApp
import Derived.Test.YthagkjadbfodaaaDoorKeyRef
import Derived.Test.YthagkjadbfodaaaDoorRowOwn
namespace Go.Proofs.YthagkjadbfodaaaDoor.P
open Go.RowKit Go.Sort
set_option maxHeartbeats 4000000
set_option linter.unusedVariables false
set_option linter.unusedSimpArgs false
set_option maxRecDepth 100000

structure Mc where
  kind : Int
  name : ByteArray
  n : Int
  val : ByteArray
  key : ByteArray
  lease : Int
  phase : Int
  tok : Int
  rev : Int
  err : Int
abbrev mcc (m : Mc) : Array Value := #[.int .i64 m.kind, .string m.name, .int .i64 m.n, .string m.val, .string m.key, .int .i64 m.lease, .int .i64 m.phase, .int .i64 m.tok, .int .i64 m.rev, .int .i64 m.err]
abbrev Mc.agg (m : Mc) : Value := .agg (mcc m)
structure Mc.ok (m : Mc) : Prop where
  kind : inI m.kind
  name : m.name.size ≤ maxLen
  n : inI m.n
  val : m.val.size ≤ maxLen
  key : m.key.size ≤ maxLen
  lease : inI m.lease
  phase : inI m.phase
  tok : inI m.tok
  rev : inI m.rev
  err : inI m.err
def zMc : Mc := ⟨0, ⟨#[]⟩, 0, ⟨#[]⟩, ⟨#[]⟩, 0, 0, 0, 0, 0⟩
abbrev zMcc : Array Value := #[.int .i64 0, .string ⟨#[]⟩, .int .i64 0, .string ⟨#[]⟩, .string ⟨#[]⟩, .int .i64 0, .int .i64 0, .int .i64 0, .int .i64 0, .int .i64 0]
def StartEnd (r : Mc × Bool) (w : World) (e : Ending) (w' : World) : Prop := e = .returned (.tuple #[r.1.agg, .bool r.2]) ∧ Below w.heap.size w w'
end Go.Proofs.YthagkjadbfodaaaDoor.P
