/- Calls that only read lists of things: few, the same. -/
import Derived.Test.YtnpknpgmlkaplaaDoorKv
import Derived.BigQuiet
import Derived.Deep.QuietTactic
import Derived.WalkLawsBesides
import Derived.WalkSpells
import Derived.Laws.StructEq
import Derived.WalkSmall
namespace Go.Proofs.YtnpknpgmlkaplaaDoor.P
open Go.RowKit
set_option maxHeartbeats 400000
set_option linter.unusedVariables false
set_option maxRecDepth 100000

theorem retB {a b : Bool} (h : a = b) : Ending.returned (.bool a) = .returned (.bool b) := by rw [h]
def shortKV (x : KV) : Bool := decide (x.key.size ≤ 60) && decide (x.val.size ≤ 60)
def fewB (most : Nat) (l : List KV) : Bool := decide (l.length ≤ most) && l.all shortKV
theorem all_take_s {α : Type} (l : List α) (p : α → Bool) (k : Nat) (x : α) (h : l[k]? = some x) : (l.take (k + 1)).all p = ((l.take k).all p && p x) := by
  rw [take_succ l k x h, List.all_append]; simp
theorem all_stop_s {α : Type} (l : List α) (p : α → Bool) (k : Nat) (x : α) (h : l[k]? = some x) (hp : p x = false) : l.all p = false := by
  rw [List.all_eq_false]
  exact ⟨x, List.mem_of_getElem? h, by simp [hp]⟩

/-- The first k of l are all good. Plain, so that the walk leaves it alone. -/
def AllTo {α : Type} (p : α → Bool) (l : List α) (k : Nat) : Prop := (l.take k).all p = true
theorem AllTo.out {α : Type} {p : α → Bool} {l : List α} {k : Nat} (h : AllTo p l k) : (l.take k).all p = true := h
/-- Two things are unlike, or alike: of one and the same. -/
theorem neq_same (w : World) (a b : ByteArray) (i j k m : Int) :
    (binOp .neq 47 (.agg #[.string a, .string b, .int .i64 i, .int .i64 j, .int .i64 k, .int .i64 m]) (.agg #[.string a, .string b, .int .i64 i, .int .i64 j, .int .i64 k, .int .i64 m])).run Tryd.prog w = .ok (.bool false) w := by
  simp [go_sem, Tryd.underlying47]
theorem eql_same (w : World) (a b : ByteArray) (i j k m : Int) :
    (binOp .eql 47 (.agg #[.string a, .string b, .int .i64 i, .int .i64 j, .int .i64 k, .int .i64 m]) (.agg #[.string a, .string b, .int .i64 i, .int .i64 j, .int .i64 k, .int .i64 m])).run Tryd.prog w = .ok (.bool true) w := by
  simp [go_sem, Tryd.underlying47]

end Go.Proofs.YtnpknpgmlkaplaaDoor.P
