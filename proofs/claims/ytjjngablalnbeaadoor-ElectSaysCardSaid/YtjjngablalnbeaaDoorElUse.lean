/- What the laws of who leads share: a head, or a zero thing, as one shape. -/
import Derived.Test.YtjjngablalnbeaaDoorElReign
import Derived.Test.YtjjngablalnbeaaDoorElFollow
namespace Go.Proofs.YtjjngablalnbeaaDoor.P
open Go.RowKit Go.Sort
set_option maxHeartbeats 2000000
set_option linter.unusedVariables false
set_option linter.unusedSimpArgs false
set_option maxRecDepth 100000

theorem ite_last (p : Prop) [Decidable p] (w : World) : (if p then Result.ok (Value.bool true) w else Result.ok (Value.bool false) w) = Result.ok (Value.bool (decide p)) w := by by_cases h : p <;> simp [h]
theorem ite_more (p : Prop) [Decidable p] (q : Bool) (w : World) : (if p then Result.ok (Value.bool q) w else Result.ok (Value.bool false) w) = Result.ok (Value.bool (decide p && q)) w := by by_cases h : p <;> simp [h]
theorem eql_kv (a b : KV) (w : World) : (binOp .eql 26 a.agg b.agg).run Tryd.prog w = .ok (.bool (kvEq a b)) w := by
  simp [go_sem, Tryd.underlying26]
  rw [ite_last, ite_more, ite_more, ite_more, ite_more, ite_more]
  rfl
/-- The thing that is zero. -/
def zK : KV := ⟨⟨#[]⟩, ⟨#[]⟩, 0, 0, 0, 0⟩
theorem found_ {o : Option KV} {w : World} {e : Ending} {w' : World} (h : FoundEnd o w e w') : e = .returned (.tuple #[(o.getD zK).agg, .bool o.isSome]) ∧ Below w.heap.size w w' := by
  cases o with
  | none => exact h
  | some x => exact h
theorem reignV_ (o : Option KV) : reignV o = .tuple #[.int .i64 (o.getD zK).cre, .string (o.getD zK).val, .bool o.isSome] := by cases o <;> rfl
theorem head_one (A : Option Addr) (n c : Nat) (l : List KV) (w : World) (h : KVs w A n c l) (hn : n ≤ 100000) :
    Calls Tryd.prog 11 #[.slice A n c] w fun e w' => e = .returned (.tuple #[((headL l).getD zK).agg, .bool (headL l).isSome]) ∧ Below w.heap.size w w' :=
  (head_any A n c l w h hn).mono fun _ _ => found_
theorem headr_one (A : Option Addr) (n c : Nat) (l : List KV) (w : World) (h : KVs w A n c l) (hn : n ≤ 100000) :
    Calls Tryd.prog 12 #[.slice A n c] w fun e w' => e = .returned (.tuple #[((headL l).getD zK).agg, .bool (headL l).isSome]) ∧ Below w.heap.size w w' :=
  (headr_any A n c l w h hn).mono fun _ _ => found_
theorem heads (A : Option Addr) (n c : Nat) (l : List KV) (hn : n ≤ 100000) : ∃ (x : KV) (b : Bool),
    (∀ w, KVs w A n c l → Calls Tryd.prog 11 #[.slice A n c] w fun e w' => e = .returned (.tuple #[x.agg, .bool b]) ∧ Below w.heap.size w w') ∧
    (∀ w, KVs w A n c l → Calls Tryd.prog 12 #[.slice A n c] w fun e w' => e = .returned (.tuple #[x.agg, .bool b]) ∧ Below w.heap.size w w') :=
  ⟨_, _, fun w h => head_one A n c l w h hn, fun w h => headr_one A n c l w h hn⟩
theorem reigns (A : Option Addr) (n c : Nat) (l : List KV) (s : ByteArray) (hn : n ≤ 100000) (hs : s.size ≤ maxLen) : ∃ (y : KV) (b : Bool),
    (∀ w, KVs w A n c l → Letters w → Calls Tryd.prog 13 #[.slice A n c, .string s] w fun e w' => e = .returned (.tuple #[.int .i64 y.cre, .string y.val, .bool b]) ∧ Below w.heap.size w w') ∧
    (∀ w, KVs w A n c l → Calls Tryd.prog 14 #[.slice A n c, .string s] w fun e w' => e = .returned (.tuple #[.int .i64 y.cre, .string y.val, .bool b]) ∧ Below w.heap.size w w') :=
  ⟨_, _, fun w h hL => by rw [← reignV_]; exact reign_any A n c l s w h hn hs hL, fun w h => by rw [← reignV_]; exact reignr_any A n c l s w h hn hs⟩
end Go.Proofs.YtjjngablalnbeaaDoor.P
