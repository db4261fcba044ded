/- Lists of things, and of events, read out of an argument. -/
import Derived.Test.YtkikfaeigoeogaaRowOpen
namespace Go.Proofs.Ytkikfaeigoeogaa.P
open Go.ChangeShapes Go.WideShapes Go.ChangeAt Go.RowKit Go.Deep
set_option linter.unusedVariables false
set_option maxRecDepth 100000
variable {H : Type} {enc : TypeId × Value → H} {w : World} {base : Nat} {spare : Nat → Bool} {held : Bool}
theorem kv_of_rows {w : World} {A : Option Addr} {n c : Nat} {l : List KV} (h : RowsOf KV.cells 6 w A n c l) (ok : ∀ x ∈ l, x.ok) : KVs w A n c l :=
  ⟨h.len, h.le, h.max, ok, fun hn => by
    obtain ⟨a, e, hlt, hx⟩ := h.rd hn
    exact ⟨a, e, hlt, fun i x hi => ⟨hx i x hi 0 _ rfl, hx i x hi 1 _ rfl, hx i x hi 2 _ rfl, hx i x hi 3 _ rfl, hx i x hi 4 _ rfl, hx i x hi 5 _ rfl⟩⟩, h.nil⟩
theorem ev_of_rows {w : World} {A : Option Addr} {n c : Nat} {l : List Ev} (h : RowsOf Ev.cells 8 w A n c l) (ok : ∀ x ∈ l, x.ok) : Evs w A n c l :=
  ⟨h.len, h.le, h.max, ok, fun hn => by
    obtain ⟨a, e, hlt, hx⟩ := h.rd hn
    exact ⟨a, e, hlt, fun i x hi => ⟨hx i x hi 0 _ rfl, hx i x hi 1 _ rfl, hx i x hi 2 _ rfl, hx i x hi 3 _ rfl, hx i x hi 4 _ rfl, hx i x hi 5 _ rfl, hx i x hi 6 _ rfl, hx i x hi 7 _ rfl⟩⟩, h.nil⟩
theorem kvs_of_trod {fuel : Nat} {cs : List Value} {x : DataW H × List MemPlace} (h : DataW.trod enc Try.prog w base spare held fuel 22 cs = some x) : ∃ A n c l, cs = [.slice A n c] ∧ KVs w A n c l := by
  obtain ⟨A1, n1, d1, l1, h1, R1, ok1⟩ := rows_of_trod (cells := KV.cells) (q := 6) (by omega) (fun _ => rfl) KV.ok Try.underlying22 (by kernel_rfl) (fun _ _ _ h => read_kv h) h
  exact ⟨A1, n1, d1, l1, h1, kv_of_rows R1 ok1⟩
theorem evs_of_trod {fuel : Nat} {cs : List Value} {x : DataW H × List MemPlace} (h : DataW.trod enc Try.prog w base spare held fuel 23 cs = some x) : ∃ A n c l, cs = [.slice A n c] ∧ Evs w A n c l := by
  obtain ⟨A1, n1, d1, l1, h1, R1, ok1⟩ := rows_of_trod (cells := Ev.cells) (q := 8) (by omega) (fun _ => rfl) Ev.ok Try.underlying23 (by kernel_rfl) (fun _ _ _ h => read_ev h) h
  exact ⟨A1, n1, d1, l1, h1, ev_of_rows R1 ok1⟩
end Go.Proofs.Ytkikfaeigoeogaa.P
