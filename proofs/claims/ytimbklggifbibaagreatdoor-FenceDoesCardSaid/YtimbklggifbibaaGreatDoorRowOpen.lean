/- A list of things of any struct, as an argument: opened to what it reads as. -/
import Derived.Test.YtimbklggifbibaaGreatDoorWireRow
import Derived.ProofKit
import Derived.OpenShut
import Derived.ShutString
import Derived.Carry
import Derived.Lib.SmallJoins
import Derived.Deep.Slices
namespace Go.Proofs.YtimbklggifbibaaGreatDoor.P
open Go.ChangeShapes Go.WideShapes Go.ChangeAt Go.RowKit Go.Deep
set_option linter.unusedVariables false
set_option maxRecDepth 100000
theorem inI_of {a : Int} (h : (Lit.int .i64 a).wf = true) : inI a := by
  simp only [Lit.wf, Bool.and_eq_true, decide_eq_true_eq] at h
  exact h
section
variable {H : Type} {enc : TypeId × Value → H} {P : Program} {w : World} {base : Nat} {spare : Nat → Bool} {held : Bool} {α : Type} {cells : α → List Value} {q : Nat}
theorem rows_of_trod [Inhabited α] (q0 : 0 < q) (hq : ∀ x, (cells x).length = q) (ok : α → Prop) {ts te : TypeId} (ht : P.underlying ts = some (.slice te)) (hc : P.cellsOf te = q)
    (rd : ∀ (fuel : Nat) (cs : List Value) (x : DataW H × List MemPlace), DataW.trod enc P w base spare held fuel te cs = some x → ∃ y, cs = cells y ∧ ok y)
    {fuel : Nat} {cs : List Value} {x : DataW H × List MemPlace} (h : DataW.trod enc P w base spare held fuel ts cs = some x) : ∃ A n c l, cs = [.slice A n c] ∧ RowsOf cells q w A n c l ∧ ∀ y ∈ l, ok y := by
  rcases open_slice ht h with ⟨hcs, _⟩ | ⟨a, n, c, m, n', D, Pl, hcs, hb, hl, hm, hmm, _, hi⟩
  · exact ⟨none, 0, 0, [], hcs, RowsOf.bare _, fun y hy => by simp at hy⟩
  · have hle : n ≤ m := by rw [hmm]; split <;> omega
    rw [hc] at hi
    obtain ⟨f, hff⟩ := choose_lt (α := α) (n := n) (p := fun i y => Lies cells w (a.add (i * q)) y ∧ ok y) (fun i hin => by
      obtain ⟨cs', hc', ht'⟩ := hi i (by omega)
      obtain ⟨y, rfl, oky⟩ := rd _ _ _ ht'
      obtain ⟨_, _, hat⟩ := World.cells?_some hc'
      refine ⟨y, fun j v hv => ?_, oky⟩
      have hj : j < (cells y).length := (List.getElem?_eq_some_iff.1 hv).1
      have h1 := hat j (by rw [hq] at hj; exact hj)
      rw [hv] at h1
      have e : subA (a.add (i * q)) j = (a.add (i * q)).add j := by
        unfold subA Addr.add
        by_cases h0 : j = 0 <;> simp [h0]
      rw [e]; exact h1)
    refine ⟨some a, n, c, (List.range n).map f, hcs, ⟨by simp, hl, hm, fun hn => ?_, fun h => by cases h⟩, fun x hx => ?_⟩
    · refine ⟨a, rfl, ?_, fun i x hx => ?_⟩
      · have hne : 0 < (cells (f 0)).length := by rw [hq]; exact q0
        have := World.block_lt_of_cell? w _ ((hff 0 hn).1 0 _ (List.getElem?_eq_getElem hne))
        rwa [subA_block, block_add] at this
      · have hin : i < n := by
          have := (List.getElem?_eq_some_iff.1 hx).1
          simpa using this
        have : x = f i := by
          rw [List.getElem?_map, List.getElem?_range hin] at hx
          simpa using hx.symm
        rw [this]
        exact (hff i hin).1
    · obtain ⟨i, hi', rfl⟩ := List.mem_map.1 hx
      exact (hff i (List.mem_range.1 hi')).2
end
end Go.Proofs.YtimbklggifbibaaGreatDoor.P
