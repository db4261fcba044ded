/- What all seats without wire share: blocks of the call's own, lists of things as arguments. -/
import Derived.Test.YtkikfaeigoeogaaKvRead
import Derived.Test.YtkikfaeigoeogaaGenApp
import Derived.ProofKit
import Derived.OpenShut
import Derived.ShutString
import Derived.Carry
import Derived.Lib.SmallJoins
import Derived.Deep.Slices
import Derived.Lib.BufferWrite
namespace Go.Proofs.Ytkikfaeigoeogaa.P
open Go.ChangeShapes Go.WideShapes Go.ChangeAt Go.RowKit Go.Deep
set_option linter.unusedVariables false
set_option maxRecDepth 100000
theorem inI_of {a : Int} (h : (Lit.int .i64 a).wf = true) : inI a := by
  simp only [Lit.wf, Bool.and_eq_true, decide_eq_true_eq] at h
  exact h
section
variable {H : Type} {enc : TypeId × Value → H} {P : Program} {w : World} {base : Nat} {spare : Nat → Bool} {held : Bool} {α : Type} {cells : α → List Value} {q : Nat}
theorem rows_of_trod [Inhabited α] (q0 : 0 < q) (hq : ∀ x, (cells x).length = q) (ok : α → Prop) {ts te : TypeId} (ht : P.underlying ts = some (.slice te)) (hc : P.cellsOf te = q)
    (rd : ∀ (fuel : Nat) (cs : List Value) (x : DataW H × List MemPlace), DataW.trod enc P w base spare held fuel te cs = some x → ∃ y, cs = cells y ∧ ok y)
    {fuel : Nat} {cs : List Value} {x : DataW H × List MemPlace} (h : DataW.trod enc P w base spare held fuel ts cs = some x) : ∃ A n c l, cs = [.slice A n c] ∧ RowsOf cells q w A n c l ∧ ∀ y ∈ l, ok y := by
  rcases open_slice ht h with ⟨hcs, _⟩ | ⟨a, n, c, m, n', D, Pl, hcs, hb, hl, hm, hmm, _, hi⟩
  · exact ⟨none, 0, 0, [], hcs, RowsOf.bare _, fun y hy => by simp at hy⟩
  · have hle : n ≤ m := by rw [hmm]; split <;> omega
    rw [hc] at hi
    obtain ⟨f, hff⟩ := choose_lt (α := α) (n := n) (p := fun i y => Lies cells w (a.add (i * q)) y ∧ ok y) (fun i hin => by
      obtain ⟨cs', hc', ht'⟩ := hi i (by omega)
      obtain ⟨y, rfl, oky⟩ := rd _ _ _ ht'
      obtain ⟨_, _, hat⟩ := World.cells?_some hc'
      refine ⟨y, fun j v hv => ?_, oky⟩
      have hj : j < (cells y).length := (List.getElem?_eq_some_iff.1 hv).1
      have h1 := hat j (by rw [hq] at hj; exact hj)
      rw [hv] at h1
      have e : subA (a.add (i * q)) j = (a.add (i * q)).add j := by
        unfold subA Addr.add
        by_cases h0 : j = 0 <;> simp [h0]
      rw [e]; exact h1)
    refine ⟨some a, n, c, (List.range n).map f, hcs, ⟨by simp, hl, hm, fun hn => ?_, fun h => by cases h⟩, fun x hx => ?_⟩
    · refine ⟨a, rfl, ?_, fun i x hx => ?_⟩
      · have hne : 0 < (cells (f 0)).length := by rw [hq]; exact q0
        have := World.block_lt_of_cell? w _ ((hff 0 hn).1 0 _ (List.getElem?_eq_getElem hne))
        rwa [subA_block, block_add] at this
      · have hin : i < n := by
          have := (List.getElem?_eq_some_iff.1 hx).1
          simpa using this
        have : x = f i := by
          rw [List.getElem?_map, List.getElem?_range hin] at hx
          simpa using hx.symm
        rw [this]
        exact (hff i hin).1
    · obtain ⟨i, hi', rfl⟩ := List.mem_map.1 hx
      exact (hff i (List.mem_range.1 hi')).2
end
/-- A block of the call's own, with what lies in it. -/
structure Own (w : World) (g : Nat) (t : TypeId) (cs : Array Value) : Prop where
  ex : w.heap[g]? = some (.cells cs t (0, 0))
theorem own_new (w : World) (cs : Array Value) (t : TypeId) : Own (w.alloc (.cells cs t)) w.heap.size t cs := ⟨by show (w.heap.push _)[_]? = _; rw [Array.getElem?_push, if_pos rfl]⟩
theorem own_new2 (w : World) (o : Obj) (cs : Array Value) (t : TypeId) : Own ((w.alloc o).alloc (.cells cs t)) (w.heap.size + 1) t cs := by
  have h := own_new (w.alloc o) cs t
  rwa [show (w.alloc o).heap.size = w.heap.size + 1 by simp] at h
theorem own_new3 (w : World) (o1 o2 : Obj) (cs : Array Value) (t : TypeId) : Own (((w.alloc o1).alloc o2).alloc (.cells cs t)) (w.heap.size + 1 + 1) t cs := by
  have h := own_new ((w.alloc o1).alloc o2) cs t
  have e : ((w.alloc o1).alloc o2).heap.size = w.heap.size + 1 + 1 := by simp
  rw [e] at h
  exact h
theorem Own.lt {w : World} {g : Nat} {t : TypeId} {cs : Array Value} (h : Own w g t cs) : g < w.heap.size := by
  rcases Nat.lt_or_ge g w.heap.size with hlt | hge
  · exact hlt
  · have := h.ex; rw [Array.getElem?_eq_none hge] at this; cases this
theorem Own.below {w w' : World} {g : Nat} {t : TypeId} {cs : Array Value} (h : Own w g t cs) (hb : Below w.heap.size w w') : Own w' g t cs := ⟨(hb.block _ h.lt).trans h.ex⟩
theorem Own.low {w w' : World} {g base : Nat} {t : TypeId} {cs : Array Value} (h : Own w g t cs) (hb : Below base w w') (hg : g < base) : Own w' g t cs := ⟨(hb.block _ hg).trans h.ex⟩
theorem Own.alloc {w : World} {g : Nat} {t : TypeId} {cs : Array Value} (h : Own w g t cs) (o : Obj) : Own (w.alloc o) g t cs := h.below (new1 w o)
theorem Own.cell {w : World} {g : Nat} {t : TypeId} {cs : Array Value} (h : Own w g t cs) (i : Nat) (v : Value) (hv : cs[i]? = some v) : w.cell? ⟨g, i, none⟩ = some v := by
  simp [World.cell?, h.ex, hv]
theorem Own.frozen {w : World} {g : Nat} {t : TypeId} {cs : Array Value} (h : Own w g t cs) (i : Nat) : w.frozen? ⟨g, i, none⟩ = false := by simp [World.frozen?, h.ex]
theorem Own.kept {w w' : World} {g : Nat} {t : TypeId} {cs : Array Value} {row : Option Nat} (h : Own w g t cs) (hg : w.grownBy w' row) (hne : some g ≠ row) : Own w' g t cs := ⟨(hg.block g h.lt hne).trans h.ex⟩
theorem Own.set {w : World} {g : Nat} {t : TypeId} {cs : Array Value} (h : Own w g t cs) (i : Nat) (v : Value) : Own (w.setCell ⟨g, i, none⟩ v) g t (cs.setIfInBounds i v) := ⟨by
  have := h.ex; simp [World.setCell, Array.getElem?_modify, this]⟩
theorem below_set2 {B g : Nat} {w w2 : World} (h : Below B w w2) (hg : B ≤ g) (v0 v1 : Value) : Below B w ((w2.setCell ⟨g, 0, none⟩ v0).setCell ⟨g, 1, none⟩ v1) :=
  (h.setCell (p := ⟨g, 0, none⟩) hg _).setCell (p := ⟨g, 1, none⟩) hg _
theorem Own.other {w : World} {g : Nat} {t : TypeId} {cs : Array Value} (h : Own w g t cs) (b i : Nat) (v : Value) (hb : g ≠ b) : Own (w.setCell ⟨b, i, none⟩ v) g t cs :=
  ⟨((Lib.grownBy_setCell w b i v).block g h.lt (by simp; exact hb)).trans h.ex⟩
theorem retBo {a b : Bool} (h : a = b) : Ending.returned (.bool a) = .returned (.bool b) := by rw [h]
theorem retIn {a b : Int} (h : a = b) : Ending.returned (.int .i64 a) = .returned (.int .i64 b) := by rw [h]
theorem retI {a b : Int} (h : a = b) : Ending.returned (.int .i64 a) = .returned (.int .i64 b) := by rw [h]
end Go.Proofs.Ytkikfaeigoeogaa.P
