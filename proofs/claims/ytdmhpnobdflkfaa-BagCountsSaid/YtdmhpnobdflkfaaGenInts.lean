/- Lists of numbers: what a slice of them reads as; as arguments; appended to (for seats without leases). -/
import Derived.Test.YtdmhpnobdflkfaaGenApp
import Derived.ProofKit
import Derived.OpenShut
import Derived.ShutString
import Derived.Carry
import Derived.Lib.SmallJoins
import Derived.Deep.Slices
namespace Go.Proofs.Ytdmhpnobdflkfaa.P
open Go.ChangeShapes Go.WideShapes Go.ChangeAt Go.RowKit Go.Deep
set_option linter.unusedVariables false
set_option maxRecDepth 100000
theorem inI_of {a : Int} (h : (Lit.int .i64 a).wf = true) : inI a := by
  simp only [Lit.wf, Bool.and_eq_true, decide_eq_true_eq] at h
  exact h
section
variable {H : Type} {enc : TypeId × Value → H} {P : Program} {w : World} {base : Nat} {spare : Nat → Bool} {held : Bool} {α : Type} {cells : α → List Value} {q : Nat}
theorem rows_of_trod [Inhabited α] (q0 : 0 < q) (hq : ∀ x, (cells x).length = q) (ok : α → Prop) {ts te : TypeId} (ht : P.underlying ts = some (.slice te)) (hc : P.cellsOf te = q)
    (rd : ∀ (fuel : Nat) (cs : List Value) (x : DataW H × List MemPlace), DataW.trod enc P w base spare held fuel te cs = some x → ∃ y, cs = cells y ∧ ok y)
    {fuel : Nat} {cs : List Value} {x : DataW H × List MemPlace} (h : DataW.trod enc P w base spare held fuel ts cs = some x) : ∃ A n c l, cs = [.slice A n c] ∧ RowsOf cells q w A n c l ∧ ∀ y ∈ l, ok y := by
  rcases open_slice ht h with ⟨hcs, _⟩ | ⟨a, n, c, m, n', D, Pl, hcs, hb, hl, hm, hmm, _, hi⟩
  · exact ⟨none, 0, 0, [], hcs, RowsOf.bare _, fun y hy => by simp at hy⟩
  · have hle : n ≤ m := by rw [hmm]; split <;> omega
    rw [hc] at hi
    obtain ⟨f, hff⟩ := choose_lt (α := α) (n := n) (p := fun i y => Lies cells w (a.add (i * q)) y ∧ ok y) (fun i hin => by
      obtain ⟨cs', hc', ht'⟩ := hi i (by omega)
      obtain ⟨y, rfl, oky⟩ := rd _ _ _ ht'
      obtain ⟨_, _, hat⟩ := World.cells?_some hc'
      refine ⟨y, fun j v hv => ?_, oky⟩
      have hj : j < (cells y).length := (List.getElem?_eq_some_iff.1 hv).1
      have h1 := hat j (by rw [hq] at hj; exact hj)
      rw [hv] at h1
      have e : subA (a.add (i * q)) j = (a.add (i * q)).add j := by
        unfold subA Addr.add
        by_cases h0 : j = 0 <;> simp [h0]
      rw [e]; exact h1)
    refine ⟨some a, n, c, (List.range n).map f, hcs, ⟨by simp, hl, hm, fun hn => ?_, fun h => by cases h⟩, fun x hx => ?_⟩
    · refine ⟨a, rfl, ?_, fun i x hx => ?_⟩
      · have hne : 0 < (cells (f 0)).length := by rw [hq]; exact q0
        have := World.block_lt_of_cell? w _ ((hff 0 hn).1 0 _ (List.getElem?_eq_getElem hne))
        rwa [subA_block, block_add] at this
      · have hin : i < n := by
          have := (List.getElem?_eq_some_iff.1 hx).1
          simpa using this
        have : x = f i := by
          rw [List.getElem?_map, List.getElem?_range hin] at hx
          simpa using hx.symm
        rw [this]
        exact (hff i hin).1
    · obtain ⟨i, hi', rfl⟩ := List.mem_map.1 hx
      exact (hff i (List.mem_range.1 hi')).2
end
/-- A block of the call's own, with what lies in it. -/
structure Own (w : World) (g : Nat) (t : TypeId) (cs : Array Value) : Prop where
  ex : w.heap[g]? = some (.cells cs t (0, 0))
theorem own_new (w : World) (cs : Array Value) (t : TypeId) : Own (w.alloc (.cells cs t)) w.heap.size t cs := ⟨by show (w.heap.push _)[_]? = _; rw [Array.getElem?_push, if_pos rfl]⟩
theorem own_new2 (w : World) (o : Obj) (cs : Array Value) (t : TypeId) : Own ((w.alloc o).alloc (.cells cs t)) (w.heap.size + 1) t cs := by
  have h := own_new (w.alloc o) cs t
  rwa [show (w.alloc o).heap.size = w.heap.size + 1 by simp] at h
theorem Own.lt {w : World} {g : Nat} {t : TypeId} {cs : Array Value} (h : Own w g t cs) : g < w.heap.size := by
  rcases Nat.lt_or_ge g w.heap.size with hlt | hge
  · exact hlt
  · have := h.ex; rw [Array.getElem?_eq_none hge] at this; cases this
theorem Own.below {w w' : World} {g : Nat} {t : TypeId} {cs : Array Value} (h : Own w g t cs) (hb : Below w.heap.size w w') : Own w' g t cs := ⟨(hb.block _ h.lt).trans h.ex⟩
theorem Own.low {w w' : World} {g base : Nat} {t : TypeId} {cs : Array Value} (h : Own w g t cs) (hb : Below base w w') (hg : g < base) : Own w' g t cs := ⟨(hb.block _ hg).trans h.ex⟩
theorem Own.alloc {w : World} {g : Nat} {t : TypeId} {cs : Array Value} (h : Own w g t cs) (o : Obj) : Own (w.alloc o) g t cs := h.below (new1 w o)
theorem Own.cell {w : World} {g : Nat} {t : TypeId} {cs : Array Value} (h : Own w g t cs) (i : Nat) (v : Value) (hv : cs[i]? = some v) : w.cell? ⟨g, i, none⟩ = some v := by
  simp [World.cell?, h.ex, hv]
theorem Own.frozen {w : World} {g : Nat} {t : TypeId} {cs : Array Value} (h : Own w g t cs) (i : Nat) : w.frozen? ⟨g, i, none⟩ = false := by simp [World.frozen?, h.ex]
theorem Own.kept {w w' : World} {g : Nat} {t : TypeId} {cs : Array Value} {row : Option Nat} (h : Own w g t cs) (hg : w.grownBy w' row) (hne : some g ≠ row) : Own w' g t cs := ⟨(hg.block g h.lt hne).trans h.ex⟩
theorem Own.set {w : World} {g : Nat} {t : TypeId} {cs : Array Value} (h : Own w g t cs) (i : Nat) (v : Value) : Own (w.setCell ⟨g, i, none⟩ v) g t (cs.setIfInBounds i v) := ⟨by
  have := h.ex; simp [World.setCell, Array.getElem?_modify, this]⟩
def intC (z : Int) : List Value := [.int .i64 z]
theorem intC_len (z : Int) : (intC z).length = 1 := rfl
theorem intC_one (z : Int) : ∀ v ∈ intC z, v.oneCell' = true := by intro v h; simp [intC] at h; subst h; rfl
abbrev zeroIntV : Value := .int .i64 0
theorem int_info : (Try.prog.info? 3).map (fun i => (i.zero, i.size, i.bytes)) = some (some zeroIntV, 1, 8) := by kernel_rfl
abbrev Is (w : World) (A : Option Addr) (n c : Nat) (l : List Int) : Prop := RowsOf intC 1 w A n c l
theorem Is.at_ {w : World} {A : Option Addr} {n c k : Nat} {l : List Int} (h : Is w A n c l) (hk : k < n) : ∃ a z, A = some a ∧ a.block < w.heap.size ∧ l[k]? = some z ∧ w.cell? (a.add k) = some (.int .i64 z) := by
  obtain ⟨a, z, e, hb, hx, hl⟩ := RowsOf.at_ h hk
  have := hl 0 _ rfl
  rw [Nat.mul_one] at this
  exact ⟨a, z, e, hb, hx, this⟩
theorem info_parts1 {P : Program} {t : TypeId} {z : Value} {s b : Nat} (h : (P.info? t).map (fun i => (i.zero, i.size, i.bytes)) = some (some z, s, b)) : ∃ i0, P.info? t = some i0 ∧ i0.zero = some z ∧ i0.size = s ∧ i0.bytes = b := by
  cases hi : P.info? t with
  | none => rw [hi] at h; cases h
  | some i0 =>
    rw [hi] at h
    injection h with h
    injection h with h1 h2
    injection h2 with h2 h3
    exact ⟨i0, rfl, h1, h2, h3⟩
theorem app_ints (base : Nat) (B : Option Addr) (n d : Nat) (xs : List Int) (w : World) (z : Int) (hown : ownG intC 1 3 w base B n d xs) (hn : n ≤ 1000) (hb : base ≤ w.heap.size) :
    ∃ B' d' w', (Builtin.append_ #[22, 22] 22 #[.slice B n d, .slice (some ⟨w.heap.size, 0, none⟩) 1 1]).run Try.prog (w.alloc (.cells #[.int .i64 z] 3)) = .ok (.slice B' (n + 1) d') w' ∧ ownG intC 1 3 w' base B' (n + 1) d' (xs ++ [z]) ∧ Below base w w' := by
  obtain ⟨i0, hi0, hz0, hz1, hz2⟩ := info_parts1 int_info
  obtain ⟨B', d', w', h1, h2, h3, _⟩ := app_rows intC_len (by omega) intC_one Try.underlying22 hi0 hz0 hz1 hz2 rfl (by omega) base B n d xs (w.alloc (.cells #[.int .i64 z] 3)) (ownG_keep hown (new1 w _)) _ 1 1 [z] (rows_new intC_len (e := 3) w z #[.int .i64 z] rfl) (by omega) (by simp; omega)
  exact ⟨B', d', w', h1, h2, ((Below.refl _ _).alloc hb _).trans h3⟩
variable {H : Type} {enc : TypeId × Value → H} {w : World} {base : Nat} {spare : Nat → Bool} {held : Bool}
theorem read_int {fuel : Nat} {cs : List Value} {x : DataW H × List MemPlace} (h : DataW.trod enc Try.prog w base spare held fuel 3 cs = some x) : ∃ y : Int, cs = intC y ∧ inI y := by
  obtain ⟨a0, h0, _, w0⟩ := DataW.trod_int Try.underlying3 h
  exact ⟨a0, h0, inI_of w0⟩
theorem open_is {r : Reach} {b0 : Nat} {v : Value} {d : DataW H} {p : List MemPlace} (hv : Value.okWide Try.prog w r b0 22 v) (h : DataW.Trod enc Try.prog w base spare held 22 v d p) : ∃ A n c l, v = .slice A n c ∧ (Is w A n c l ∧ ∀ z ∈ l, inI z) := by
  obtain ⟨A, n, c, rfl⟩ := okWide_slice Try.underlying22 hv
  obtain ⟨fuel, hf⟩ := h
  obtain ⟨A1, n1, d1, l1, h1, R1, ok1⟩ := rows_of_trod (cells := intC) (q := 1) (by omega) (fun _ => rfl) inI Try.underlying22 (by kernel_rfl) (fun _ _ _ h => read_int h) hf
  have : Value.slice A n c = .slice A1 n1 d1 := by simpa [Value.cells] using h1
  injection this with e1 e2 e3
  subst e1 e2 e3
  exact ⟨A, n, c, l1, rfl, R1, ok1⟩
theorem retBo {a b : Bool} (h : a = b) : Ending.returned (.bool a) = .returned (.bool b) := by rw [h]
theorem retIn {a b : Int} (h : a = b) : Ending.returned (.int .i64 a) = .returned (.int .i64 b) := by rw [h]
end Go.Proofs.Ytdmhpnobdflkfaa.P
