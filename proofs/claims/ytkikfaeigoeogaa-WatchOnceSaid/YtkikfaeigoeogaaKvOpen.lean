/- Arguments that are things, events, and lists of them: opened to what they read as. -/
import Derived.Test.YtkikfaeigoeogaaKvEv
import Derived.Test.YtkikfaeigoeogaaEvBase
import Derived.Test.YtkikfaeigoeogaaBaseOwn
import Derived.ProofKit
import Derived.OpenShut
import Derived.ShutString
import Derived.Carry
import Derived.Lib.SmallJoins
import Derived.Deep.Slices
namespace Go.Proofs.Ytkikfaeigoeogaa.P
open Go.ChangeShapes Go.WideShapes Go.ChangeAt Go.RowKit Go.Deep
set_option linter.unusedVariables false
set_option maxRecDepth 100000
variable {H : Type} {enc : TypeId × Value → H} {w : World} {base : Nat} {spare : Nat → Bool} {held : Bool}

instance : Inhabited Ev := ⟨⟨0, false, default⟩⟩

theorem six {α : Type} {l : List α} (h : l.length = 6) : ∃ a b c d e f, l = [a, b, c, d, e, f] := by
  match l, h with
  | [a, b, c, d, e, f], _ => exact ⟨a, b, c, d, e, f, rfl⟩
theorem eight {α : Type} {l : List α} (h : l.length = 8) : ∃ a b c d e f g i, l = [a, b, c, d, e, f, g, i] := by
  match l, h with
  | [a, b, c, d, e, f, g, i], _ => exact ⟨a, b, c, d, e, f, g, i, rfl⟩

theorem read_kv {fuel : Nat} {cs : List Value} {x : DataW H × List MemPlace} (h : DataW.trod enc Try.prog w base spare held fuel 36 cs = some x) : ∃ y : KV, cs = y.cells ∧ y.ok := by
  obtain ⟨xs, n, _, _, hlen, hxl, hf⟩ := DataW.trod_struct Try.underlying36 h
  rw [show Try.prog.cellsOf 36 = 6 by kernel_rfl] at hlen
  obtain ⟨c0, c1, c2, c3, c4, c5, rfl⟩ := six hlen
  have g : ∀ i f, (_ : Array Field)[i]? = some f → ∃ z, xs[i]? = some z := fun i f hi => ⟨_, List.getElem?_eq_getElem (by rw [hxl]; exact (Array.getElem?_eq_some_iff.1 hi).1)⟩
  have f0 := hf 0 _ rfl
  have f1 := hf 1 _ rfl
  have f2 := hf 2 _ rfl
  have f3 := hf 3 _ rfl
  have f4 := hf 4 _ rfl
  have f5 := hf 5 _ rfl
  obtain ⟨z0, e0⟩ := g 0 _ rfl
  obtain ⟨z1, e1⟩ := g 1 _ rfl
  obtain ⟨z2, e2⟩ := g 2 _ rfl
  obtain ⟨z3, e3⟩ := g 3 _ rfl
  obtain ⟨z4, e4⟩ := g 4 _ rfl
  obtain ⟨z5, e5⟩ := g 5 _ rfl
  rw [e0] at f0; rw [e1] at f1; rw [e2] at f2; rw [e3] at f3; rw [e4] at f4; rw [e5] at f5
  obtain ⟨s0, h0, _, w0⟩ := DataW.trod_string Try.underlying9 f0
  obtain ⟨s1, h1, _, w1⟩ := DataW.trod_string Try.underlying9 f1
  obtain ⟨n2, h2, _, w2⟩ := DataW.trod_int Try.underlying3 f2
  obtain ⟨n3, h3, _, w3⟩ := DataW.trod_int Try.underlying3 f3
  obtain ⟨n4, h4, _, w4⟩ := DataW.trod_int Try.underlying3 f4
  obtain ⟨n5, h5, _, w5⟩ := DataW.trod_int Try.underlying3 f5
  have k : ∀ a b : Value, [a] = [b] → a = b := fun a b h => by injection h
  obtain rfl := k _ _ (show [c0] = [_] from h0)
  obtain rfl := k _ _ (show [c1] = [_] from h1)
  obtain rfl := k _ _ (show [c2] = [_] from h2)
  obtain rfl := k _ _ (show [c3] = [_] from h3)
  obtain rfl := k _ _ (show [c4] = [_] from h4)
  obtain rfl := k _ _ (show [c5] = [_] from h5)
  exact ⟨⟨s0, s1, n2, n3, n4, n5⟩, rfl, ⟨w0, w1, inI_of w2, inI_of w3, inI_of w4, inI_of w5⟩⟩

/-- A thing by value. -/
theorem open_kv {r : Reach} {b0 : Nat} {v : Value} {d : DataW H} {p : List MemPlace} (hv : Value.okWide Try.prog w r b0 36 v) (h : DataW.Trod enc Try.prog w base spare held 36 v d p) : ∃ y : KV, v = y.agg ∧ y.ok := by
  obtain ⟨cs, rfl, hsz⟩ := okWide_struct Try.underlying36 hv
  obtain ⟨fuel, hf⟩ := h
  obtain ⟨y, hy, ok⟩ := read_kv hf
  refine ⟨y, ?_, ok⟩
  obtain ⟨l⟩ := cs
  have : l = y.cells := hy
  rw [this]; rfl

/-- A list of things. -/
theorem open_kvs {r : Reach} {b0 : Nat} {v : Value} {d : DataW H} {p : List MemPlace} (hv : Value.okWide Try.prog w r b0 22 v) (h : DataW.Trod enc Try.prog w base spare held 22 v d p) : ∃ A n c l, v = .slice A n c ∧ KVs w A n c l := by
  obtain ⟨A, n, c, rfl⟩ := okWide_slice Try.underlying22 hv
  obtain ⟨fuel, hf⟩ := h
  rcases open_slice Try.underlying22 hf with ⟨hcs, _⟩ | ⟨a, len, cap, m, n', D, Pl, hcs, hb, hl, hm, hmm, _, hi⟩
  · have : Value.slice A n c = .slice none 0 0 := by simpa [Value.cells] using hcs
    injection this with e1 e2 e3
    subst e1 e2 e3
    exact ⟨none, 0, 0, [], rfl, KVs.bare _⟩
  · have : Value.slice A n c = .slice (some a) len cap := by simpa [Value.cells] using hcs
    injection this with e1 e2 e3
    subst e1 e2 e3
    have hle : n ≤ m := by rw [hmm]; split <;> omega
    rw [show Try.prog.cellsOf 36 = 6 by kernel_rfl] at hi
    obtain ⟨f, hff⟩ := choose_lt (α := KV) (n := n) (p := fun i y => At6 w (a.add (i * 6)) y ∧ y.ok) (fun i hin => by
      obtain ⟨cs', hc, ht⟩ := hi i (by omega)
      obtain ⟨y, rfl, ok⟩ := read_kv ht
      obtain ⟨_, _, hat⟩ := World.cells?_some hc
      have g : ∀ j, 0 < j → j < 6 → w.cell? ⟨(a.add (i * 6)).block, (a.add (i * 6)).off + j, none⟩ = y.cells[j]? := fun j h0 hj => by
        have := hat j hj
        rwa [show (a.add (i * 6)).add j = ⟨(a.add (i * 6)).block, (a.add (i * 6)).off + j, none⟩ by unfold Addr.add; rw [if_neg (by omega)]] at this
      exact ⟨y, ⟨hat 0 (by omega), g 1 (by omega) (by omega), g 2 (by omega) (by omega), g 3 (by omega) (by omega), g 4 (by omega) (by omega), g 5 (by omega) (by omega)⟩, ok⟩)
    refine ⟨some a, n, c, (List.range n).map f, rfl, by simp, hl, hm, fun x hx => ?_, fun hn => ?_, fun h => by cases h⟩
    · obtain ⟨i, hi', rfl⟩ := List.mem_map.1 hx
      exact (hff i (List.mem_range.1 hi')).2
    · refine ⟨a, rfl, ?_, fun i x hx => ?_⟩
      · have := World.block_lt_of_cell? w _ (hff 0 hn).1.c0
        rwa [block_add] at this
      · have hin : i < n := by
          have := (List.getElem?_eq_some_iff.1 hx).1
          simpa using this
        have : x = f i := by
          rw [List.getElem?_map, List.getElem?_range hin] at hx
          simpa using hx.symm
        rw [this]
        exact (hff i hin).1

theorem read_ev {fuel : Nat} {cs : List Value} {x : DataW H × List MemPlace} (h : DataW.trod enc Try.prog w base spare held fuel 43 cs = some x) : ∃ y : Ev, cs = y.cells ∧ y.ok := by
  obtain ⟨xs, n, _, _, hlen, hxl, hf⟩ := DataW.trod_struct Try.underlying43 h
  rw [show Try.prog.cellsOf 43 = 8 by kernel_rfl] at hlen
  obtain ⟨c0, c1, c2, c3, c4, c5, c6, c7, rfl⟩ := eight hlen
  have g : ∀ i f, (_ : Array Field)[i]? = some f → ∃ z, xs[i]? = some z := fun i f hi => ⟨_, List.getElem?_eq_getElem (by rw [hxl]; exact (Array.getElem?_eq_some_iff.1 hi).1)⟩
  have f0 := hf 0 _ rfl
  have f1 := hf 1 _ rfl
  have f2 := hf 2 _ rfl
  obtain ⟨z0, e0⟩ := g 0 _ rfl
  obtain ⟨z1, e1⟩ := g 1 _ rfl
  obtain ⟨z2, e2⟩ := g 2 _ rfl
  rw [e0] at f0; rw [e1] at f1; rw [e2] at f2
  obtain ⟨n0, h0, _, w0⟩ := DataW.trod_int Try.underlying3 f0
  obtain ⟨b1, h1, _⟩ := DataW.trod_bool Try.underlying4 f1
  obtain ⟨y, h2, ok⟩ := read_kv f2
  have k : ∀ a b : Value, [a] = [b] → a = b := fun a b h => by injection h
  obtain rfl := k _ _ (show [c0] = [_] from h0)
  obtain rfl := k _ _ (show [c1] = [_] from h1)
  have h2' : [c2, c3, c4, c5, c6, c7] = y.cells := h2
  refine ⟨⟨n0, b1, y⟩, ?_, ⟨inI_of w0, ok⟩⟩
  rw [h2']; rfl
/-- A list of events. -/
theorem open_evs {r : Reach} {b0 : Nat} {v : Value} {d : DataW H} {p : List MemPlace} (hv : Value.okWide Try.prog w r b0 23 v) (h : DataW.Trod enc Try.prog w base spare held 23 v d p) : ∃ A n c l, v = .slice A n c ∧ Evs w A n c l := by
  obtain ⟨A, n, c, rfl⟩ := okWide_slice Try.underlying23 hv
  obtain ⟨fuel, hf⟩ := h
  rcases open_slice Try.underlying23 hf with ⟨hcs, _⟩ | ⟨a, len, cap, m, n', D, Pl, hcs, hb, hl, hm, hmm, _, hi⟩
  · have : Value.slice A n c = .slice none 0 0 := by simpa [Value.cells] using hcs
    injection this with e1 e2 e3
    subst e1 e2 e3
    exact ⟨none, 0, 0, [], rfl, ⟨rfl, Nat.le_refl _, Nat.zero_le _, fun _ h => by simp at h, fun h => absurd h (by omega), fun _ => rfl⟩⟩
  · have : Value.slice A n c = .slice (some a) len cap := by simpa [Value.cells] using hcs
    injection this with e1 e2 e3
    subst e1 e2 e3
    have hle : n ≤ m := by rw [hmm]; split <;> omega
    rw [show Try.prog.cellsOf 43 = 8 by kernel_rfl] at hi
    obtain ⟨f, hff⟩ := choose_lt (α := Ev) (n := n) (p := fun i y => At8 w (a.add (i * 8)) y ∧ y.ok) (fun i hin => by
      obtain ⟨cs', hc, ht⟩ := hi i (by omega)
      obtain ⟨y, rfl, ok⟩ := read_ev ht
      obtain ⟨_, _, hat⟩ := World.cells?_some hc
      have g : ∀ j, 0 < j → j < 8 → w.cell? ⟨(a.add (i * 8)).block, (a.add (i * 8)).off + j, none⟩ = y.cells[j]? := fun j h0 hj => by
        have := hat j hj
        rwa [show (a.add (i * 8)).add j = ⟨(a.add (i * 8)).block, (a.add (i * 8)).off + j, none⟩ by unfold Addr.add; rw [if_neg (by omega)]] at this
      exact ⟨y, ⟨hat 0 (by omega), g 1 (by omega) (by omega), g 2 (by omega) (by omega), g 3 (by omega) (by omega), g 4 (by omega) (by omega), g 5 (by omega) (by omega), g 6 (by omega) (by omega), g 7 (by omega) (by omega)⟩, ok⟩)
    refine ⟨some a, n, c, (List.range n).map f, rfl, by simp, hl, hm, fun x hx => ?_, fun hn => ?_, fun h => by cases h⟩
    · obtain ⟨i, hi', rfl⟩ := List.mem_map.1 hx
      exact (hff i (List.mem_range.1 hi')).2
    · refine ⟨a, rfl, ?_, fun i x hx => ?_⟩
      · have := World.block_lt_of_cell? w _ (hff 0 hn).1.c0
        rwa [block_add] at this
      · have hin : i < n := by
          have := (List.getElem?_eq_some_iff.1 hx).1
          simpa using this
        have : x = f i := by
          rw [List.getElem?_map, List.getElem?_range hin] at hx
          simpa using hx.symm
        rw [this]
        exact (hff i hin).1
end Go.Proofs.Ytkikfaeigoeogaa.P
