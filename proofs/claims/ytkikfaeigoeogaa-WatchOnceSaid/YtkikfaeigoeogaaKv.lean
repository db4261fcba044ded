/- Slices of things with keys, as lists: what a slice reads as, and how that is carried from world to world. -/
import Derived.Test.YtkikfaeigoeogaaProg
import Derived.WalkKit
import Derived.Below
import Derived.Laws.OwnMore
import Derived.Lib.Hide
import Derived.Lib.QuietBelow
import Derived.Test.YtkikfaeigoeogaaKvPure
namespace Go.Proofs.Ytkikfaeigoeogaa.P
open Go.RowKit Go.Sort
set_option linter.unusedVariables false

def inI (x : Int) : Prop := -9223372036854775808 ≤ x ∧ x ≤ 9223372036854775807
instance : Inhabited KV := ⟨⟨⟨#[]⟩, ⟨#[]⟩, 0, 0, 0, 0⟩⟩
structure KV.ok (x : KV) : Prop where
  key : x.key.size ≤ maxLen
  val : x.val.size ≤ maxLen
  cre : inI x.cre
  mod : inI x.mod
  ver : inI x.ver
  lea : inI x.lea
/-- A thing as a value; its cells. -/
abbrev KV.agg (x : KV) : Value := .agg #[.string x.key, .string x.val, .int .i64 x.cre, .int .i64 x.mod, .int .i64 x.ver, .int .i64 x.lea]
def KV.cells (x : KV) : List Value := [.string x.key, .string x.val, .int .i64 x.cre, .int .i64 x.mod, .int .i64 x.ver, .int .i64 x.lea]
def cellsL (l : List KV) : List Value := l.flatMap KV.cells
theorem KV.cells_len (x : KV) : x.cells.length = 6 := rfl
theorem cellsL_len (l : List KV) : (cellsL l).length = l.length * 6 := by
  induction l with
  | nil => rfl
  | cons x r ih => simp only [cellsL, List.flatMap_cons, List.length_append, List.length_cons] at ih ⊢; rw [ih, KV.cells_len]; omega
theorem cellsL_app (l m : List KV) : cellsL (l ++ m) = cellsL l ++ cellsL m := by simp [cellsL]
theorem cellsL_one (x : KV) : cellsL [x] = x.cells := by simp [cellsL]
theorem cells_one {x : KV} {v : Value} (h : v ∈ x.cells) : v.oneCell' = true := by
  simp [KV.cells] at h
  rcases h with rfl | rfl | rfl | rfl | rfl | rfl <;> rfl
theorem cellsL_one' {l : List KV} {v : Value} (h : v ∈ cellsL l) : v.oneCell' = true := by
  obtain ⟨x, _, hx⟩ := List.mem_flatMap.1 h
  exact cells_one hx
theorem cellsL_at : ∀ (l : List KV) (i j : Nat) (x : KV), l[i]? = some x → j < 6 → (cellsL l)[i * 6 + j]? = x.cells[j]?
  | [], _, _, _, h, _ => by simp at h
  | y :: r, 0, j, x, h, hj => by
    simp at h; subst h
    show (y.cells ++ cellsL r)[0 * 6 + j]? = _
    rw [Nat.zero_mul, Nat.zero_add, List.getElem?_append_left (by rw [KV.cells_len]; exact hj)]
  | y :: r, i + 1, j, x, h, hj => by
    show (y.cells ++ cellsL r)[(i + 1) * 6 + j]? = _
    rw [List.getElem?_append_right (by rw [KV.cells_len]; omega), KV.cells_len, show (i + 1) * 6 + j - 6 = i * 6 + j by omega]
    exact cellsL_at r i j x (by simpa using h) hj

/-- A thing lies at p, in the spelling of the walk. -/
structure At6 (w : World) (p : Addr) (x : KV) : Prop where
  c0 : w.cell? p = some (.string x.key)
  c1 : w.cell? ⟨p.block, p.off + 1, none⟩ = some (.string x.val)
  c2 : w.cell? ⟨p.block, p.off + 2, none⟩ = some (.int .i64 x.cre)
  c3 : w.cell? ⟨p.block, p.off + 3, none⟩ = some (.int .i64 x.mod)
  c4 : w.cell? ⟨p.block, p.off + 4, none⟩ = some (.int .i64 x.ver)
  c5 : w.cell? ⟨p.block, p.off + 5, none⟩ = some (.int .i64 x.lea)
theorem At6.keep {w w' : World} {p : Addr} {x : KV} {B : Nat} (h : At6 w p x) (hb : Below B w w') (hp : p.block < B) : At6 w' p x :=
  ⟨(hb.cell hp).trans h.c0, (hb.cell (p := ⟨p.block, p.off + 1, none⟩) hp).trans h.c1, (hb.cell (p := ⟨p.block, p.off + 2, none⟩) hp).trans h.c2, (hb.cell (p := ⟨p.block, p.off + 3, none⟩) hp).trans h.c3,
    (hb.cell (p := ⟨p.block, p.off + 4, none⟩) hp).trans h.c4, (hb.cell (p := ⟨p.block, p.off + 5, none⟩) hp).trans h.c5⟩
theorem block_add (a : Addr) (n : Nat) : (a.add n).block = a.block := by unfold Addr.add; split <;> rfl
theorem add_more (a : Addr) (n j : Nat) (hj : 0 < j) : a.add (n + j) = ⟨(a.add n).block, (a.add n).off + j, none⟩ := by
  unfold Addr.add
  by_cases hn : n = 0
  · subst hn; simp; omega
  · simp [hn, Nat.add_assoc]

/-- What a slice of things reads as. -/
structure KVs (w : World) (A : Option Addr) (n c : Nat) (l : List KV) : Prop where
  len : l.length = n
  le : n ≤ c
  max : c ≤ maxLen
  ok : ∀ x ∈ l, x.ok
  rd : 0 < n → ∃ a, A = some a ∧ a.block < w.heap.size ∧ ∀ i x, l[i]? = some x → At6 w (a.add (i * 6)) x
  nil : A = none → c = 0
theorem KVs.keep {w w' : World} {A : Option Addr} {n c : Nat} {l : List KV} (h : KVs w A n c l) (hb : Below w.heap.size w w') : KVs w' A n c l :=
  ⟨h.len, h.le, h.max, h.ok, fun hn => by
    obtain ⟨a, e, hlt, hx⟩ := h.rd hn
    exact ⟨a, e, Nat.lt_of_lt_of_le hlt hb.size, fun i x hi => (hx i x hi).keep hb (by rw [block_add]; exact hlt)⟩, h.nil⟩
theorem KVs.at_ {w : World} {A : Option Addr} {n c k : Nat} {l : List KV} (h : KVs w A n c l) (hk : k < n) : ∃ a x, A = some a ∧ a.block < w.heap.size ∧ l[k]? = some x ∧ x.ok ∧ At6 w (a.add (k * 6)) x := by
  obtain ⟨a, e, hlt, hx⟩ := h.rd (by omega)
  have hl : k < l.length := by rw [h.len]; exact hk
  exact ⟨a, l[k], e, hlt, List.getElem?_eq_getElem hl, h.ok _ (List.getElem_mem hl), hx k _ (List.getElem?_eq_getElem hl)⟩
theorem KVs.bare (w : World) : KVs w none 0 0 [] := ⟨rfl, Nat.le_refl _, Nat.zero_le _, fun _ h => by simp at h, fun h => absurd h (by omega), fun _ => rfl⟩

/-- What the call's own row holds is what it reads as. -/
theorem KVs.of_own {w : World} {base e n : Nat} {v : Value} {l : List KV} (h : w.ownsRow base e 6 v n (cellsL l)) (ok : ∀ x ∈ l, x.ok) : ∃ A c, v = .slice A n c ∧ KVs w A n c l := by
  have hlen : l.length = n := by have := h.1; rw [cellsL_len] at this; omega
  have h0 := h
  rcases h.2 with ⟨rfl, rfl⟩ | ⟨g, cap, cur, rfl, hb, hg, hnc, hcm, hcs, htake⟩
  · exact ⟨none, 0, rfl, hlen, Nat.le_refl _, Nat.zero_le _, ok, fun h => absurd h (by omega), fun _ => rfl⟩
  · have hlt : g < w.heap.size := by
      rcases Nat.lt_or_ge g w.heap.size with hlt | hge
      · exact hlt
      · rw [Array.getElem?_eq_none hge] at hg; cases hg
    refine ⟨some ⟨g, 0, none⟩, cap, rfl, hlen, hnc, hcm, ok, fun _ => ⟨_, rfl, hlt, fun i x hi => ?_⟩, fun h => by cases h⟩
    have hin : i < n := by rw [← hlen]; exact (List.getElem?_eq_some_iff.1 hi).1
    have key : ∀ j, j < 6 → w.cell? ⟨g, i * 6 + j, none⟩ = x.cells[j]? := fun j hj => by
      rw [h0.cellAt (i * 6 + j) (by omega), cellsL_at l i j x hi hj]
    have e0 : (⟨g, 0, none⟩ : Addr).add (i * 6) = ⟨g, i * 6, none⟩ := by unfold Addr.add; split <;> simp_all
    rw [e0]
    exact ⟨key 0 (by omega), key 1 (by omega), key 2 (by omega), key 3 (by omega), key 4 (by omega), key 5 (by omega)⟩

/-- The end of a call that makes a slice: what its result reads as. Plain, so that the walk leaves it alone. -/
def SomeKVs (w : World) (l : List KV) (e : Ending) (w' : World) : Prop := ∃ A n c, e = .returned (.slice A n c) ∧ KVs w' A n c l ∧ Below w.heap.size w w'
theorem take_succ {α : Type} (l : List α) (k : Nat) (x : α) (h : l[k]? = some x) : l.take (k + 1) = l.take k ++ [x] := by
  rw [List.take_add_one, h]; rfl
theorem take_full {α : Type} (l : List α) (n : Nat) (h : l.length = n) : l.take n = l := List.take_of_length_le (by omega)
theorem split_at {α : Type} (l : List α) (k : Nat) (x : α) (h : l[k]? = some x) : l = l.take k ++ x :: l.drop (k + 1) := by
  obtain ⟨hk, rfl⟩ := List.getElem?_eq_some_iff.1 h
  rw [← List.drop_eq_getElem_cons hk, List.take_append_drop]
theorem bcell {W w1 : World} (hb : Below W.heap.size W w1) : (∀ b o, b < W.heap.size → w1.cell? ⟨b, o, none⟩ = W.cell? ⟨b, o, none⟩) ∧ (∀ b o, b < W.heap.size → w1.frozen? ⟨b, o, none⟩ = W.frozen? ⟨b, o, none⟩) :=
  ⟨fun b o h => hb.cell (p := ⟨b, o, none⟩) h, fun b o h => hb.frozen (p := ⟨b, o, none⟩) h⟩

/-- A thing in a block of its own, and in every world that has grown since. -/
abbrev KV.obj (x : KV) (t : TypeId) : Obj := .cells #[.string x.key, .string x.val, .int .i64 x.cre, .int .i64 x.mod, .int .i64 x.ver, .int .i64 x.lea] t
theorem at6_new (w : World) (x : KV) (t : TypeId) : At6 (w.alloc (x.obj t)) ⟨w.heap.size, 0, none⟩ x := by
  constructor <;> simp
theorem At6.grown {w : World} {p : Addr} {x : KV} (h : At6 w p x) :
    (∀ d os, (grow (redrawn w d) os).cell? p = some (.string x.key)) ∧ (∀ d os, (grow (redrawn w d) os).cell? ⟨p.block, p.off + 1, none⟩ = some (.string x.val)) ∧
    (∀ d os, (grow (redrawn w d) os).cell? ⟨p.block, p.off + 2, none⟩ = some (.int .i64 x.cre)) ∧ (∀ d os, (grow (redrawn w d) os).cell? ⟨p.block, p.off + 3, none⟩ = some (.int .i64 x.mod)) ∧
    (∀ d os, (grow (redrawn w d) os).cell? ⟨p.block, p.off + 4, none⟩ = some (.int .i64 x.ver)) ∧ (∀ d os, (grow (redrawn w d) os).cell? ⟨p.block, p.off + 5, none⟩ = some (.int .i64 x.lea)) :=
  ⟨cell_regrown h.c0, cell_regrown h.c1, cell_regrown h.c2, cell_regrown h.c3, cell_regrown h.c4, cell_regrown h.c5⟩
theorem at6_new_grown (w : World) (x : KV) (t : TypeId) :
    (∀ d os, (grow (redrawn (w.alloc (x.obj t)) d) os).cell? ⟨w.heap.size, 0, none⟩ = some (.string x.key)) ∧ (∀ d os, (grow (redrawn (w.alloc (x.obj t)) d) os).cell? ⟨w.heap.size, 1, none⟩ = some (.string x.val)) ∧
    (∀ d os, (grow (redrawn (w.alloc (x.obj t)) d) os).cell? ⟨w.heap.size, 2, none⟩ = some (.int .i64 x.cre)) ∧ (∀ d os, (grow (redrawn (w.alloc (x.obj t)) d) os).cell? ⟨w.heap.size, 3, none⟩ = some (.int .i64 x.mod)) ∧
    (∀ d os, (grow (redrawn (w.alloc (x.obj t)) d) os).cell? ⟨w.heap.size, 4, none⟩ = some (.int .i64 x.ver)) ∧ (∀ d os, (grow (redrawn (w.alloc (x.obj t)) d) os).cell? ⟨w.heap.size, 5, none⟩ = some (.int .i64 x.lea)) :=
  (at6_new w x t).grown
theorem below_grow {B : Nat} {w wr : World} (hb : Below B w wr) (hB : B ≤ wr.heap.size) (d : Nat) (os : Array Obj) : Below B w (grow (redrawn wr d) os) :=
  hb.trans ((below_regrown wr d os).mono hB)
theorem below_new {B : Nat} {w wr : World} (hb : Below B w wr) (hB : B ≤ wr.heap.size) (o : Obj) (d : Nat) (os : Array Obj) : Below B w (grow (redrawn (wr.alloc o) d) os) :=
  below_grow (hb.alloc hB o) (by simp; omega) d os
theorem below_set6 {B g : Nat} {w w2 : World} (h : Below B w w2) (hg : B ≤ g) (v0 v1 v2 v3 v4 v5 : Value) :
    Below B w ((((((w2.setCell ⟨g, 0, none⟩ v0).setCell ⟨g, 1, none⟩ v1).setCell ⟨g, 2, none⟩ v2).setCell ⟨g, 3, none⟩ v3).setCell ⟨g, 4, none⟩ v4).setCell ⟨g, 5, none⟩ v5) :=
  (((((h.setCell (p := ⟨g, 0, none⟩) hg _).setCell (p := ⟨g, 1, none⟩) hg _).setCell (p := ⟨g, 2, none⟩) hg _).setCell (p := ⟨g, 3, none⟩) hg _).setCell (p := ⟨g, 4, none⟩) hg _).setCell (p := ⟨g, 5, none⟩) hg _
theorem At6.on {w w' : World} {p : Addr} {x : KV} (h : At6 w p x) (hb : Below w.heap.size w w') : At6 w' p x := h.keep hb (World.block_lt_of_cell? w p h.c0)
/-- What was below stays so behind blocks that were made ahead of a call. -/
theorem past1 {w w' : World} {o : Obj} (h : Below (w.alloc o).heap.size (w.alloc o) w') : Below w.heap.size w w' :=
  ((Below.refl _ _).alloc (Nat.le_refl _) o).trans (h.mono (by simp))
theorem past2 {w w' : World} {o o2 : Obj} (h : Below ((w.alloc o).alloc o2).heap.size ((w.alloc o).alloc o2) w') : Below w.heap.size w w' := past1 (past1 h)
theorem past3 {w w' : World} {o o2 o3 : Obj} (h : Below (((w.alloc o).alloc o2).alloc o3).heap.size (((w.alloc o).alloc o2).alloc o3) w') : Below w.heap.size w w' := past1 (past2 h)
theorem new1 (w : World) (o : Obj) : Below w.heap.size w (w.alloc o) := (Below.refl _ _).alloc (Nat.le_refl _) o
theorem then_ {w w1 w2 : World} (h : Below w.heap.size w w1) (k : Below w1.heap.size w1 w2) : Below w.heap.size w w2 := h.trans (k.mono h.size)
end Go.Proofs.Ytkikfaeigoeogaa.P
