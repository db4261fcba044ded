/- Slices of whatever things, each told by its list of cells (for seats without wire). -/
import Derived.Test.YtkikfaeigoeogaaKvRow
import Derived.Maps.AppendAt
namespace Go.Proofs.Ytkikfaeigoeogaa.P
open Go.RowKit Go.Lib
set_option linter.unusedVariables false

section
variable {α : Type} (cells : α → List Value) (q : Nat)

def flatC (l : List α) : List Value := l.flatMap cells
variable {cells q}
theorem flat_len (hq : ∀ x, (cells x).length = q) (l : List α) : (flatC cells l).length = l.length * q := by
  induction l with
  | nil => simp [flatC]
  | cons x r ih =>
    have : flatC cells (x :: r) = cells x ++ flatC cells r := rfl
    rw [this, List.length_append, ih, hq, List.length_cons, Nat.succ_mul]; omega
theorem flat_at (hq : ∀ x, (cells x).length = q) : ∀ (l : List α) (i j : Nat) (x : α), l[i]? = some x → j < q → (flatC cells l)[i * q + j]? = (cells x)[j]?
  | [], _, _, _, h, _ => by simp at h
  | y :: r, 0, j, x, h, hj => by
    simp at h; subst h
    show (cells y ++ flatC cells r)[0 * q + j]? = _
    rw [Nat.zero_mul, Nat.zero_add, List.getElem?_append_left (by rw [hq]; exact hj)]
  | y :: r, i + 1, j, x, h, hj => by
    show (cells y ++ flatC cells r)[(i + 1) * q + j]? = _
    rw [List.getElem?_append_right (by rw [hq, Nat.succ_mul]; omega), hq, show (i + 1) * q + j - q = i * q + j by rw [Nat.succ_mul]; omega]
    exact flat_at hq r i j x (by simpa using h) hj
theorem flat_snoc (l : List α) (x : α) : flatC cells l ++ flatC cells [x] = flatC cells (l ++ [x]) := by simp [flatC]
theorem flat_one (x : α) : flatC cells [x] = cells x := by simp [flatC]
theorem flat_mem (h1 : ∀ x, ∀ v ∈ cells x, v.oneCell' = true) {l : List α} {v : Value} (h : v ∈ flatC cells l) : v.oneCell' = true := by
  obtain ⟨x, _, hx⟩ := List.mem_flatMap.1 h
  exact h1 x v hx

/-- The j-th cell of a thing that lies at p, in the spelling of the walk. -/
def subA (p : Addr) (j : Nat) : Addr := if j = 0 then p else ⟨p.block, p.off + j, none⟩
theorem subA_block (p : Addr) (j : Nat) : (subA p j).block = p.block := by unfold subA; split <;> rfl
/-- A thing lies at p. -/
def Lies (cells : α → List Value) (w : World) (p : Addr) (x : α) : Prop := ∀ j v, (cells x)[j]? = some v → w.cell? (subA p j) = some v
variable (cells q)
/-- What a slice reads as. -/
structure RowsOf (w : World) (A : Option Addr) (n c : Nat) (l : List α) : Prop where
  len : l.length = n
  le : n ≤ c
  max : c ≤ maxLen
  rd : 0 < n → ∃ a, A = some a ∧ a.block < w.heap.size ∧ ∀ i x, l[i]? = some x → Lies cells w (a.add (i * q)) x
  nil : A = none → c = 0
variable {cells q}
theorem Lies.keep {w w' : World} {p : Addr} {x : α} {row : Option Nat} (h : Lies cells w p x) (hg : w.grownBy w' row) (hp : p.block < w.heap.size) (hne : some p.block ≠ row) : Lies cells w' p x := fun j v hv =>
  (World.cell?_of_block (a := subA p j) (by rw [subA_block]; exact hg.block _ hp hne)).trans (h j v hv)
theorem Lies.below {w w' : World} {p : Addr} {x : α} {B : Nat} (h : Lies cells w p x) (hb : Below B w w') (hp : p.block < B) : Lies cells w' p x := fun j v hv =>
  (hb.cell (p := subA p j) (by rw [subA_block]; exact hp)).trans (h j v hv)
theorem RowsOf.keep {w w' : World} {A : Option Addr} {n c : Nat} {l : List α} {row : Option Nat} (h : RowsOf cells q w A n c l) (hg : w.grownBy w' row) (hne : ∀ a, A = some a → some a.block ≠ row) : RowsOf cells q w' A n c l :=
  ⟨h.len, h.le, h.max, fun hn => by
    obtain ⟨a, e, hlt, hx⟩ := h.rd hn
    exact ⟨a, e, Nat.lt_of_lt_of_le hlt hg.size, fun i x hi => (hx i x hi).keep hg (by rw [block_add]; exact hlt) (by rw [block_add]; exact hne a e)⟩, h.nil⟩
theorem RowsOf.below {w w' : World} {A : Option Addr} {n c : Nat} {l : List α} (h : RowsOf cells q w A n c l) (hb : Below w.heap.size w w') : RowsOf cells q w' A n c l :=
  ⟨h.len, h.le, h.max, fun hn => by
    obtain ⟨a, e, hlt, hx⟩ := h.rd hn
    exact ⟨a, e, Nat.lt_of_lt_of_le hlt hb.size, fun i x hi => (hx i x hi).below hb (by rw [block_add]; exact hlt)⟩, h.nil⟩
theorem RowsOf.at_ {w : World} {A : Option Addr} {n c k : Nat} {l : List α} (h : RowsOf cells q w A n c l) (hk : k < n) : ∃ a x, A = some a ∧ a.block < w.heap.size ∧ l[k]? = some x ∧ Lies cells w (a.add (k * q)) x := by
  obtain ⟨a, e, hlt, hx⟩ := h.rd (by omega)
  have hl : k < l.length := by rw [h.len]; exact hk
  exact ⟨a, l[k], e, hlt, List.getElem?_eq_getElem hl, hx k _ (List.getElem?_eq_getElem hl)⟩
theorem RowsOf.bare (w : World) : RowsOf cells q w none 0 0 ([] : List α) := ⟨rfl, Nat.le_refl _, Nat.zero_le _, fun h => absurd h (by omega), fun _ => rfl⟩
theorem RowsOf.of_own (hq : ∀ x, (cells x).length = q) {w : World} {base n c : Nat} {e : TypeId} {A : Option Addr} {l : List α} (hl : l.length = n) (h : w.ownsRow base e q (.slice A n c) n (flatC cells l)) : RowsOf cells q w A n c l := by
  have h0 := h
  rcases h.2 with ⟨hv, rfl⟩ | ⟨g, cap, cur, hv, hb, hg, hnc, hcm, hcs, htake⟩
  · injection hv with e1 e2 e3
    subst e1 e3
    exact ⟨hl, Nat.le_refl _, Nat.zero_le _, fun h => absurd h (by omega), fun _ => rfl⟩
  · injection hv with e1 e2 e3
    subst e1 e3
    have hlt : g < w.heap.size := by
      rcases Nat.lt_or_ge g w.heap.size with hlt | hge
      · exact hlt
      · rw [Array.getElem?_eq_none hge] at hg; cases hg
    refine ⟨hl, hnc, hcm, fun _ => ⟨_, rfl, hlt, fun i x hi j v hv => ?_⟩, fun h => by cases h⟩
    have hin : i < n := by rw [← hl]; exact (List.getElem?_eq_some_iff.1 hi).1
    have hj : j < q := by rw [← hq x]; exact (List.getElem?_eq_some_iff.1 hv).1
    have hlt2 : i * q + j < n * q := Nat.lt_of_lt_of_le (Nat.add_lt_add_left hj _) (by rw [← Nat.succ_mul]; exact Nat.mul_le_mul_right q hin)
    have key : w.cell? ⟨g, i * q + j, none⟩ = some v := by rw [h0.cellAt (i * q + j) hlt2, flat_at hq l i j x hi hj, hv]
    have e0 : (⟨g, 0, none⟩ : Addr).add (i * q) = ⟨g, i * q, none⟩ := by
      unfold Addr.add; split
      · rename_i h; rw [h]
      · simp
    rw [e0]
    unfold subA
    split
    · rename_i h; subst h; exact key
    · exact key
theorem own_shape {w : World} {base n q : Nat} {e : TypeId} {v : Value} {xs : List Value} (h : w.ownsRow base e q v n xs) : ∃ A c, v = .slice A n c ∧ ∀ a, A = some a → base ≤ a.block := by
  rcases h.2 with ⟨rfl, rfl⟩ | ⟨g, cap, cur, rfl, hb, _⟩
  · exact ⟨_, _, rfl, fun a h => by cases h⟩
  · exact ⟨_, _, rfl, fun a h => by cases h; exact hb⟩
theorem news_at (hq : ∀ x, (cells x).length = q) {w : World} {g : Nat} {t : TypeId} {cs : Array Value} {x : α} (h : w.heap[g]? = some (.cells cs t (0, 0))) (hc : cs.toList = cells x) : ∀ j u, (flatC cells [x])[j]? = some u → w.cell? ((⟨g, 0, none⟩ : Addr).add j) = some u := by
  intro j u hu
  rw [flat_one, ← hc, Array.getElem?_toList] at hu
  have e : ((⟨g, 0, none⟩ : Addr).add j) = ⟨g, j, none⟩ := by
    unfold Addr.add; split
    · rename_i h; rw [h]
    · simp
  rw [e]
  simp [World.cell?, h, hu]
end

end Go.Proofs.Ytkikfaeigoeogaa.P
