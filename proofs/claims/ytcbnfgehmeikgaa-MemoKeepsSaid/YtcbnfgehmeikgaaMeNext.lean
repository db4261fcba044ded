/- Layer 9: memos that are kept on and on; a box for what is told that is made ahead of the call or behind it. -/
import Derived.Test.YtcbnfgehmeikgaaMeLive
import Derived.Test.YtcbnfgehmeikgaaMeUse
import Derived.Test.YtcbnfgehmeikgaaMeOpen
import Derived.Test.YtcbnfgehmeikgaaKvOpen
import Derived.Test.YtcbnfgehmeikgaaKeyTwo
namespace Go.Proofs.Ytcbnfgehmeikgaa.P
open Go.RowKit Go.Sort
set_option maxHeartbeats 1000000
set_option linter.unusedVariables false
set_option linter.unusedSimpArgs false
set_option maxRecDepth 100000
theorem keep_sub {ρ : Type} {m : Mos ρ} {who seq : Int} {r : ρ} : (∀ x ∈ (keepM m who seq r).l, x ∈ m.l ∨ x = ⟨who, seq, r⟩) ∧ (keepM m who seq r).l.length ≤ m.l.length + 1 ∧ (keepM m who seq r).old.length ≤ m.old.length + 1 := by
  by_cases hk : keepE m who seq = 0
  · rw [keepM_ok hk]
    have h0 : ∀ x ∈ (addM m who seq r).l, x ∈ m.l ∨ x = ⟨who, seq, r⟩ := fun x hx => by
      rcases List.mem_append.1 hx with h | h
      · exact .inl h
      · exact .inr (List.mem_singleton.1 h)
    have h1 : (addM m who seq r).l.length = m.l.length + 1 := by show (m.l ++ [_]).length = _; simp
    have hr : ∀ (old : List (Int × Int)) (a s : Int), (raise old a s).length ≤ old.length + 1 := by
      intro old a s
      induction old with
      | nil => simp [raise]
      | cons x t ih => unfold raise; split <;> simp <;> omega
    by_cases h4 : 4 < (ofL (addM m who seq r).l who).length
    · rw [fitM_many h4]
      refine ⟨fun x hx => h0 x ((drop_sub _ _ _).subset hx), ?_, hr _ _ _⟩
      have := (drop_sub (addM m who seq r).l who (leastL (ofL (addM m who seq r).l who))).length_le
      show (dropM _ _ _).length ≤ _
      omega
    · rw [fitM_few h4]; exact ⟨h0, by omega, by show m.old.length ≤ _; omega⟩
  · rw [keepM_err hk]; exact ⟨fun x hx => .inl hx, by omega, by omega⟩
def SlimR (y : Rp) : Prop := y.kvs.length ≤ 1000000 ∧ y.evs.length ≤ 1000000
structure Fit (m : Mos Rp) (a b : Nat) : Prop where
  l : m.l.length ≤ a
  old : m.old.length ≤ b
  slim : ∀ x ∈ m.l, SlimR x.rp
theorem Fit.keep {m : Mos Rp} {a b : Nat} (h : Fit m a b) (who seq : Int) {r : Rp} (hr : SlimR r) : Fit (keepM m who seq r) (a + 1) (b + 1) := by
  obtain ⟨h1, h2, h3⟩ := keep_sub (m := m) (who := who) (seq := seq) (r := r)
  refine ⟨Nat.le_trans h2 (by have := h.l; omega), Nat.le_trans h3 (by have := h.old; omega), fun x hx => ?_⟩
  rcases h1 x hx with h4 | rfl
  · exact h.slim x h4
  · exact hr
theorem Fit.use {m : GMos} {w : World} {A : Option Addr} {n c : Nat} {B : Option Addr} {k d a b : Nat} (h : Fit (plainM m) a b) (hm : MosAt w m A n c B k d) : n ≤ a ∧ k ≤ b ∧ Slim m.1 := by
  have h1 := h.l
  have h2 := h.old
  refine ⟨?_, ?_, fun g hg => h.slim g.me (List.mem_map.2 ⟨g, hg, rfl⟩)⟩
  · rw [← hm.l.row.len]; simpa [plainM] using h1
  · rw [← hm.old.len]; exact h2
theorem Fit.few {m : GMos} (h : fewM m = true) : Fit (plainM m) 40 20 := by
  obtain ⟨h1, h2, h3⟩ := fewM_iff.1 h
  refine ⟨by simpa [plainM] using h1, h2, fun x hx => ?_⟩
  obtain ⟨g, hg, rfl⟩ := List.mem_map.1 hx
  exact fewM_slim h g hg
/-- What stands behind 'next, _ := memo.Keep(..)'. -/
def NextAt (m : GMos) (A : Option Addr) (n : Nat) (B : Option Addr) (k : Nat) (who seq : Int) (y : Rp) (V : World) (q ev : Value) (wx : World) : Prop :=
  ∃ (g : Nat) (m2 : GMos) (A2 : Option Addr) (n2 c2 : Nat) (B2 : Option Addr) (k2 d2 : Nat), q = .pointer (some ⟨g, 0, none⟩) ∧ ev = .int .i64 (keepE (plainM m) who seq) ∧ V.heap.size ≤ g ∧ Own wx g 25 (moA A2 n2 c2 B2 k2 d2) ∧ MosAt wx m2 A2 n2 c2 B2 k2 d2 ∧ plainM m2 = keepM (plainM m) who seq y ∧ Below V.heap.size V wx ∧
    (∀ b, b < V.heap.size → MosOff m A n B k b → MosOff m2 A2 n2 B2 k2 b) ∧ MosOff m2 A2 n2 B2 k2 g
theorem NextAt.new {m m2 : GMos} {A A2 : Option Addr} {n n2 c2 : Nat} {B B2 : Option Addr} {k k2 d2 : Nat} {who seq : Int} {y : Rp} {V u : World} (hp : plainM m2 = keepM (plainM m) who seq y) (hm : MosAt u m2 A2 n2 c2 B2 k2 d2) (hb : Below V.drew.heap.size V.drew u) (hf : ∀ b, b < V.drew.heap.size → MosOff m A n B k b → MosOff m2 A2 n2 B2 k2 b) :
    NextAt m A n B k who seq y V (.pointer (some ⟨u.heap.size, 0, none⟩)) (.int .i64 (keepE (plainM m) who seq)) (u.alloc (.cells #[.slice A2 n2 c2, .slice B2 k2 d2] 25)) := by
  have hb2 : Below V.heap.size V u := (new_drew V).trans hb
  exact ⟨u.heap.size, m2, A2, n2, c2, B2, k2, d2, rfl, rfl, hb2.size, own_new u _ _, hm.keep (new1 u _), hp, then_ hb2 (new1 u _), hf, hm.off (Nat.le_refl _)⟩
theorem NextAt.old {m m2 : GMos} {A A2 : Option Addr} {n c n2 c2 : Nat} {B B2 : Option Addr} {k d k2 d2 : Nat} {who seq : Int} {y : Rp} {V u : World} (h0 : MosAt V m A n c B k d) (hp : plainM m2 = keepM (plainM m) who seq y) (hm : MosAt u m2 A2 n2 c2 B2 k2 d2) (hb : Below (V.alloc zMo).drew.heap.size (V.alloc zMo).drew u) (hf : ∀ b, b < (V.alloc zMo).drew.heap.size → MosOff m A n B k b → MosOff m2 A2 n2 B2 k2 b) :
    NextAt m A n B k who seq y V (.pointer (some ⟨V.heap.size, 0, none⟩)) (.int .i64 (keepE (plainM m) who seq)) ((u.setCell ⟨V.heap.size, 0, none⟩ (.slice A2 n2 c2)).setCell ⟨V.heap.size, 1, none⟩ (.slice B2 k2 d2)) := by
  have hs : (V.alloc zMo).drew.heap.size = V.heap.size + 1 := by show (V.heap.push _).size = _; simp
  have hoff : MosOff m2 A2 n2 B2 k2 V.heap.size := hf _ (by omega) (h0.off (Nat.le_refl _))
  have hO : Own u V.heap.size 25 zMoC := (Own.below (own_new V zMoC 25) (new_drew _)).below hb
  have g1 : u.grownBy ((u.setCell ⟨V.heap.size, 0, none⟩ (.slice A2 n2 c2)).setCell ⟨V.heap.size, 1, none⟩ (.slice B2 k2 d2)) (some V.heap.size) := Lib.grownBy_trans (Lib.grownBy_setCell u _ 0 _) (Lib.grownBy_setCell _ _ 1 _)
  have hb2 : Below V.heap.size V u := then_ (then_ (new1 V zMo) (new_drew _)) hb
  refine ⟨V.heap.size, m2, A2, n2, c2, B2, k2, d2, rfl, rfl, Nat.le_refl _, (hO.set 0 _).set 1 _, hm.grown g1 hoff, hp, (hb2.setCell (p := ⟨_, 0, none⟩) (Nat.le_refl _) _).setCell (p := ⟨_, 1, none⟩) (Nat.le_refl _) _, fun b hlt ho => hf b (by omega) ho, hoff⟩
theorem keep4 {V u : World} {gk j : Nat} {A : Option Addr} {n c : Nat} {B : Option Addr} {k d : Nat} {la : Addr} {x1 x2 : Int} (hk : Own V gk 25 (moA A n c B k d)) (h0 : V.cell? (la.add (j * 2)) = some (.int .i64 x1)) (h1 : V.cell? ⟨(la.add (j * 2)).block, (la.add (j * 2)).off + 1, none⟩ = some (.int .i64 x2)) (hb : Below V.heap.size V u) :
    u.cell? ⟨gk, 0, none⟩ = some (.slice A n c) ∧ u.cell? ⟨gk, 1, none⟩ = some (.slice B k d) ∧ u.cell? (la.add (j * 2)) = some (.int .i64 x1) ∧ u.cell? ⟨(la.add (j * 2)).block, (la.add (j * 2)).off + 1, none⟩ = some (.int .i64 x2) :=
  ⟨(hk.below hb).cell 0 _ rfl, (hk.below hb).cell 1 _ rfl, (hb.cell (World.block_lt_of_cell? V _ h0)).trans h0, (hb.cell (p := ⟨(la.add (j * 2)).block, (la.add (j * 2)).off + 1, none⟩) (World.block_lt_of_cell? V _ h1)).trans h1⟩
abbrev r77 : Rp := ⟨0, 0, 0, 77, 0, 0, true, [], []⟩
theorem r77_at (w : World) : RpAt w r77 none 0 0 none 0 0 := ⟨inI0, inI0, inI0, inI_small (by decide), inI0, inI0, kv_of_rows (RowsOf.bare _) (fun x hx => by cases hx), ev_of_rows (RowsOf.bare _) (fun x hx => by cases hx)⟩
theorem r77_slim : SlimR r77 := ⟨by decide, by decide⟩
theorem rk_slim (i : Int) : SlimR (Rk i) := ⟨by show 0 ≤ _; omega, by show 0 ≤ _; omega⟩
/-- A pair of the list, as it lies: an array of two. -/
theorem pair_at {w : World} {A : Option Addr} {n c k : Nat} {l : List (Int × Int)} (h : RowsOf pairC 2 w A n c l) (hk : k < n) : ∃ a x, A = some a ∧ l[k]? = some x ∧ w.cell? (a.add (k * 2)) = some (.int .i64 x.1) ∧ w.cell? ⟨(a.add (k * 2)).block, (a.add (k * 2)).off + 1, none⟩ = some (.int .i64 x.2) := by
  obtain ⟨a, x, e, hb, hx, hl⟩ := RowsOf.at_ h hk
  exact ⟨a, x, e, hx, hl 0 _ rfl, hl 1 _ rfl⟩
end Go.Proofs.Ytcbnfgehmeikgaa.P
