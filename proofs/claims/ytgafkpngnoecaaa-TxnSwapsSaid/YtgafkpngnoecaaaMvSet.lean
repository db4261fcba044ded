/- Events in a row of the call's own, one put in another's place. -/
import Derived.Test.YtgafkpngnoecaaaMvAbove
namespace Go.Proofs.Ytgafkpngnoecaaa.P
open Go.RowKit Go.Sort
set_option maxHeartbeats 1000000
set_option linter.unusedVariables false
set_option linter.unusedSimpArgs false
set_option maxRecDepth 100000

theorem own_rowE {w : World} {base g n cap : Nat} {xs : List Value} (hown : w.ownsRow base 74 8 (.slice (some ⟨g, 0, none⟩) n cap) n xs) : ∃ cur, base ≤ g ∧ RowAt w g 74 cur ∧ n ≤ cap ∧ cap ≤ maxLen ∧ cur.size = cap * 8 ∧ cur.toList.take (n * 8) = xs := by
  rcases hown.2 with ⟨h, _⟩ | ⟨g', cap', cur, hv, hb, hg, h1, h2, h3, h4⟩
  · cases h
  · injection hv with e1 e2 e3
    injection e1 with e1
    injection e1 with e1 _ _
    subst e1 e3
    exact ⟨cur, hb, hg, h1, h2, h3, h4⟩
theorem cellsE_split (l : List Ev) (i : Nat) (hi : i ≤ l.length) : cellsE l = cellsE (l.take i) ++ cellsE (l.drop i) ∧ (cellsE (l.take i)).length = i * 8 ∧ (cellsE (l.drop i)).length = (l.length - i) * 8 := by
  refine ⟨by rw [← cellsE_app, List.take_append_drop], ?_, ?_⟩
  · rw [cellsE_len, List.length_take, Nat.min_eq_left hi]
  · rw [cellsE_len, List.length_drop]
theorem own_setE (base g cap i m : Nat) (l : List Ev) (x : Ev) (w : World) (hl : l.length = i + 1 + m) (hown : w.ownsRow base 74 8 (.slice (some ⟨g, 0, none⟩) (i + 1 + m) cap) (i + 1 + m) (cellsE l)) :
    (w.setCells g (i * 8) x.cells).ownsRow base 74 8 (.slice (some ⟨g, 0, none⟩) (i + 1 + m) cap) (i + 1 + m) (cellsE (l.take i ++ x :: l.drop (i + 1))) ∧ Below base w (w.setCells g (i * 8) x.cells) := by
  obtain ⟨cur, hbg, hrow, hnc, hcm, hcs, htake⟩ := own_rowE hown
  refine ⟨RowAt.own (RowAt.setCells _ w _ _ hrow) hbg hnc hcm (by rw [layC_size, hcs]) ?_, below_setCells _ _ _ (Below.refl _ _) hbg⟩
  have hx8 : x.cells.length = 8 := rfl
  obtain ⟨hsp, hl1, hl2⟩ := cellsE_split l i (by omega)
  obtain ⟨hsp', hl1', hl2'⟩ := cellsE_split l (i + 1) (by omega)
  rw [layC_list _ _ _ (by rw [hx8]; omega), hx8]
  have e1 : cur.toList.take (i * 8) = cellsE (l.take i) := by
    have e2 : cur.toList.take (i * 8) = (cellsE l).take (i * 8) := by rw [← htake, List.take_take]; congr 1; omega
    rw [e2, hsp, List.take_left' hl1]
  have e2 : cur.toList.drop (i * 8 + 8) = cellsE (l.drop (i + 1)) ++ cur.toList.drop ((i + 1 + m) * 8) := by
    have h0 : cur.toList = cellsE l ++ cur.toList.drop ((i + 1 + m) * 8) := by rw [← htake, List.take_append_drop]
    have h1 : (cellsE l).drop (i * 8 + 8) = cellsE (l.drop (i + 1)) := by rw [hsp', List.drop_left' (by rw [hl1']; omega)]
    conv => lhs; rw [h0]
    rw [List.drop_append_of_le_length (by rw [cellsE_len]; omega), h1]
  rw [e1, e2, show l.take i ++ x :: l.drop (i + 1) = l.take i ++ ([x] ++ l.drop (i + 1)) from rfl, cellsE_app, cellsE_app, cellsE_one]
  rw [show cellsE (l.take i) ++ x.cells ++ (cellsE (l.drop (i + 1)) ++ cur.toList.drop ((i + 1 + m) * 8)) = (cellsE (l.take i) ++ (x.cells ++ cellsE (l.drop (i + 1)))) ++ cur.toList.drop ((i + 1 + m) * 8) by simp]
  exact List.take_left' (by rw [List.length_append, List.length_append, hl1, hx8, hl2']; omega)
/-- Wherever in the row. -/
theorem own_atE (base g cap i n : Nat) (l : List Ev) (x : Ev) (w : World) (hl : l.length = n) (hi : i < n) (hown : w.ownsRow base 74 8 (.slice (some ⟨g, 0, none⟩) n cap) n (cellsE l)) :
    (w.setCells g (i * 8) x.cells).ownsRow base 74 8 (.slice (some ⟨g, 0, none⟩) n cap) n (cellsE (l.take i ++ x :: l.drop (i + 1))) ∧ Below base w (w.setCells g (i * 8) x.cells) := by
  obtain ⟨m, rfl⟩ : ∃ m, n = i + 1 + m := ⟨n - (i + 1), by omega⟩
  exact own_setE base g cap i m l x w hl hown
/-- How far the kept ones have been put together: i of them from the first j; what lies behind j is as it was. -/
structure KeptTo (l M : List Ev) (t : Int) (i j : Nat) : Prop where
  len : M.length = l.length
  ij : i ≤ j
  pre : M.take i = (l.take j).filter fun e => !goneB t e
  post : M.drop j = l.drop j
theorem KeptTo.skip {l M : List Ev} {t : Int} {i j : Nat} {x : Ev} (h : KeptTo l M t i j) (hx : l[j]? = some x) (hg : goneB t x = true) : KeptTo l M t i (j + 1) := by
  refine ⟨h.len, Nat.le_succ_of_le h.ij, ?_, ?_⟩
  · rw [take_succ l j x hx, List.filter_append, h.pre]
    simp at hg; simp [hg]
  · have := congrArg (List.drop 1) h.post
    rwa [List.drop_drop, List.drop_drop] at this
theorem KeptTo.more {l M : List Ev} {t : Int} {i j : Nat} {x : Ev} (h : KeptTo l M t i j) (hx : l[j]? = some x) (hg : goneB t x = false) : KeptTo l (M.take i ++ x :: M.drop (i + 1)) t (i + 1) (j + 1) := by
  have hj : j < l.length := (List.getElem?_eq_some_iff.1 hx).1
  have hij := h.ij
  have hl := h.len
  have hti : (M.take i).length = i := by rw [List.length_take]; omega
  refine ⟨?_, by omega, ?_, ?_⟩
  · rw [List.length_append, List.length_cons, List.length_drop, hti]; omega
  · rw [take_succ l j x hx, List.filter_append, ← h.pre, show M.take i ++ x :: M.drop (i + 1) = (M.take i ++ [x]) ++ M.drop (i + 1) by simp, List.take_left' (by simp [hti])]
    have hgt : (!goneB t x) = true := by rw [hg]; rfl
    rw [List.filter_cons_of_pos (p := fun e => !goneB t e) hgt]; rfl
  · have hp := congrArg (List.drop 1) h.post
    rw [List.drop_drop, List.drop_drop] at hp
    have h1 : j + 1 = (M.take i ++ [x]).length + (j - i) := by rw [List.length_append, hti, List.length_singleton]; omega
    have e : (M.take i ++ x :: M.drop (i + 1)).drop (j + 1) = (M.drop (i + 1)).drop (j - i) := by
      rw [show M.take i ++ x :: M.drop (i + 1) = (M.take i ++ [x]) ++ M.drop (i + 1) by simp, h1, ← List.drop_drop, List.drop_left]
    rw [e, List.drop_drop, show i + 1 + (j - i) = j + 1 by omega]
    exact hp
end Go.Proofs.Ytgafkpngnoecaaa.P
