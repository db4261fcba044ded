/- Texts compared; a thing put into a row of the call's own. -/
import Derived.Test.YtkikfaeigoeogaaKvTake
import Derived.Test.YtkikfaeigoeogaaKvCmp
import Derived.Lib.Bytealg
import Derived.Lib.Overlaps
namespace Go.Proofs.Ytkikfaeigoeogaa.P
open Go.RowKit Go.Sort
set_option maxHeartbeats 400000
set_option linter.unusedVariables false
set_option maxRecDepth 100000

/-- At the end. -/
theorem insert_end (base : Nat) (A : Option Addr) (c B : Nat) (l : List KV) (x : KV) (w : World) (hown : w.ownsRow base 36 6 (.slice A l.length c) l.length (cellsL l)) (hx : w.heap[B]? = some (x.obj 36)) (hn : l.length ≤ 1000000) (hb : base ≤ w.heap.size) :
    Calls Try.prog 70 #[.slice A l.length c, .int .i64 (l.length : Int), .slice (some ⟨B, 0, none⟩) 1 1] w (OwnEnd base (l ++ [x]) w) := by
  obtain ⟨i0, hi0, hz0, hz1, hz2⟩ := info_parts kv_info
  have fin : ∀ (v1 : Value) (w1 : World), w1.ownsRow base 36 6 v1 (l.length + 1) (cellsL l ++ cellsL [x]) → w.grownBy w1 (Value.slice A l.length c).ownBlock →
      ∃ A1 c1, v1 = .slice A1 (l ++ [x]).length c1 ∧ w1.ownsRow base 36 6 (.slice A1 (l ++ [x]).length c1) (l ++ [x]).length (cellsL (l ++ [x])) ∧ Below base w w1 := fun v1 w1 h1 h2 => by
    have h3 := own_more h1
    obtain ⟨A1, c1, rfl⟩ := own_form h3
    exact ⟨A1, c1, rfl, h3, (Below.refl _ _).grown h2 hb (fun g hg => (hown.lt g hg).1)⟩
  have FIN := Lib.hid fin
  clear fin
  have HO := Lib.hid hown
  have HX := Lib.hid (news_one hx)
  have hnc : l.length ≤ c ∧ c ≤ maxLen := by
    rcases hown.2 with ⟨h, h0⟩ | ⟨g, cap, cur, hv, _, _, h1, h2, _⟩
    · rw [h0]; exact ⟨Nat.zero_le _, by injection h with _ _ h; rw [h]; exact Nat.zero_le _⟩
    · injection hv with _ _ h; subst h; exact ⟨h1, h2⟩
  obtain ⟨hnc, hcm⟩ := hnc
  unfold maxLen at hcm
  clear hown hx
  generalize hnl : l.length = n at *
  clear hnl
  go_enter Try.func70, Try.ntmps70
  go_wp2_with (at_builtin; refine wpList_append_own_at _ rfl (.tmp 23) (.tmp 24) 22 rfl base 36 i0 zeroAgg 6 64 Try.underlying22 hi0 hz0 hz1 hz2 rfl (by omega) (.slice A n c) n (cellsL l) rfl HO.out ⟨B, 0, none⟩ 1 1 (cellsL [x]) rfl rfl HX.out (fun u hu => cellsL_one' hu) (by simp only [maxLen]; omega) (by omega) hb ?_; intro v1 w1 hown1 hg1 hnil1 hat1)
  all_goals
    obtain ⟨A1, c1, rfl, hown2, hb2⟩ := FIN.out v1 w1 hown1 hg1
    have HO2 := Lib.hid hown2
    have HB2 := Lib.hid hb2
    clear hown1 hg1 hnil1 hat1 hown2 hb2
    go_wp2
    go_ret
    exact ⟨A1, c1, rfl, HO2.out, HB2.out⟩

theorem own_row {w : World} {base g n cap : Nat} {xs : List Value} (hown : w.ownsRow base 36 6 (.slice (some ⟨g, 0, none⟩) n cap) n xs) : ∃ cur, base ≤ g ∧ RowAt w g 36 cur ∧ n ≤ cap ∧ cap ≤ maxLen ∧ cur.size = cap * 6 ∧ cur.toList.take (n * 6) = xs := by
  rcases hown.2 with ⟨h, _⟩ | ⟨g', cap', cur, hv, hb, hg, h1, h2, h3, h4⟩
  · cases h
  · injection hv with e1 e2 e3
    injection e1 with e1
    injection e1 with e1 _ _
    subst e1 e3
    exact ⟨cur, hb, hg, h1, h2, h3, h4⟩
theorem overlaps_not (w : World) (g B o lb cb : Nat) (x : KV) (cur : Array Value) (hg : RowAt w g 36 cur) (hB : w.heap[B]? = some (x.obj 36)) (hne : B ≠ g) (hs : cur.size ≠ 0) :
    (callFunc 80 #[.slice (some ⟨B, 0, none⟩) 1 1, .slice (some ⟨g, o, none⟩) lb cb]).run Try.prog w = .ok (.value (.bool false)) w := by
  obtain ⟨i0, hi0, hz0, hz1, hz2⟩ := info_parts kv_info
  rw [run_callFunc_extern Try.func80 (by kernel_rfl) (by kernel_rfl) (by kernel_rfl) (e := Extern.SlicesOverlaps.overlaps #[22, 22] #[4]) (by kernel_rfl),
    Lib.run_overlaps_apart w 22 4 36 Try.underlying22 6 (fun w => by simp [sizeOf, typeInfo, hi0, hz1]) ⟨B, 0, none⟩ ⟨g, o, none⟩ 1 1 lb cb hne 36 36 6 cur.size (by simp [World.shape?, hB]) (by unfold RowAt at hg; simp [World.shape?, hg]) hs (by simp [World.frozen?, hB]) (by simp [World.frozen?, hB])]
  rfl

/-- The cells of a list, from its parts. -/
theorem cells_split (l : List KV) (i : Nat) (hi : i ≤ l.length) : cellsL l = cellsL (l.take i) ++ cellsL (l.drop i) ∧ (cellsL (l.take i)).length = i * 6 ∧ (cellsL (l.drop i)).length = (l.length - i) * 6 := by
  refine ⟨by rw [← cellsL_app, List.take_append_drop], ?_, ?_⟩
  · rw [cellsL_len, List.length_take, Nat.min_eq_left hi]
  · rw [cellsL_len, List.length_drop]

/-- In the midst, where there is room. -/
theorem insert_shift (base g cap i m B : Nat) (l : List KV) (x : KV) (w : World) (hl : l.length = i + 1 + m) (hown : w.ownsRow base 36 6 (.slice (some ⟨g, 0, none⟩) (i + 1 + m) cap) (i + 1 + m) (cellsL l)) (hx : w.heap[B]? = some (x.obj 36)) (hgB : B ≠ g)
    (hn : i + 1 + m ≤ 1000000) (hroom : i + 1 + m + 1 ≤ cap) :
    Calls Try.prog 70 #[.slice (some ⟨g, 0, none⟩) (i + 1 + m) cap, .int .i64 i, .slice (some ⟨B, 0, none⟩) 1 1] w fun e w' => e = .returned (.slice (some ⟨g, 0, none⟩) (i + 1 + m + 1) cap) ∧
      w'.ownsRow base 36 6 (.slice (some ⟨g, 0, none⟩) (i + 1 + m + 1) cap) (i + 1 + m + 1) (cellsL (l.take i ++ x :: l.drop i)) ∧ Below base w w' := by
  obtain ⟨i0, hi0, hz0, hz1, hz2⟩ := info_parts kv_info
  have hsz : (Try.prog.info? 36).map (·.size) = some 6 := by rw [hi0]; simp [hz1]
  obtain ⟨cur, hbg, hrow, hnc, hcm, hcs, htake⟩ := own_row hown
  have hcm' : cap ≤ 9223372036854775807 := by unfold maxLen at hcm; omega
  obtain ⟨hsp, hl1, hl2⟩ := cells_split l i (by omega)
  have hl2' : (cellsL (l.drop i)).length = (1 + m) * 6 := by rw [hl2, hl]; omega
  have hcell : ∀ t, t < (i + 1 + m) * 6 → w.cell? ⟨g, t, none⟩ = (cellsL l)[t]? := fun t ht => by
    rw [hrow.cell t, ← htake, List.getElem?_take_of_lt ht, Array.getElem?_toList]
  obtain ⟨W1, hW1⟩ : ∃ W1, W1 = w.drew.setCells g ((i + 1) * 6) (cellsL (l.drop i)) := ⟨_, rfl⟩
  have hrow1 : RowAt W1 g 36 (layC cur ((i + 1) * 6) (cellsL (l.drop i))) := by rw [hW1]; exact RowAt.setCells _ w.drew cur _ hrow
  have hov := overlaps_not w g B ((i + 1) * 6)
  have HOV : Hid (∀ lb cb, (callFunc 80 #[.slice (some ⟨B, 0, none⟩) 1 1, .slice (some ⟨g, (i + 1) * 6, none⟩) lb cb]).run Try.prog w = .ok (.value (.bool false)) w) := Lib.hid (fun lb cb => hov lb cb x cur hrow hx hgB (by rw [hcs]; omega))
  clear hov
  have hcp1 : Hid (∀ ty dc sc, (Builtin.copy_ #[22, 22] ty #[.slice (some ⟨g, (i + 1) * 6, none⟩) (i + 1 + m - i) dc, .slice (some ⟨g, i * 6, none⟩) (i + 1 + m + 1 - i) sc]).run Try.prog w.drew = .ok (goInt (Nat.min (i + 1 + m + 1 - i) (i + 1 + m - i))) W1) := Lib.hid (fun ty dc sc => by
    rw [hW1]
    refine run_copy_rows w.drew _ _ ty 36 6 g ((i + 1) * 6) _ dc ⟨g, i * 6, none⟩ _ sc (cellsL (l.drop i)) Try.underlying22 hsz (by rw [hl2', show Nat.min (i + 1 + m + 1 - i) (i + 1 + m - i) = 1 + m by simp only [Nat.min_def]; split <;> omega]) (fun j v hj => ?_) (fun j hj => ?_) (fun j hj => hrow.frozen _) (fun v hv => cellsL_one' hv)
    · have hjl : j < (cellsL (l.drop i)).length := (List.getElem?_eq_some_iff.1 hj).1
      rw [Addr.add_lit]
      refine (hcell _ (by omega)).trans ?_
      rw [hsp, List.getElem?_append_right (by omega), hl1, show i * 6 + j - i * 6 = j by omega]
      exact hj
    · show (w.cell? _).isSome = true
      rw [hrow.cell, Array.getElem?_eq_getElem (by omega)]
      rfl)
  have hcp2 : Hid (∀ ty dc sc, (Builtin.copy_ #[22, 22] ty #[.slice (some ⟨g, i * 6, none⟩) (i + 1 + m + 1 - i) dc, .slice (some ⟨B, 0, none⟩) 1 sc]).run Try.prog W1 = .ok (goInt (Nat.min 1 (i + 1 + m + 1 - i))) (W1.setCells g (i * 6) (cellsL [x]))) := Lib.hid (fun ty dc sc => by
    refine run_copy_rows W1 _ _ ty 36 6 g (i * 6) _ dc ⟨B, 0, none⟩ _ sc (cellsL [x]) Try.underlying22 hsz (by rw [cellsL_len, show Nat.min 1 (i + 1 + m + 1 - i) = 1 by simp only [Nat.min_def]; split <;> omega]; rfl) (fun j v hj => ?_) (fun j hj => ?_) (fun j hj => hrow1.frozen _) (fun v hv => cellsL_one' hv)
    · rw [hW1, World.cell?_setCells_out _ _ _ _ _ (fun h _ => by exact absurd (by rw [block_add] at h; exact h) hgB)]
      exact news_one hx j v hj
    · rw [cellsL_len] at hj
      simp at hj
      rw [hrow1.cell, Array.getElem?_eq_getElem (by rw [layC_size]; omega)]
      rfl)
  have hfin : Hid ((W1.setCells g (i * 6) (cellsL [x])).ownsRow base 36 6 (.slice (some ⟨g, 0, none⟩) (i + 1 + m + 1) cap) (i + 1 + m + 1) (cellsL (l.take i ++ x :: l.drop i))) := by
    refine RowAt.own (RowAt.setCells _ W1 _ _ hrow1) hbg hroom hcm (by rw [layC_size, layC_size, hcs]) ?_
    have hx6 : (cellsL [x]).length = 6 := rfl
    rw [layC_list _ _ _ (by rw [layC_size, hx6]; omega), layC_list _ _ _ (by rw [hl2']; omega), hl2', hx6]
    have e1 : cur.toList.take (i * 6) = cellsL (l.take i) := by
      have e2 : cur.toList.take (i * 6) = (cellsL l).take (i * 6) := by rw [← htake, List.take_take]; congr 1; omega
      rw [e2, hsp, List.take_left' hl1]
    have e3 : (cur.toList.take ((i + 1) * 6)).length = (i + 1) * 6 := by rw [List.length_take, Array.length_toList, hcs]; omega
    have hmid : (cellsL [x] ++ cellsL (l.drop i)).length = (1 + (1 + m)) * 6 := by rw [List.length_append, hx6, hl2']; omega
    rw [show l.take i ++ x :: l.drop i = l.take i ++ ([x] ++ l.drop i) from rfl, cellsL_app, cellsL_app]
    have e5 : (cur.toList.take ((i + 1) * 6) ++ cellsL (l.drop i) ++ cur.toList.drop ((i + 1) * 6 + (1 + m) * 6)).take (i * 6) = cellsL (l.take i) := by
      rw [List.append_assoc, List.take_append_of_le_length (by omega), List.take_take, Nat.min_eq_left (by omega), e1]
    have e6 : (cur.toList.take ((i + 1) * 6) ++ cellsL (l.drop i) ++ cur.toList.drop ((i + 1) * 6 + (1 + m) * 6)).drop (i * 6 + 6) = cellsL (l.drop i) ++ cur.toList.drop ((i + 1) * 6 + (1 + m) * 6) := by
      rw [List.append_assoc, List.drop_append_of_le_length (by omega), List.drop_of_length_le (by omega), List.nil_append]
    rw [e5, e6, show cellsL (l.take i) ++ cellsL [x] ++ (cellsL (l.drop i) ++ cur.toList.drop ((i + 1) * 6 + (1 + m) * 6)) = (cellsL (l.take i) ++ (cellsL [x] ++ cellsL (l.drop i))) ++ cur.toList.drop ((i + 1) * 6 + (1 + m) * 6) by simp]
    exact List.take_left' (by rw [List.length_append, hl1, hmid]; omega)
  have hbel : Hid (Below base w (W1.setCells g (i * 6) (cellsL [x]))) := by
    refine below_setCells _ _ _ ?_ hbg
    rw [hW1]
    exact below_setCells _ _ _ (Below.drew (Below.refl _ _)) hbg
  have hz3 : ¬ ((i : Int) = (i : Int) + 1 + (m : Int)) := by omega
  have hw1 : IntKind.i64.wrap ((i : Int) + 1) = (i : Int) + 1 := by rw [IntKind.wrap_i64]; omega
  have hb1 : (0 : Int) ≤ (i : Int) + 1 := by omega
  have htn : ((i : Int) + 1).toNat = i + 1 := by omega
  have hb3 : (i : Int) + 1 ≤ (i : Int) + 1 + (m : Int) + 1 := by omega
  have hb2 : ¬ (cap = i + 1) := by omega
  have hb4 : ¬ (cap = i) := by omega
  have hb5 : i + 1 ≤ cap := by omega
  have hb6 : (i : Int) ≤ (i : Int) + 1 + (m : Int) + 1 := by omega
  have hov' := HOV.out
  have hcp1' := hcp1.out
  clear hW1 hrow1 hown hcell hsp hl1 hl2 hl2' hrow hcs htake hl hz0 hz2 hx
  go_enter Try.func70, Try.ntmps70
  go_wp2_with (simp only [hov'])
  go_region_law (refine step_copy_eq rfl _ _ 22 22 rfl _ _ (by simp [Act.eval, Act.put]) (by simp [Act.eval, Act.put]) (hcp1' _ _ _) ?_)
  have hcp2' := hcp2.out
  go_wp2
  go_ret
  exact ⟨rfl, hfin.out, hbel.out⟩

/-- In the midst, where there is no room: a new row. -/
theorem insert_grow (base g cap i m B : Nat) (l : List KV) (x : KV) (w : World) (hl : l.length = i + 1 + m) (hown : w.ownsRow base 36 6 (.slice (some ⟨g, 0, none⟩) (i + 1 + m) cap) (i + 1 + m) (cellsL l)) (hx : w.heap[B]? = some (x.obj 36))
    (hn : i + 1 + m ≤ 1000000) (hroom : cap < i + 1 + m + 1) (hb : base ≤ w.heap.size) :
    Calls Try.prog 70 #[.slice (some ⟨g, 0, none⟩) (i + 1 + m) cap, .int .i64 i, .slice (some ⟨B, 0, none⟩) 1 1] w (OwnEnd base (l.take i ++ x :: l.drop i) w) := by
  obtain ⟨i0, hi0, hz0, hz1, hz2⟩ := info_parts kv_info
  have hsz : (Try.prog.info? 36).map (·.size) = some 6 := by rw [hi0]; simp [hz1]
  obtain ⟨cur, hbg, hrow, hnc, hcm, hcs, htake⟩ := own_row hown
  obtain rfl : cap = i + 1 + m := by omega
  obtain ⟨hsp, hl1, hl2⟩ := cells_split l i (by omega)
  have hl2' : (cellsL (l.drop i)).length = (1 + m) * 6 := by rw [hl2, hl]; omega
  have hcell : ∀ t, t < (i + 1 + m) * 6 → w.cell? ⟨g, t, none⟩ = (cellsL l)[t]? := fun t ht => by
    rw [hrow.cell t, ← htake, List.getElem?_take_of_lt ht, Array.getElem?_toList]
  have hgw := hrow.lt
  have hold : (Builtin.firstCells i0.size i (.slice (some ⟨g, 0, none⟩) i (i + 1 + m))).run Try.prog w.drew = .ok (cellsL (l.take i)).toArray w.drew := by
    rw [hz1]
    refine run_firstCells_some w.drew 6 i ⟨g, 0, none⟩ i (i + 1 + m) (cellsL (l.take i)) hl1 (fun j v hj => ?_)
    have hjl : j < (cellsL (l.take i)).length := (List.getElem?_eq_some_iff.1 hj).1
    rw [Addr.add_lit, Nat.zero_add]
    refine (hcell j (by omega)).trans ?_
    rw [hsp, List.getElem?_append_left hjl]
    exact hj
  have hap := fun ty => Lib.run_append_grow_zeros (P := Try.prog) w 22 3 ty 36 i0 zeroAgg .i64 .i64 Try.underlying22 Try.underlying3 hi0 hz0 (some ⟨g, 0, none⟩) i (i + 1 + m) (cellsL (l.take i)) hold (2 + m) (by omega) (by omega) (by omega) (by omega) (by rw [hz2]; omega) (by rw [hz2, show i + (2 + m) = i + 1 + m + 1 by omega]; exact growslice_fits (by omega) (by omega))
  obtain ⟨G, hG⟩ : ∃ G, G = grownCap w (i + (2 + m)) (i + 1 + m) 36 := ⟨_, rfl⟩
  obtain ⟨ROW, hROW⟩ : ∃ ROW : Array Value, ROW = (cellsL (l.take i)).toArray ++ Builtin.zeroCells zeroAgg.cells (2 + m) ++ Builtin.zeroCells zeroAgg.cells (G - (i + (2 + m))) := ⟨_, rfl⟩
  rw [← hG, ← hROW] at hap
  have hGn : i + (2 + m) ≤ G := by rw [hG]; exact grownCap_ge w _ _ _
  have hGm : G ≤ maxLen := by rw [hG]; exact grownCap_le_maxLen w _ _ _ (by unfold maxLen; omega)
  have hRs : ROW.size = G * 6 := by
    rw [hROW, Array.size_append, Array.size_append, size_zeroCells, size_zeroCells, List.size_toArray, hl1]
    show i * 6 + (2 + m) * 6 + (G - (i + (2 + m))) * 6 = G * 6
    omega
  have hRt : ROW.toList.take (i * 6) = cellsL (l.take i) := by
    rw [hROW, Array.toList_append, Array.toList_append, List.append_assoc, List.take_left' (by simpa using hl1)]
  obtain ⟨W1, hW1⟩ : ∃ W1, W1 = w.drew.alloc (.cells ROW 36) := ⟨_, rfl⟩
  have hr1 : RowAt W1 w.heap.size 36 ROW := by rw [hW1]; exact heap_alloc_new w.drew _
  have hx1 : W1.heap[B]? = some (x.obj 36) := by
    have hBw : B < w.heap.size := by
      rcases Nat.lt_or_ge B w.heap.size with h | h
      · exact h
      · rw [Array.getElem?_eq_none h] at hx; cases hx
    rw [hW1]; exact (Below.heap_alloc w.drew _ B hBw).trans hx
  have hBN : B ≠ w.heap.size := by
    rintro rfl
    rw [Array.getElem?_eq_none (Nat.le_refl _)] at hx; cases hx
  obtain ⟨W2, hW2⟩ : ∃ W2, W2 = W1.setCells w.heap.size (i * 6) (cellsL [x]) := ⟨_, rfl⟩
  have hr2 : RowAt W2 w.heap.size 36 (layC ROW (i * 6) (cellsL [x])) := by rw [hW2]; exact RowAt.setCells _ W1 _ _ hr1
  have hx6 : (cellsL [x]).length = 6 := rfl
  have hbg2 : Below base w W2 := by
    rw [hW2]
    refine below_setCells _ _ _ ?_ hb
    rw [hW1]
    exact (Below.drew (Below.refl _ _)).alloc hb _
  have hg2 : ∀ t, t < (i + 1 + m) * 6 → W2.cell? ⟨g, t, none⟩ = (cellsL l)[t]? := fun t ht => by
    rw [← hcell t ht, hW2, World.cell?_setCells_out _ _ _ _ _ (fun h _ => by exact absurd h (by simp only; omega)), hW1]
    exact World.cell?_of_block (w := w.drew) (Below.heap_alloc w.drew _ g hgw)
  obtain ⟨W3, hW3⟩ : ∃ W3, W3 = W2.drew.setCells w.heap.size ((i + 1) * 6) (cellsL (l.drop i)) := ⟨_, rfl⟩
  have hr3 : RowAt W3 w.heap.size 36 (layC (layC ROW (i * 6) (cellsL [x])) ((i + 1) * 6) (cellsL (l.drop i))) := by rw [hW3]; exact RowAt.setCells _ W2.drew _ _ hr2
  have hcp1 : Hid (∀ ty dc sc, (Builtin.copy_ #[22, 22] ty #[.slice (some ⟨w.heap.size, i * 6, none⟩) (i + 1 + m + 1 - i) dc, .slice (some ⟨B, 0, none⟩) 1 sc]).run Try.prog W1 = .ok (goInt (Nat.min 1 (i + 1 + m + 1 - i))) W2) := Lib.hid (fun ty dc sc => by
    rw [hW2]
    refine run_copy_rows W1 _ _ ty 36 6 w.heap.size (i * 6) _ dc ⟨B, 0, none⟩ _ sc (cellsL [x]) Try.underlying22 hsz (by rw [hx6, show Nat.min 1 (i + 1 + m + 1 - i) = 1 by simp only [Nat.min_def]; split <;> omega]) (news_one hx1) (fun j hj => ?_) (fun j hj => hr1.frozen _) (fun v hv => cellsL_one' hv)
    rw [hx6] at hj
    rw [hr1.cell, Array.getElem?_eq_getElem (by omega)]
    rfl)
  have hcp2 : Hid (∀ ty dc sc, (Builtin.copy_ #[22, 22] ty #[.slice (some ⟨w.heap.size, (i + 1) * 6, none⟩) (i + 1 + m - i) dc, .slice (some ⟨g, i * 6, none⟩) (i + 1 + m - i) sc]).run Try.prog W2.drew = .ok (goInt (Nat.min (i + 1 + m - i) (i + 1 + m - i))) W3) := Lib.hid (fun ty dc sc => by
    rw [hW3]
    refine run_copy_rows W2.drew _ _ ty 36 6 w.heap.size ((i + 1) * 6) _ dc ⟨g, i * 6, none⟩ _ sc (cellsL (l.drop i)) Try.underlying22 hsz (by rw [hl2', show Nat.min (i + 1 + m - i) (i + 1 + m - i) = 1 + m by simp only [Nat.min_def]; split <;> omega]) (fun j v hj => ?_) (fun j hj => ?_) (fun j hj => hr2.frozen _) (fun v hv => cellsL_one' hv)
    · have hjl : j < (cellsL (l.drop i)).length := (List.getElem?_eq_some_iff.1 hj).1
      rw [Addr.add_lit]
      refine (hg2 _ (by omega)).trans ?_
      rw [hsp, List.getElem?_append_right (by omega), hl1, show i * 6 + j - i * 6 = j by omega]
      exact hj
    · show (W2.cell? _).isSome = true
      rw [hr2.cell, Array.getElem?_eq_getElem (by rw [layC_size]; omega)]
      rfl)
  have hfin : Hid (W3.ownsRow base 36 6 (.slice (some ⟨w.heap.size, 0, none⟩) (i + 1 + m + 1) G) (i + 1 + m + 1) (cellsL (l.take i ++ x :: l.drop i))) := by
    refine RowAt.own hr3 hb (by omega) hGm (by rw [layC_size, layC_size, hRs]) ?_
    rw [layC_list _ _ _ (by rw [layC_size, hl2']; omega), layC_list _ _ _ (by rw [hx6]; omega), hRt, hl2', hx6]
    rw [show l.take i ++ x :: l.drop i = l.take i ++ ([x] ++ l.drop i) from rfl, cellsL_app, cellsL_app]
    have hlm : (cellsL (l.take i) ++ cellsL [x]).length = (i + 1) * 6 := by rw [List.length_append, hl1, hx6]; omega
    rw [List.take_left' hlm, ← List.append_assoc (cellsL (l.take i))]
    exact List.take_left' (by rw [List.length_append, hlm, hl2']; omega)
  have hbel : Hid (Below base w W3) := by
    show Below _ _ _
    rw [hW3]
    exact below_setCells _ _ _ (Below.drew hbg2) hb
  rw [show i + (2 + m) = i + 1 + m + 1 by omega] at hap hGn
  have hk : ((2 + m : Nat) : Int) = (i : Int) + 1 + (m : Int) + 1 - (i : Int) := by omega
  rw [hk, ← hW1] at hap
  have HAP := Lib.hid hap
  have hlen : (l.take i ++ x :: l.drop i).length = i + 1 + m + 1 := by rw [List.length_append, List.length_take, List.length_cons, List.length_drop]; omega
  have HLEN := Lib.hid hlen
  have hz3 : ¬ ((i : Int) = (i : Int) + 1 + (m : Int)) := by omega
  have hw1 : IntKind.i64.wrap ((i : Int) + 1) = (i : Int) + 1 := by rw [IntKind.wrap_i64]; omega
  have hb1 : (0 : Int) ≤ (i : Int) + 1 := by omega
  have htn : ((i : Int) + 1).toNat = i + 1 := by omega
  have hb3 : (i : Int) + 1 ≤ (i : Int) + 1 + (m : Int) + 1 := by omega
  have hb2 : ¬ (G = i + 1) := by omega
  have hb4 : ¬ (G = i) := by omega
  have hb5 : i + 1 ≤ G := by omega
  have hb6 : (i : Int) ≤ (i : Int) + 1 + (m : Int) + 1 := by omega
  have hb7 : ¬ (i + 1 + m = i) := by omega
  have hb8 : (i : Int) ≤ (i : Int) + 1 + (m : Int) := by omega
  have hGm' : (G : Int) ≤ 9223372036854775807 := by unfold maxLen at hGm; omega
  clear hap hk hold hROW hG hRs hRt hW1 hr1 hx1 hW2 hr2 hbg2 hg2 hW3 hr3 hcell hsp hl1 hl2 hl2' hrow hcs htake hl hz0 hz2 hx hlen hown hgw hGm hx6
  have hap' := HAP.out
  have hcp1' := hcp1.out
  go_enter Try.func70, Try.ntmps70
  go_wp2_with (at_builtin; refine wpList_append_eq _ rfl _ _ _ _ rfl _ _ rfl rfl (hap' _) ?_)
  have hcp2' := hcp2.out
  go_region_law (refine step_copy_eq rfl _ _ 22 22 rfl _ _ (by simp [Act.eval, Act.put]) (by simp [Act.eval, Act.put]) (hcp2' _ _ _) ?_)
  go_wp2
  go_ret
  refine ⟨some ⟨w.heap.size, 0, none⟩, G, ?_, ?_, hbel.out⟩ <;> rw [HLEN.out]
  · rfl
  · exact hfin.out

/-- Wherever. -/
theorem insert_own (base : Nat) (A : Option Addr) (c i B : Nat) (l : List KV) (x : KV) (w : World) (hown : w.ownsRow base 36 6 (.slice A l.length c) l.length (cellsL l)) (hx : w.heap[B]? = some (x.obj 36)) (hgB : ∀ g, (Value.slice A l.length c).ownBlock = some g → g ≠ B)
    (hi : i ≤ l.length) (hn : l.length ≤ 1000000) (hb : base ≤ w.heap.size) :
    Calls Try.prog 70 #[.slice A l.length c, .int .i64 (i : Int), .slice (some ⟨B, 0, none⟩) 1 1] w (OwnEnd base (l.take i ++ x :: l.drop i) w) := by
  by_cases hie : i = l.length
  · subst hie
    have := insert_end base A c B l x w hown hx hn hb
    rw [List.take_length, List.drop_length]
    exact this
  · obtain ⟨m, hm⟩ : ∃ m, l.length = i + 1 + m := ⟨l.length - (i + 1), by omega⟩
    have hown' := hown
    rw [hm] at hown' hgB ⊢
    obtain ⟨g, rfl⟩ : ∃ g, A = some ⟨g, 0, none⟩ := by
      rcases hown'.2 with ⟨h, h0⟩ | ⟨g, cap, cur, hv, _⟩
      · omega
      · injection hv with e1; exact ⟨g, e1⟩
    have hne : B ≠ g := fun e => hgB g rfl e.symm
    by_cases hr : i + 1 + m + 1 ≤ c
    · have hlen : (l.take i ++ x :: l.drop i).length = i + 1 + m + 1 := by rw [List.length_append, List.length_take, List.length_cons, List.length_drop]; omega
      refine (insert_shift base g c i m B l x w hm hown' hx hne (by omega) hr).mono ?_
      rintro e w' ⟨rfl, h1, h2⟩
      refine ⟨some ⟨g, 0, none⟩, c, ?_, ?_, h2⟩ <;> rw [hlen]
      exact h1
    · exact insert_grow base g c i m B l x w hm hown' hx (by omega) (by omega) hb
theorem insert_at (base : Nat) (A : Option Addr) (n c i B : Nat) (l : List KV) (x : KV) (w : World) (hl : l.length = n) (hown : w.ownsRow base 36 6 (.slice A n c) n (cellsL l)) (hx : w.heap[B]? = some (x.obj 36)) (hgB : ∀ g, (Value.slice A n c).ownBlock = some g → g ≠ B)
    (hi : i ≤ n) (hn : n ≤ 1000000) (hb : base ≤ w.heap.size) :
    Calls Try.prog 70 #[.slice A n c, .int .i64 (i : Int), .slice (some ⟨B, 0, none⟩) 1 1] w fun e w' => ∃ A1 c1, e = .returned (.slice A1 (n + 1) c1) ∧ w'.ownsRow base 36 6 (.slice A1 (n + 1) c1) (n + 1) (cellsL (l.take i ++ x :: l.drop i)) ∧ Below base w w' := by
  subst hl
  refine (insert_own base A c i B l x w hown hx hgB hi hn hb).mono ?_
  rintro e w' ⟨A1, c1, rfl, h1, h2⟩
  have hlen : (l.take i ++ x :: l.drop i).length = l.length + 1 := by rw [List.length_append, List.length_take, List.length_cons, List.length_drop]; omega
  rw [hlen] at h1 ⊢
  exact ⟨A1, c1, rfl, h1, h2⟩
end Go.Proofs.Ytkikfaeigoeogaa.P
