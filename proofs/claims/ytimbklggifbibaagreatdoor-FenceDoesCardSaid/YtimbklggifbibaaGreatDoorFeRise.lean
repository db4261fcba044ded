/- Layer 20: numbers that rise, each once, the program's way and the document's; tokens, and whose they are. -/
import Derived.Test.YtimbklggifbibaaGreatDoorFe
import Derived.Test.YtimbklggifbibaaGreatDoorFeShelf
import Derived.Sort.OwnSortedInts
import Derived.Lib.OwnBridge
namespace Go.Proofs.YtimbklggifbibaaGreatDoor.P
open Go.RowKit Go.Sort
set_option maxHeartbeats 1000000
set_option linter.unusedVariables false
set_option linter.unusedSimpArgs false
set_option maxRecDepth 100000

abbrev ownI (w : World) (base : Nat) (A : Option Addr) (n c : Nat) (l : List Int) : Prop := ownG intC 1 3 w base A n c l
theorem flat_ints (l : List Int) : flatC intC l = l.map (Value.int .i64) := by
  unfold flatC
  induction l with
  | nil => rfl
  | cons a r ih => rw [List.flatMap_cons, ih]; rfl
theorem ownI_is {w : World} {base n c : Nat} {A : Option Addr} {l : List Int} (h : ownI w base A n c l) : Is w A n c l := ownG_rows intC_len (by omega) h
theorem ownI_len {w : World} {base n c : Nat} {A : Option Addr} {l : List Int} (h : ownI w base A n c l) : l.length = n := ownG_len intC_len (by omega) h
theorem lt_of_blk {w : World} {b : Nat} {o : Obj} (h : w.heap[b]? = some o) : b < w.heap.size := by
  rcases Nat.lt_or_ge b w.heap.size with h' | h'
  · exact h'
  · rw [Array.getElem?_eq_none h'] at h; cases h
theorem sort_len (l : List Int) : (sortI l).length = l.length := (sortI_perm l).length_eq
theorem rise_nil : riseL [] = [] := List.eq_nil_of_length_eq_zero (Nat.le_zero.1 (rise_len []))
/-- What Sort leaves is what Compact asks; what Compact leaves is the row that rises. -/
def RiseEnd (base : Nat) (l : List Int) (w : World) (e : Ending) (w' : World) : Prop := ∃ A c, e = .returned (.slice A (riseL l).length c) ∧ ownI w' base A (riseL l).length c (riseL l) ∧ Below base w w'
theorem rising_any (base : Nat) (A : Option Addr) (n c : Nat) (l : List Int) (w : World) (hown : ownI w base A n c l) (hb : base ≤ w.heap.size) (hn : n ≤ 1000000) :
    Calls Tryz.prog 20 #[.slice A n c] w (RiseEnd base l w) := by
  have hl := ownI_len hown
  rcases hown.2 with ⟨hv, hn0⟩ | ⟨g, cap, cur, hv, hbg, hg, hnc, hcm, hcs, ht⟩
  · injection hv with e1 e2 e3
    subst e1 e2 e3
    obtain rfl : l = [] := List.eq_nil_of_length_eq_zero hl
    have HO := Lib.hid hown
    have cS := Lib.hid (Tryz.slices_Sort_int_none none 0 w)
    have cC := Lib.hid (Tryz.slices_Compact_int_empty none 0 w)
    clear hown hl
    go_enter Tryz.func20, Tryz.ntmps20
    go_wp2_with fail
    refine cS.out.mono ?_; rintro e w1 ⟨rfl, rfl⟩
    go_wp2_with fail
    refine cC.out.mono ?_; rintro e w2 ⟨rfl, rfl⟩
    go_wp2
    go_ret
    show RiseEnd _ _ _ _ _
    unfold RiseEnd
    rw [rise_nil]
    exact ⟨none, 0, rfl, HO.out, Below.refl _ _⟩
  · injection hv with e1 e2 e3
    subst e1 e3
    have ht' : cur.toList.take l.length = l.map (Value.int .i64) := by rw [hl]; rw [flat_ints] at ht; simpa using ht
    have hlt := lt_of_blk hg
    have hH := holds_of_blockI hg ht'
    have hmx : c ≤ 9223372036854775807 := by unfold maxLen at hcm; exact hcm
    have hsort := Lib.hid (Tryz.slices_Sort_int g 0 c l w hH hlt (by omega))
    have hfin : Hid (∀ (q : Nat) (os : Array Obj), ∃ w1, w1 = grow (putRow (Value.int .i64) (Sort.ahead w q) g 0 (sortI l).toArray) os ∧ Calls Tryz.prog 37 #[.slice (some ⟨g, 0, none⟩) n c] w1 (RiseEnd base l w)) := Lib.hid (fun q os => by
      obtain ⟨w1, hw1⟩ : ∃ w1, w1 = grow (putRow (Value.int .i64) (Sort.ahead w q) g 0 (sortI l).toArray) os := ⟨_, rfl⟩
      refine ⟨w1, hw1, ?_⟩
      have o1 := ownsRow_sortedI (n := q) (os := os) (ts := sortI l) (sort_len l) hbg hg (by omega) hcm hcs
      have b1 := heap_sortedI (n := q) (os := os) (sortI l).toArray hg
      have g1 : w.grownBy w1 (some g) := by rw [hw1]; exact grownBy_sortedI (sortI l).toArray
      rw [← hw1] at o1 b1
      have H1 := holds_of_blockI b1 (take_putCellsI cur (sortI l) (by rw [sort_len]; omega))
      have hc := Tryz.slices_Compact_int g 0 c (sortI l) w1 H1 (by rw [sort_len]; omega) (by rw [sort_len]; omega)
      rw [sort_len, hl] at hc
      refine hc.mono ?_
      rintro e w2 ⟨rfl, q2, rfl⟩
      have o2 := Lib.ownsRow_putRow (q := q2) (k := (riseL l).length) (ys := riseL l ++ List.replicate (n - (riseL l).length) 0) o1 (by have := rise_len l; simp; omega) (by rw [hl]; have := rise_len l; omega)
      rw [List.take_left] at o2
      refine ⟨some ⟨g, 0, none⟩, c, rfl, ?_, ?_⟩
      · show World.ownsRow _ _ _ _ _ _ _
        rw [flat_ints]
        exact o2
      · exact Lib.below_putRow ((Below.refl base w).grown g1 hb (fun j hj => by cases hj; exact hbg)) hbg)
    have e : (l.mergeSort fun x y => decide (x ≤ y)) = sortI l := rfl
    rw [hl, e] at hsort
    clear hown hl ht ht' hH hg hcs e
    go_enter Tryz.func20, Tryz.ntmps20
    go_wp2_with fail
    refine hsort.out.mono ?_; rintro e w1 ⟨rfl, q, os, hw⟩
    obtain ⟨w1', hw', hc⟩ := hfin.out q os
    obtain rfl : w1 = w1' := hw.trans hw'.symm
    have HC := Lib.hid hc
    clear hw hw' hc
    go_wp2_with fail
    refine HC.out.mono ?_; rintro e w2 ⟨A2, c2, rfl, ho, hb2⟩
    have O2 := Lib.hid ho
    have B2 := Lib.hid hb2
    clear ho hb2
    go_wp2
    go_ret
    exact ⟨A2, c2, rfl, O2.out, B2.out⟩
theorem ownI_mono {w : World} {B b n c : Nat} {A : Option Addr} {l : List Int} (h : ownI w B A n c l) (hb : b ≤ B) : ownI w b A n c l := by
  rcases h with ⟨h1, h2 | ⟨g, cap, cur, hv, hbg, h3⟩⟩
  · exact ⟨h1, .inl h2⟩
  · exact ⟨h1, .inr ⟨g, cap, cur, hv, Nat.le_trans hb hbg, h3⟩⟩
theorem RiseEnd.mono {B b : Nat} {l m : List Int} {w0 w : World} {e : Ending} {w' : World} (h : RiseEnd B l w e w') (hb : b ≤ B) (h0 : Below b w0 w) (hl : l = m) : RiseEnd b m w0 e w' := by
  subst hl
  obtain ⟨A, c, he, ho, hw⟩ := h
  exact ⟨A, c, he, ownI_mono ho hb, h0.trans (hw.mono hb)⟩
theorem toks_take {l : List Ac} {j : Nat} {x : Ac} (h : l[j]? = some x) : toksL (l.take (j + 1)) = toksL (l.take j) ++ [x.tok] := by rw [take_snoc' l j x h, toks_snoc]
theorem tokens_any (r : Rs) (A : Option Addr) (n c : Nat) (w : World) (h : RsAt w r A n c) (hn : n ≤ 60) :
    Calls Tryz.prog 9 #[r.agg A n c] w (RiseEnd w.heap.size (toksL r.log) w) := by
  obtain ⟨W1, hW1⟩ : ∃ W1, W1 = w.alloc (.cells (r.arr A n c) 24) := ⟨_, rfl⟩
  have b1 : Below w.heap.size w W1 := by rw [hW1]; exact new1 w _
  have B1 := Lib.hid b1
  have H := Lib.hid (h.log.keep b1)
  have HL := Lib.hid h.len
  clear h b1
  obtain ⟨hi, va, l⟩ := r
  have HLl : Hid (l.length = n) := HL
  go_enter Tryz.func9, Tryz.ntmps9
  go_wp2
  rw [← hW1]
  clear hW1
  go_loopw [3, 9] (fun v i wr => ∃ (j : Nat) (A2 : Option Addr) (c2 : Nat), j ≤ n ∧ i = .int .i64 j ∧ v = .slice A2 j c2 ∧ ownI wr W1.heap.size A2 j c2 (toksL (l.take j)) ∧ Below W1.heap.size W1 wr) (fun _ i _ => n - (intOf i).toNat)
  case atStart => exact ⟨0, none, 0, Nat.zero_le _, rfl, rfl, ownG_nil _ _ _ _ _, Below.refl _ _⟩
  case round =>
    obtain ⟨j, A2, c2, hj, rfl, rfl, hown, hbel⟩ := hrel
    have HO := Lib.hid hown; have HB := Lib.hid hbel
    clear hown hbel
    by_cases hlt : j < n
    · obtain ⟨a, x, rfl, hbl, hx, hc⟩ := (H.out.keep HB.out).at_ hlt
      obtain ⟨c0, c1, c3⟩ := hc
      have HX := Lib.hid hx
      clear hx hbl
      obtain ⟨V, hV⟩ : ∃ V, V = wr.alloc (.cells x.arr 46) := ⟨_, rfl⟩
      have bV : Below wr.heap.size wr V := by rw [hV]; exact new1 wr _
      obtain ⟨A3, c4, w3, hr, ho3, hb3⟩ := app_ints W1.heap.size A2 j c2 (toksL (l.take j)) V x.tok (ownG_keep HO.out bV) (by omega) (Nat.le_trans HB.out.size bV.size)
      have O3 : Hid (ownI w3 W1.heap.size A3 (j + 1) c4 (toksL (l.take (j + 1)))) := Lib.hid (by rw [toks_take HX.out]; exact ho3)
      have B3 := Lib.hid ((HB.out.trans (bV.mono HB.out.size)).trans hb3)
      clear ho3 hb3 bV
      rw [hV] at hr
      simp only [World.size_alloc] at hr
      go_wp2_with (at_builtin; refine wpList_append_eq _ rfl (.tmp 13) (.tmp 16) _ _ rfl _ _ rfl rfl hr ?_)
      go_roundw
      case rel => exact ⟨j + 1, A3, c4, by omega, by go_num, rfl, O3.out, B3.out⟩
      case measure => simp [intOf]; omega
    · obtain rfl : j = n := by omega
      have hR := Lib.hid (rising_any W1.heap.size A2 j c2 (toksL (l.take j)) wr HO.out HB.out.size (by omega))
      have HT : Hid (toksL (l.take j) = toksL l) := Lib.hid (by rw [← HLl.out, List.take_length])
      go_wp2_with fail
      refine hR.out.mono ?_; rintro e w2 hend
      have HE := Lib.hid (hend.mono B1.out.size (B1.out.trans (HB.out.mono B1.out.size)) HT.out)
      obtain ⟨A4, c5, rfl, _⟩ := hend
      go_wp2
      go_ret
      exact HE.out
theorem owns_take_yes {l : List Ac} {j : Nat} {x : Ac} {t : Int} (h : l[j]? = some x) (ht : x.tok = t) : ownsL (l.take (j + 1)) t = ownsL (l.take j) t ++ [x.who] := by rw [take_snoc' l j x h, owns_yes ht]
theorem owns_take_no {l : List Ac} {j : Nat} {x : Ac} {t : Int} (h : l[j]? = some x) (ht : x.tok ≠ t) : ownsL (l.take (j + 1)) t = ownsL (l.take j) t := by rw [take_snoc' l j x h, owns_no ht]
theorem owners_any (r : Rs) (A : Option Addr) (n c : Nat) (t : Int) (w : World) (h : RsAt w r A n c) (hn : n ≤ 60) :
    Calls Tryz.prog 11 #[r.agg A n c, .int .i64 t] w (RiseEnd w.heap.size (ownsL r.log t) w) := by
  obtain ⟨W1, hW1⟩ : ∃ W1, W1 = w.alloc (.cells (r.arr A n c) 24) := ⟨_, rfl⟩
  have b1 : Below w.heap.size w W1 := by rw [hW1]; exact new1 w _
  have B1 := Lib.hid b1
  have H := Lib.hid (h.log.keep b1)
  have HL := Lib.hid h.len
  clear h b1
  obtain ⟨hi, va, l⟩ := r
  have HLl : Hid (l.length = n) := HL
  go_enter Tryz.func11, Tryz.ntmps11
  go_wp2
  rw [← hW1]
  clear hW1
  go_loopw [5, 11] (fun v i wr => ∃ (j k : Nat) (A2 : Option Addr) (c2 : Nat), j ≤ n ∧ k ≤ j ∧ i = .int .i64 j ∧ v = .slice A2 k c2 ∧ ownI wr W1.heap.size A2 k c2 (ownsL (l.take j) t) ∧ Below W1.heap.size W1 wr) (fun _ i _ => n - (intOf i).toNat)
  case atStart => exact ⟨0, 0, none, 0, Nat.zero_le _, Nat.le_refl _, rfl, rfl, ownG_nil _ _ _ _ _, Below.refl _ _⟩
  case round =>
    obtain ⟨j, k, A2, c2, hj, hk, rfl, rfl, hown, hbel⟩ := hrel
    have HO := Lib.hid hown; have HB := Lib.hid hbel
    clear hown hbel
    by_cases hlt : j < n
    · obtain ⟨a, x, rfl, hbl, hx, hc⟩ := (H.out.keep HB.out).at_ hlt
      obtain ⟨c0, c1, c3⟩ := hc
      have HX := Lib.hid hx
      clear hx hbl
      obtain ⟨V, hV⟩ : ∃ V, V = wr.alloc (.cells x.arr 46) := ⟨_, rfl⟩
      have bV : Below wr.heap.size wr V := by rw [hV]; exact new1 wr _
      by_cases ht : x.tok = t
      · subst ht
        have ht : x.tok = x.tok := rfl
        obtain ⟨A3, c4, w3, hr, ho3, hb3⟩ := app_ints W1.heap.size A2 k c2 (ownsL (l.take j) x.tok) V x.who (ownG_keep HO.out bV) (by omega) (Nat.le_trans HB.out.size bV.size)
        have O3 : Hid (ownI w3 W1.heap.size A3 (k + 1) c4 (ownsL (l.take (j + 1)) x.tok)) := Lib.hid (by rw [owns_take_yes HX.out ht]; exact ho3)
        have B3 := Lib.hid ((HB.out.trans (bV.mono HB.out.size)).trans hb3)
        clear ho3 hb3 bV ht
        rw [hV] at hr
        simp only [World.size_alloc] at hr
        go_wp2_with (at_builtin; refine wpList_append_eq _ rfl (.tmp 19) (.tmp 22) _ _ rfl _ _ rfl rfl hr ?_)
        go_roundw
        case rel => exact ⟨j + 1, k + 1, A3, c4, by omega, by omega, by go_num, rfl, O3.out, B3.out⟩
        case measure => simp [intOf]; omega
      · have O3 : Hid (ownI V W1.heap.size A2 k c2 (ownsL (l.take (j + 1)) t)) := Lib.hid (by rw [owns_take_no HX.out ht]; exact ownG_keep HO.out bV)
        have B3 := Lib.hid (HB.out.trans (bV.mono HB.out.size))
        clear bV
        go_wp2
        rw [← hV]
        go_roundw
        case rel => exact ⟨j + 1, k, A2, c2, by omega, by omega, by go_num, rfl, O3.out, B3.out⟩
        case measure => simp [intOf]; omega
    · obtain rfl : j = n := by omega
      have hR := Lib.hid (rising_any W1.heap.size A2 k c2 (ownsL (l.take j) t) wr HO.out HB.out.size (by omega))
      have HT : Hid (ownsL (l.take j) t = ownsL l t) := Lib.hid (by rw [← HLl.out, List.take_length])
      go_wp2_with fail
      refine hR.out.mono ?_; rintro e w2 hend
      have HE := Lib.hid (hend.mono B1.out.size (B1.out.trans (HB.out.mono B1.out.size)) HT.out)
      obtain ⟨A4, c5, rfl, _⟩ := hend
      go_wp2
      go_ret
      exact HE.out
theorem ints_any (A B : Option Addr) (n c m d : Nat) (l : List Int) (w : World) (h : Is w A n c l) (g : Is w B m d l) (hm : n ≤ 1000000) :
    Calls Tryz.prog 8 #[.slice A n c, .slice B m d] w fun e w' => e = .returned (.bool true) ∧ Below w.heap.size w w' := by
  obtain rfl : n = m := h.len.symm.trans g.len
  have H := Lib.hid h
  have G := Lib.hid g
  clear h g
  go_enter Tryz.func8, Tryz.ntmps8
  go_wp2
  go_loopw [5] (fun i wr => ∃ j q : Nat, j ≤ n ∧ i = .int .i64 j ∧ wr = w.drewN q) (fun i _ => n - (intOf i).toNat)
  case atStart => exact ⟨0, 0, Nat.zero_le _, rfl, rfl⟩
  case round =>
    obtain ⟨j, q, hj, rfl, rfl⟩ := hrel
    by_cases hlt : j < n
    · obtain ⟨a, x, rfl, hbl, hx, c0⟩ := Is.at_ H.out hlt
      obtain ⟨b, y, rfl, gbl, hy, d0⟩ := Is.at_ G.out hlt
      obtain rfl : x = y := Option.some.inj (hx.symm.trans hy)
      have i0 : (0 : Int) ≤ (j : Int) := by omega
      have i1 : (j : Int) < (n : Int) := by omega
      clear hx hy hbl gbl
      go_wp2
      go_quiet (fail)
      go_wp2
      go_roundw
      case rel => exact ⟨j + 1, _, by omega, by go_num, rfl⟩
      case measure => simp [intOf]; omega
    · obtain rfl : j = n := by omega
      go_wp2
      go_ret
      exact ⟨rfl, below_drewN (Below.refl _ _) _⟩
end Go.Proofs.YtimbklggifbibaaGreatDoor.P
