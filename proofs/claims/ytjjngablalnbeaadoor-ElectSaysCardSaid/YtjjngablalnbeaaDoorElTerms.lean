/- Terms: the program's way, and the document's. -/
import Derived.Test.YtjjngablalnbeaaDoorElComp
import Derived.Test.YtjjngablalnbeaaDoorKvRead
namespace Go.Proofs.YtjjngablalnbeaaDoor.P
open Go.RowKit Go.Sort
set_option maxHeartbeats 2000000
set_option linter.unusedVariables false
set_option linter.unusedSimpArgs false
set_option maxRecDepth 100000

theorem lies_int {w : World} {p : Addr} {x : Int} (h : Lies intC w p x) : w.cell? p = some (.int .i64 x) := h 0 _ rfl
def cresL (l : List KV) : List Int := l.map KV.cre
def SomeIs (w : World) (T : List Int) (e : Ending) (w' : World) : Prop := ∃ A c, e = .returned (.slice A T.length c) ∧ Is w' A T.length c T ∧ Below w.heap.size w w'
/-- The row of numbers, half filled. -/
def fillI (l : List KV) (n j : Nat) : List Int := (l.take j).map KV.cre ++ List.replicate (n - j) 0
theorem fillI_len (l : List KV) (n j : Nat) (hl : l.length = n) (hj : j ≤ n) : (fillI l n j).length = n := by
  unfold fillI
  rw [List.length_append, List.length_map, List.length_take, List.length_replicate, hl]
  omega
theorem fillI_next (l : List KV) (n j : Nat) (x : KV) (hl : l.length = n) (hj : j < n) (hx : l[j]? = some x) : (fillI l n j).set j x.cre = fillI l n (j + 1) := by
  unfold fillI
  have h1 : ((l.take j).map KV.cre).length = j := by rw [List.length_map, List.length_take, hl]; omega
  rw [List.set_append_right _ _ (by omega), h1, Nat.sub_self, show n - j = (n - (j + 1)) + 1 by omega, List.replicate_succ]
  rw [take_succ l j x hx, List.map_append]
  simp
theorem fillI_all (l : List KV) (n : Nat) (hl : l.length = n) : fillI l n n = cresL l := by
  unfold fillI cresL
  rw [List.take_of_length_le (by omega), Nat.sub_self]
  simp
theorem own_made {w : World} {base g n : Nat} {e : TypeId} {xs : List Value} (h : w.ownsRow base e 1 (.slice (some ⟨g, 0, none⟩) n n) n xs) : Own w g e xs.toArray := by
  rcases h.2 with ⟨hv, _⟩ | ⟨g', cap, cur, hv, hb, hg, hnc, hcm, hcs, ht⟩
  · cases hv
  · injection hv with e1 e2 e3
    injection e1 with e1
    injection e1 with e1
    subst e1 e3
    have : cur.toList = xs := by rw [← ht, List.take_of_length_le (by rw [Array.length_toList, hcs]; exact Nat.le_refl _)]
    rw [← this]
    exact ⟨hg⟩
theorem terms_any (A : Option Addr) (n c : Nat) (l : List KV) (w : World) (h : KVs w A n c l) (hn : n ≤ 100000) :
    Calls Tryd.prog 16 #[.slice A n c] w (SomeIs w (termsL (cresL l))) := by
  obtain ⟨i0, hi0, hz0, hz1, hz2⟩ := info_parts1 int_info
  have H := Lib.hid h
  have HL := Lib.hid h.len
  have hnm : n ≤ maxLen := by unfold maxLen; omega
  have HNM := Lib.hid hnm
  clear h hnm
  go_enter Tryd.func16, Tryd.ntmps16
  go_wp2_with (with_reducible refine wpList_make_full _ rfl _ _ 32 rfl w.heap.size 3 i0 _ 1 Tryd.underlying32 hi0 hz0 hz1 .i64 .i64 _ _ n rfl rfl rfl rfl (by rw [hz2]; omega) (by unfold maxLen; omega) (Nat.le_refl _) ?_; intro w1 hown hgrow)
  have O_0 : Hid (Own w1 w.heap.size 3 (arrI (fillI l n 0))) := Lib.hid (by
    have h1 := own_made hown
    have e : arrI (fillI l n 0) = madeCells #[zeroIntV] n := by
      apply Array.toList_inj.1
      rw [toList_madeCells_one]
      simp [arrI, fillI]
    rw [e]
    simpa [Value.cells] using h1)
  have B_0 := Lib.hid ((Below.refl w.heap.size w).grown hgrow (Nat.le_refl _) (by simp))
  clear hown hgrow
  go_wp2
  go_loopw [11] (fun i wr => ∃ k : Nat, k ≤ n ∧ i = .int .i64 k ∧ Own wr w.heap.size 3 (arrI (fillI l n k)) ∧ Below w.heap.size w wr) (fun i _ => n - (intOf i).toNat)
  case atStart => exact ⟨0, Nat.zero_le _, rfl, O_0.out, B_0.out⟩
  case round =>
    clear O_0 B_0
    rename World => wr
    obtain ⟨k, hk, rfl, hO, hB⟩ := hrel
    have O := Lib.hid hO; have B := Lib.hid hB
    clear hO hB
    by_cases hlt : k < n
    · obtain ⟨a, x, rfl, hbl, hx, hok, hc⟩ := (H.out.keep B.out).at_ hlt
      obtain ⟨c0, c1, c2, c3, c4, c5⟩ := hc
      have NB := Lib.hid (new1 wr (x.obj 26))
      have O2 := O.out.alloc (x.obj 26)
      obtain ⟨z, hz⟩ : ∃ z, (fillI l n k)[k]? = some z := ⟨_, List.getElem?_eq_getElem (by rw [fillI_len l n k HL.out hk]; exact hlt)⟩
      have cz := own_int O2 k z hz
      have fz := O2.frozen k
      have O3 : Hid (Own ((wr.alloc (x.obj 26)).setCell ⟨w.heap.size, k, none⟩ (.int .i64 x.cre)) w.heap.size 3 (arrI (fillI l n (k + 1)))) := Lib.hid (by rw [← fillI_next l n k x HL.out hlt hx, ← arrI_set]; exact O2.set k _)
      have B3 := Lib.hid ((B.out.trans (NB.out.mono B.out.size)).setCell (p := ⟨w.heap.size, k, none⟩) (Nat.le_refl _) (.int .i64 x.cre))
      have hgl : ¬ wr.heap.size = w.heap.size := by have := O.out.lt; omega
      have hlt1 : (k : Int) < n := by omega
      clear hx hok O2 hz
      go_wp2
      go_roundw
      case rel => exact ⟨k + 1, by omega, by go_num, O3.out, B3.out⟩
      case measure => simp [intOf]; omega
    · obtain rfl : k = n := by omega
      have O4 := O.out
      rw [fillI_all l k HL.out] at O4
      have hcl : (cresL l).length = k := by unfold cresL; rw [List.length_map]; exact HL.out
      have cc := compact_any w.heap.size k (cresL l) wr O4 hcl hn
      have hwl := O.out.lt
      clear O4
      go_wp2_with fail
      refine cc.mono ?_; rintro e w2 ⟨rfl, his, hg⟩
      have I2 := Lib.hid his
      have B2 := Lib.hid (B.out.grown hg B.out.size (fun k e => by cases e; omega))
      clear his hg cc
      go_wp2
      go_ret
      exact ⟨_, _, rfl, I2.out, B2.out⟩
theorem termsr_any (A : Option Addr) (n c : Nat) (l : List KV) (w : World) (h : KVs w A n c l) (hn : n ≤ 900) :
    Calls Tryd.prog 17 #[.slice A n c] w (SomeIs w (termsL (cresL l))) := by
  have H := Lib.hid h
  have HL := Lib.hid h.len
  clear h
  have hcl : Hid ((cresL l).length = n) := Lib.hid (by unfold cresL; rw [List.length_map]; exact HL.out)
  have AT : Hid (∀ (j : Nat) (x : KV), l[j]? = some x → (cresL l)[j]? = some x.cre) := Lib.hid (fun j x hx => by unfold cresL; rw [List.getElem?_map, hx]; rfl)
  go_enter Tryd.func17, Tryd.ntmps17
  go_wp2
  go_loopw [3, 4] (fun v i wr => ∃ (j : Nat) (B : Option Addr) (d : Nat), j ≤ n ∧ i = .int .i64 j ∧ v = .slice B (termsTo (cresL l) j).length d ∧ ownG intC 1 3 wr w.heap.size B (termsTo (cresL l) j).length d (termsTo (cresL l) j) ∧ Below w.heap.size w wr) (fun _ i _ => n - (intOf i).toNat)
  case atStart => exact ⟨0, none, 0, Nat.zero_le _, rfl, rfl, ownG_nil _ _ _ _ _, Below.refl _ _⟩
  case round =>
    rename World => wr
    obtain ⟨j, B, d, hj, rfl, rfl, hO, hB⟩ := hrel
    have O := Lib.hid hO
    have BB := Lib.hid hB
    clear hO hB
    have hlen := terms_len (cresL l) j
    by_cases hlt : j < n
    · obtain ⟨a, x, rfl, hbl, hx, hok, hc⟩ := (H.out.keep BB.out).at_ hlt
      have AX := Lib.hid hc
      have HX := Lib.hid (AT.out j x hx)
      have hlt1 : (j : Int) < n := by omega
      have NEW := Lib.hid (terms_new (cresL l) j x.cre HX.out)
      have OLD := Lib.hid (terms_old (cresL l) j x.cre HX.out)
      generalize termsTo (cresL l) j = o at *
      clear hx hok hc
      by_cases hj0 : j = 0
      · subst hj0
        have HT := Lib.hid (NEW.out (by omega))
        have hc := AX.out
        rw [Nat.zero_mul, Addr.add_zero'] at hc
        clear NEW OLD AX
        have AX := Lib.hid hc
        clear hc
        go_wp2
        refine wp_region_quiet_below (by kernel_rfl) (by kernel_rfl) ?_
        repeat (go_big_quiet_step (fail))
        refine wpQuiet_nil ?_
        intro v1 hw'
        have hb' : Below wr.heap.size wr v1 := by
          obtain ⟨⟨d', os⟩, rfl⟩ := hw'
          exact below_grow (Below.refl _ _) (Nat.le_refl _) _ _
        have BV := Lib.hid hb'
        have BW := Lib.hid (BB.out.trans (BV.out.mono BB.out.size))
        obtain ⟨x0, x1, x2, x3, x4, x5⟩ := AX.out.on hb'
        clear hw' hb'
        obtain ⟨B', d', w4, hr4, ho4, hb4⟩ := app_ints w.heap.size B o.length d o v1 x.cre (ownG_keep O.out BV.out) (by omega) BW.out.size
        have O4 := Lib.hid ho4
        have B4 := Lib.hid (BW.out.trans hb4)
        clear ho4 hb4
        go_wp2_with (at_builtin; refine wpList_append_eq _ rfl (.tmp 27) (.tmp 33) _ _ rfl _ _ rfl rfl hr4 ?_)
        go_roundw
        case rel => exact ⟨0 + 1, B', d', by omega, by go_num, by rw [HT.out, List.length_append]; rfl, by rw [HT.out, List.length_append]; exact O4.out, B4.out⟩
        case measure => simp [intOf]; omega
      · obtain ⟨i, hi⟩ : ∃ i, i + 1 = j := ⟨j - 1, by omega⟩
        obtain ⟨a', y, ea, _, hy, _, hcy⟩ := (H.out.keep BB.out).at_ (show i < n by omega)
        obtain rfl := Option.some.inj ea
        have HY := Lib.hid (AT.out i y hy)
        have rx := fun d os => cell_regrown AX.out.c2 d os
        have ry := fun d os => cell_regrown hcy.c2 d os
        have hji : (j : Int) - 1 = (i : Int) := by omega
        have hin : (i : Int) < n := by omega
        have hz1 : ((j : Int) == 0) = false := by simp; omega
        have hji0 : j - 1 = i := by omega
        have HJI := Lib.hid hji0
        clear hj0 ea hy hcy hi hji0
        by_cases hxy : y.cre = x.cre
        · have hb : (y.cre != x.cre) = false := by simp [hxy]
          have HT := Lib.hid (OLD.out ⟨by omega, by rw [HJI.out, HY.out, hxy]⟩)
          clear hxy NEW OLD
          go_wp2
          refine wp_region_quiet_below (by kernel_rfl) (by kernel_rfl) ?_
          repeat (go_big_quiet_step (fail))
          refine wpQuiet_nil ?_
          intro v1 hw'
          have hb' : Below wr.heap.size wr v1 := by
            obtain ⟨⟨d', os⟩, rfl⟩ := hw'
            exact below_grow (Below.refl _ _) (Nat.le_refl _) _ _
          have BV := Lib.hid hb'
          have BW := Lib.hid (BB.out.trans (BV.out.mono BB.out.size))
          obtain ⟨x0, x1, x2, x3, x4, x5⟩ := AX.out.on hb'
          clear hw' hb'
          go_wp2
          go_roundw
          case rel => exact ⟨j + 1, B, d, by omega, by go_num, by rw [HT.out], by rw [HT.out]; exact ownG_keep O.out BV.out, BB.out.trans (BV.out.mono BB.out.size)⟩
          case measure => simp [intOf]; omega
        · have hb : (y.cre != x.cre) = true := by simp [hxy]
          have HT := Lib.hid (NEW.out (fun h => by
            rw [HJI.out, HY.out] at h
            exact hxy (Option.some.inj h.2)))
          clear hxy NEW OLD
          go_wp2
          refine wp_region_quiet_below (by kernel_rfl) (by kernel_rfl) ?_
          repeat (go_big_quiet_step (fail))
          refine wpQuiet_nil ?_
          intro v1 hw'
          have hb' : Below wr.heap.size wr v1 := by
            obtain ⟨⟨d', os⟩, rfl⟩ := hw'
            exact below_grow (Below.refl _ _) (Nat.le_refl _) _ _
          have BV := Lib.hid hb'
          have BW := Lib.hid (BB.out.trans (BV.out.mono BB.out.size))
          obtain ⟨x0, x1, x2, x3, x4, x5⟩ := AX.out.on hb'
          clear hw' hb'
          obtain ⟨B', d', w4, hr4, ho4, hb4⟩ := app_ints w.heap.size B o.length d o v1 x.cre (ownG_keep O.out BV.out) (by omega) BW.out.size
          have O4 := Lib.hid ho4
          have B4 := Lib.hid (BW.out.trans hb4)
          clear ho4 hb4
          go_wp2_with (at_builtin; refine wpList_append_eq _ rfl (.tmp 27) (.tmp 33) _ _ rfl _ _ rfl rfl hr4 ?_)
          go_roundw
          case rel => exact ⟨j + 1, B', d', by omega, by go_num, by rw [HT.out, List.length_append]; rfl, by rw [HT.out, List.length_append]; exact O4.out, B4.out⟩
          case measure => simp [intOf]; omega
    · obtain rfl : j = n := by omega
      have e : termsTo (cresL l) j = termsL (cresL l) := by unfold termsL; rw [hcl.out]
      rw [e] at O
      rw [e]
      go_wp2
      go_ret
      exact ⟨B, d, rfl, ownG_rows intC_len (by omega) O.out, BB.out⟩
theorem ints_same (A B : Option Addr) (n c d : Nat) (l : List Int) (w : World) (h : Is w A n c l) (g : Is w B n d l) (hm : n ≤ 1000000) :
    Calls Tryd.prog 15 #[.slice A n c, .slice B n d] w fun e w' => e = .returned (.bool true) ∧ Below w.heap.size w w' := by
  have H := Lib.hid h
  have G := Lib.hid g
  clear h g
  go_enter Tryd.func15, Tryd.ntmps15
  go_wp2
  go_loopw [5] (fun i wr => ∃ k : Nat, k ≤ n ∧ i = .int .i64 k ∧ Below w.heap.size w wr) (fun i _ => n - (intOf i).toNat)
  case atStart => exact ⟨0, Nat.zero_le _, rfl, Below.refl _ _⟩
  case round =>
    rename World => wr
    obtain ⟨k, hk, rfl, hb⟩ := hrel
    have BB := Lib.hid hb
    clear hb
    by_cases hlt : k < n
    · obtain ⟨a, x, rfl, _, hx, hc⟩ := (H.out.below BB.out).at_ hlt
      obtain ⟨b, y, rfl, _, hy, hd⟩ := (G.out.below BB.out).at_ hlt
      have hc' := lies_int hc
      have hd' := lies_int hd
      obtain rfl : x = y := Option.some.inj (hx.symm.trans hy)
      rw [Nat.mul_one] at hc' hd'
      have hlt1 : (k : Int) < n := by omega
      have hne : (x != x) = false := by simp
      clear hx hy hc hd
      go_wp2
      go_quiet (fail)
      go_wp2
      go_roundw
      case rel => exact ⟨k + 1, by omega, by go_num, below_drewN BB.out _⟩
      case measure => simp [intOf]; omega
    · obtain rfl : k = n := by omega
      go_wp2
      go_ret
      exact ⟨rfl, BB.out⟩
end Go.Proofs.YtjjngablalnbeaaDoor.P
