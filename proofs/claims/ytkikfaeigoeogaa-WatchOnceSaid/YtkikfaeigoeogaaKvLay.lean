/- A thing is laid into a list: hist's way, in its own row, and the document's. -/
import Derived.Test.YtkikfaeigoeogaaKvIns
import Derived.Test.YtkikfaeigoeogaaKvOne
import Derived.Lib.QuietBelow
import Derived.Deep.LoopGhost
namespace Go.Proofs.Ytkikfaeigoeogaa.P
open Go.RowKit Go.Sort
set_option maxHeartbeats 400000
set_option linter.unusedVariables false
set_option maxRecDepth 100000

theorem layL_hit {l : List KV} {x y : KV} {i : Nat} (hall : ∀ z ∈ l.take i, tlt z.key x.key = true) (hy : l[i]? = some y) (he : teq y.key x.key = true) : layL l x = l.take i ++ x :: l.drop (i + 1) := by
  conv => lhs; rw [split_at l i y hy]
  rw [layL_pre _ _ _ hall]
  have h := teq_iff.1 he
  simp [layL, h, tlt_self, teq_self]
theorem layL_mid {l : List KV} {x y : KV} {i : Nat} (hall : ∀ z ∈ l.take i, tlt z.key x.key = true) (hy : l[i]? = some y) (hlt : tlt x.key y.key = true) : layL l x = l.take i ++ x :: l.drop i := by
  have hd : l.drop i = y :: l.drop (i + 1) := by
    obtain ⟨hk, rfl⟩ := List.getElem?_eq_some_iff.1 hy
    exact List.drop_eq_getElem_cons hk
  conv => lhs; rw [split_at l i y hy]
  rw [layL_pre _ _ _ hall, hd]
  simp [layL, tlt_asym hlt, tlt_ne' hlt]
theorem layL_end {l : List KV} {x : KV} {i : Nat} (hall : ∀ z ∈ l.take i, tlt z.key x.key = true) (hi : l.length ≤ i) : layL l x = l.take i ++ x :: l.drop i := by
  rw [List.take_of_length_le hi] at hall ⊢
  rw [List.drop_of_length_le hi]
  have := layL_pre l [] x hall
  rw [List.append_nil] at this
  rw [this]; rfl

/-- The cells of a row, with one thing in another's place. -/
theorem own_set (base g cap i m : Nat) (l : List KV) (x : KV) (w : World) (hl : l.length = i + 1 + m) (hown : w.ownsRow base 36 6 (.slice (some ⟨g, 0, none⟩) (i + 1 + m) cap) (i + 1 + m) (cellsL l)) :
    (w.setCells g (i * 6) x.cells).ownsRow base 36 6 (.slice (some ⟨g, 0, none⟩) (i + 1 + m) cap) (i + 1 + m) (cellsL (l.take i ++ x :: l.drop (i + 1))) ∧ Below base w (w.setCells g (i * 6) x.cells) := by
  obtain ⟨cur, hbg, hrow, hnc, hcm, hcs, htake⟩ := own_row hown
  refine ⟨RowAt.own (RowAt.setCells _ w _ _ hrow) hbg hnc hcm (by rw [layC_size, hcs]) ?_, below_setCells _ _ _ (Below.refl _ _) hbg⟩
  have hx6 : x.cells.length = 6 := rfl
  obtain ⟨hsp, hl1, hl2⟩ := cells_split l i (by omega)
  obtain ⟨hsp', hl1', hl2'⟩ := cells_split l (i + 1) (by omega)
  rw [layC_list _ _ _ (by rw [hx6]; omega), hx6]
  have e1 : cur.toList.take (i * 6) = cellsL (l.take i) := by
    have e2 : cur.toList.take (i * 6) = (cellsL l).take (i * 6) := by rw [← htake, List.take_take]; congr 1; omega
    rw [e2, hsp, List.take_left' hl1]
  have e2 : cur.toList.drop (i * 6 + 6) = cellsL (l.drop (i + 1)) ++ cur.toList.drop ((i + 1 + m) * 6) := by
    have h0 : cur.toList = cellsL l ++ cur.toList.drop ((i + 1 + m) * 6) := by rw [← htake, List.take_append_drop]
    have h1 : (cellsL l).drop (i * 6 + 6) = cellsL (l.drop (i + 1)) := by rw [hsp', List.drop_left' (by rw [hl1']; omega)]
    conv => lhs; rw [h0]
    rw [List.drop_append_of_le_length (by rw [cellsL_len]; omega), h1]
  rw [e1, e2, show l.take i ++ x :: l.drop (i + 1) = l.take i ++ ([x] ++ l.drop (i + 1)) from rfl, cellsL_app, cellsL_app, cellsL_one]
  rw [show cellsL (l.take i) ++ x.cells ++ (cellsL (l.drop (i + 1)) ++ cur.toList.drop ((i + 1 + m) * 6)) = (cellsL (l.take i) ++ (x.cells ++ cellsL (l.drop (i + 1)))) ++ cur.toList.drop ((i + 1 + m) * 6) by simp]
  exact List.take_left' (by rw [List.length_append, List.length_append, hl1, hx6, hl2']; omega)

def ltTo (x : KV) (l : List KV) (j : Nat) : Prop := ∀ z ∈ l.take j, tlt z.key x.key = true
theorem ltTo.next {x y : KV} {l : List KV} {j : Nat} (h : ltTo x l j) (hy : l[j]? = some y) (hlt : tlt y.key x.key = true) : ltTo x l (j + 1) := by
  intro z hz
  rw [take_succ l j y hy] at hz
  rcases List.mem_append.1 hz with hz | hz
  · exact h z hz
  · simp at hz; subst hz; exact hlt
theorem own_ne {w : World} {base n B : Nat} {v : Value} {xs : List Value} (h : w.ownsRow base 36 6 v n xs) (hB : w.heap.size ≤ B) : ∀ g, v.ownBlock = some g → g ≠ B := fun g hg => by
  have := (h.lt g hg).2; omega

theorem lay_own (base : Nat) (A : Option Addr) (c : Nat) (l : List KV) (x : KV) (w : World) (hown : w.ownsRow base 36 6 (.slice A l.length c) l.length (cellsL l)) (ok : ∀ y ∈ l, y.ok) (hxk : x.ok) (hn : l.length ≤ 1000000) (hb : base ≤ w.heap.size) :
    Calls Try.prog 51 #[.slice A l.length c, x.agg] w (OwnEnd base (layL l x) w) := by
  have HO := Lib.hid hown
  have H := Lib.hid (own_kvs hown ok)
  have HB := Lib.hid hb
  have HW0 := Lib.hid (((Below.refl w.heap.size w).alloc (Nat.le_refl _) (x.obj 36)))
  clear hown ok hb
  obtain ⟨n, hnl⟩ : ∃ n, n = l.length := ⟨_, rfl⟩
  rw [← hnl] at HO H hn ⊢
  have HL := Lib.hid hnl.symm
  clear hnl
  go_enter Try.func51, Try.ntmps51
  go_wp2
  go_step3
  go_wp2
  go_step3
  go_wp2
  go_loopw [5, 12] (fun at_ i wr => ∃ j : Nat, j ≤ n ∧ i = .int .i64 j ∧ at_ = .int .i64 n ∧ ltTo x l j ∧ Below (w.heap.size + 1) (w.alloc (x.obj 36)) wr) (fun _ i _ => n - (intOf i).toNat)
  case atStart => exact ⟨0, Nat.zero_le _, rfl, rfl, fun z hz => by simp at hz, Below.refl _ _⟩
  case round =>
    obtain ⟨j, hj, rfl, rfl, hall, hbel⟩ := hrel
    have HA := Lib.hid hall
    have HBR := Lib.hid hbel
    have hxb : wr.heap[w.heap.size]? = some (x.obj 36) := (hbel.block w.heap.size (by omega)).trans (heap_alloc_new w _)
    have HXB := Lib.hid hxb
    have HZ : Hid (w.heap.size + 1 ≤ wr.heap.size) := Lib.hid (by have := hbel.size; simpa using this)
    have HWW := Lib.hid (HW0.out.trans (HBR.out.mono (by simp)))
    have HOW := Lib.hid (own_keep HO.out HWW.out)
    have x0 : wr.cell? ⟨w.heap.size, 0, none⟩ = some (.string x.key) := by rw [cell_of_row wr w.heap.size 0 _ _ _ hxb]; rfl
    have x1 : wr.cell? ⟨w.heap.size, 1, none⟩ = some (.string x.val) := by rw [cell_of_row wr w.heap.size 1 _ _ _ hxb]; rfl
    have x2 : wr.cell? ⟨w.heap.size, 2, none⟩ = some (.int .i64 x.cre) := by rw [cell_of_row wr w.heap.size 2 _ _ _ hxb]; rfl
    have x3 : wr.cell? ⟨w.heap.size, 3, none⟩ = some (.int .i64 x.mod) := by rw [cell_of_row wr w.heap.size 3 _ _ _ hxb]; rfl
    have x4 : wr.cell? ⟨w.heap.size, 4, none⟩ = some (.int .i64 x.ver) := by rw [cell_of_row wr w.heap.size 4 _ _ _ hxb]; rfl
    have x5 : wr.cell? ⟨w.heap.size, 5, none⟩ = some (.int .i64 x.lea) := by rw [cell_of_row wr w.heap.size 5 _ _ _ hxb]; rfl
    have hlt0 : w.heap.size < wr.heap.size := HZ.out
    clear hall hbel hxb
    by_cases hlt : j < n
    · obtain ⟨a, y, rfl, hbl, hy, hok, hc⟩ := (H.out.keep HWW.out).at_ hlt
      obtain ⟨c0, c1, c2, c3, c4, c5⟩ := hc
      have HY := Lib.hid hy
      clear hok hbl hy
      cases h1 : tlt y.key x.key with
      | true =>
        have HT := Lib.hid h1
        have HC := Lib.hid (cmpK_lt h1)
        clear h1
        go_wp2_with fail
        refine (cmp_any y.key x.key _).mono ?_; rintro e w1 ⟨rfl, rfl⟩
        rw [HC.out]
        go_wp2
        go_roundw
        case rel => exact ⟨j + 1, by omega, by go_num, rfl, HA.out.next HY.out HT.out, HBR.out.alloc HZ.out _⟩
        case measure => simp [intOf]; omega
      | false =>
        cases h2 : teq y.key x.key with
        | true =>
          have HLAY := Lib.hid (layL_hit HA.out HY.out h2)
          have HC := Lib.hid (cmpK_eq h2)
          clear h1 h2
          obtain ⟨m, hm⟩ : ∃ m, n = j + 1 + m := ⟨n - (j + 1), by omega⟩
          have HLM : Hid (l.length = j + 1 + m) := Lib.hid (HL.out.trans hm)
          have HOM : Hid (wr.ownsRow base 36 6 (.slice (some a) (j + 1 + m) c) (j + 1 + m) (cellsL l)) := Lib.hid (by have := HOW.out; rw [hm] at this; exact this)
          obtain ⟨g, hg⟩ : ∃ g, a = ⟨g, 0, none⟩ := by
            rcases HOW.out.2 with ⟨h, h0⟩ | ⟨g, cap, cur, hv, _⟩
            · cases h
            · injection hv with e1; injection e1 with e1; exact ⟨g, e1⟩
          subst hg
          have e0 : (⟨g, 0, none⟩ : Addr).add (j * 6) = ⟨g, j * 6, none⟩ := by unfold Addr.add; split <;> simp_all
          rw [e0] at c0 c1 c2 c3 c4 c5
          simp only at c0 c1 c2 c3 c4 c5
          obtain ⟨cur, hbg, hrow, _⟩ := own_row HOW.out
          have hgw := hrow.lt
          have hfz := hrow.frozen
          have HFIN := Lib.hid (own_set base g c j m l x wr HLM.out HOM.out)
          have hmn := Lib.hid hm
          clear hrow hbg hm e0
          go_wp2_with fail
          refine (cmp_any y.key x.key _).mono ?_; rintro e w1 ⟨rfl, rfl⟩
          rw [HC.out]
          go_wp2
          rw [Exit.noGoto_ret]
          go_ret
          have hlen : (layL l x).length = n := by rw [HLAY.out, List.length_append, List.length_take, List.length_cons, List.length_drop, HL.out]; omega
          refine ⟨some ⟨g, 0, none⟩, c, by rw [hlen]; rfl, ?_, ((HWW.out.mono HB.out).trans HFIN.out.2).alloc (Nat.le_trans HB.out (Nat.le_trans HWW.out.size HFIN.out.2.size)) _⟩
          rw [hlen, HLAY.out, hmn.out]
          exact HFIN.out.1.alloc _
        | false =>
          have HLAY := Lib.hid (layL_mid HA.out HY.out (tlt_total h1 h2))
          have HC := Lib.hid (cmpK_gt (tlt_total h1 h2))
          clear h1 h2
          go_wp2_with fail
          refine (cmp_any y.key x.key _).mono ?_; rintro e w1 ⟨rfl, rfl⟩
          rw [HC.out]
          have HI := Lib.hid (insert_at base (some a) n c j (wr.heap.size + 1) l x ((wr.alloc (y.obj 36)).alloc (x.obj 36)) HL.out ((HOW.out.alloc _).alloc _) (by have := heap_alloc_new (wr.alloc (y.obj 36)) (x.obj 36); simpa using this) (own_ne HOW.out (by omega)) (by omega) hn (by have := HB.out; have := HWW.out.size; simp; omega))
          go_wp2_with fail
          refine HI.out.mono ?_; rintro e w2 ⟨A2, c2, rfl, hown2, hb2⟩
          have HO2 := Lib.hid hown2
          have HB2 := Lib.hid hb2
          clear hown2 hb2
          go_wp2
          rw [Exit.noGoto_ret]
          go_ret
          have hlen : (layL l x).length = n + 1 := by rw [HLAY.out, List.length_append, List.length_take, List.length_cons, List.length_drop, HL.out]; omega
          refine ⟨A2, c2, by rw [hlen]; rfl, by rw [hlen, HLAY.out]; exact HO2.out, Below.trans ?_ HB2.out⟩
          exact ((HWW.out.mono HB.out).alloc (Nat.le_trans HB.out HWW.out.size) _).alloc (by have := HB.out; have := HWW.out.size; simp; omega) _
    · have e : j = n := by omega
      subst e
      have HLAY := Lib.hid (layL_end HA.out (by rw [HL.out]; omega))
      have HI := Lib.hid (insert_at base A j c j wr.heap.size l x (wr.alloc (x.obj 36)) HL.out (HOW.out.alloc _) (heap_alloc_new wr _) (own_ne HOW.out (Nat.le_refl _)) (Nat.le_refl _) hn (by have := HB.out; have := HWW.out.size; simp; omega))
      go_wp2_with fail
      refine HI.out.mono ?_; rintro e w2 ⟨A2, c2, rfl, hown2, hb2⟩
      have HO2 := Lib.hid hown2
      have HB2 := Lib.hid hb2
      clear hown2 hb2
      go_wp2
      rw [Exit.noGoto_ret]
      go_ret
      have hlen : (layL l x).length = j + 1 := by rw [HLAY.out, List.length_append, List.length_take, List.length_cons, List.length_drop, HL.out]; omega
      refine ⟨A2, c2, by rw [hlen]; rfl, by rw [hlen, HLAY.out]; exact HO2.out, Below.trans ?_ HB2.out⟩
      exact (HWW.out.mono HB.out).alloc (Nat.le_trans HB.out HWW.out.size) _

theorem lay_at (base : Nat) (A : Option Addr) (n c : Nat) (l : List KV) (x : KV) (w : World) (hl : l.length = n) (hown : w.ownsRow base 36 6 (.slice A n c) n (cellsL l)) (ok : ∀ y ∈ l, y.ok) (hxk : x.ok) (hn : n ≤ 1000000) (hb : base ≤ w.heap.size) :
    Calls Try.prog 51 #[.slice A n c, x.agg] w (OwnEnd base (layL l x) w) := by
  subst hl
  exact lay_own base A c l x w hown ok hxk hn hb

end Go.Proofs.Ytkikfaeigoeogaa.P
