/- Texts of this seat in one: MvAbove, MvSet, MvDel, MvShrink. -/
import Derived.Test.YtkikfaeigoeogaaMvApply
/- Events behind a revision: the closure and the search. -/
namespace Go.Proofs.Ytkikfaeigoeogaa.P
open Go.RowKit Go.Sort
set_option maxHeartbeats 1000000
set_option linter.unusedVariables false
set_option linter.unusedSimpArgs false
set_option maxRecDepth 100000

abbrev goneB (t : Int) (e : Ev) : Bool := decide (e.rev ≤ t)
theorem abovef_any (x : Ev) (t : Int) (p : Addr) (w : World) (hp : w.cell? p = some (.int .i64 t)) :
    Calls Try.prog 58 #[x.agg, .pointer (some p)] w fun e w' => e = .returned (.bool (goneB t x)) ∧ Below w.heap.size w w' := by
  have hlt := World.block_lt_of_cell? w p hp
  have hp' := ((new1 w (x.obj 43)).cell (p := p) hlt).trans hp
  have f0 := (own_new w #[.int .i64 x.rev, .bool x.gone, .string x.kv.key, .string x.kv.val, .int .i64 x.kv.cre, .int .i64 x.kv.mod, .int .i64 x.kv.ver, .int .i64 x.kv.lea] 43).cell 0 _ rfl
  go_enter Try.func58, Try.ntmps58
  go_wp2
  go_ret
  exact ⟨by simp [goneB], new1 w _⟩
/-- Where the first lies that goes. -/
def FindEnd (l : List Ev) (t : Int) (w : World) (e : Ending) (w' : World) : Prop :=
  ∃ i : Int, e = .returned (.int .i64 i) ∧ ((i = -1 ∧ AllTo (fun y => !goneB t y) l l.length) ∨ (∃ (j : Nat) (x : Ev), i = j ∧ l[j]? = some x ∧ goneB t x = true ∧ AllTo (fun y => !goneB t y) l j)) ∧ Below w.heap.size w w'
theorem indexE_any (A : Option Addr) (n c : Nat) (l : List Ev) (t : Int) (p : Addr) (w : World) (h : Evs w A n c l) (hn : n ≤ 1000000) (hp : w.cell? p = some (.int .i64 t)) :
    Calls Try.prog 73 #[.slice A n c, .func (.func 58) #[] #[.pointer (some p)]] w (FindEnd l t w) := by
  have hlt0 := World.block_lt_of_cell? w p hp
  have H := Lib.hid h
  have HP := Lib.hid hp
  have HL := Lib.hid hlt0
  clear h hp hlt0
  go_enter Try.func73, Try.ntmps73
  go_wp2
  go_loopw [8] (fun i wr => ∃ j : Nat, j ≤ n ∧ i = .int .i64 j ∧ AllTo (fun y => !goneB t y) l j ∧ Below w.heap.size w wr) (fun i _ => n - (intOf i).toNat)
  case atStart => exact ⟨0, Nat.zero_le _, rfl, rfl, Below.refl _ _⟩
  case round =>
    obtain ⟨j, hj, rfl, hall, hbel⟩ := hrel
    by_cases hlt : j < n
    · obtain ⟨a, x, rfl, hbl, hx, hok, hc⟩ := (H.out.keep hbel).at_ hlt
      obtain ⟨c0, c1, c2, c3, c4, c5, c6, c7⟩ := hc
      have HA := Lib.hid hall
      have HB := Lib.hid hbel
      have HX := Lib.hid hx
      have HC := Lib.hid ((HB.out.cell HL.out).trans HP.out)
      clear hok hall hbel hx hbl
      cases ht : goneB t x with
      | true =>
        have HT := Lib.hid ht
        clear ht
        go_wp2_with fail
        refine (abovef_any x t p wr HC.out).mono ?_; rintro e w1 ⟨rfl, hb⟩
        have HB1 := Lib.hid hb
        clear hb
        rw [HT.out]
        go_wp2
        go_ret
        exact ⟨j, rfl, .inr ⟨j, x, rfl, HX.out, HT.out, HA.out⟩, HB.out.trans (HB1.out.mono HB.out.size)⟩
      | false =>
        have HT := Lib.hid ht
        clear ht
        go_wp2_with fail
        refine (abovef_any x t p wr HC.out).mono ?_; rintro e w1 ⟨rfl, hb⟩
        have HB1 := Lib.hid hb
        clear hb
        rw [HT.out]
        go_wp2
        go_roundw
        case rel => exact ⟨j + 1, by omega, by go_num, by show _ = true; rw [all_take_s l _ j x HX.out, HA.out.out, HT.out]; rfl, HB.out.trans (HB1.out.mono HB.out.size)⟩
        case measure => simp [intOf]; omega
    · have e : j = n := by omega
      subst e
      have HA := Lib.hid hall
      have HB := Lib.hid hbel
      clear hall hbel
      go_wp2
      go_ret
      exact ⟨-1, rfl, .inl ⟨rfl, by rw [H.out.len]; exact HA.out⟩, HB.out⟩
end Go.Proofs.Ytkikfaeigoeogaa.P
/- Events in a row of the call's own, one put in another's place. -/
namespace Go.Proofs.Ytkikfaeigoeogaa.P
open Go.RowKit Go.Sort
set_option maxHeartbeats 1000000
set_option linter.unusedVariables false
set_option linter.unusedSimpArgs false
set_option maxRecDepth 100000

theorem own_rowE {w : World} {base g n cap : Nat} {xs : List Value} (hown : w.ownsRow base 43 8 (.slice (some ⟨g, 0, none⟩) n cap) n xs) : ∃ cur, base ≤ g ∧ RowAt w g 43 cur ∧ n ≤ cap ∧ cap ≤ maxLen ∧ cur.size = cap * 8 ∧ cur.toList.take (n * 8) = xs := by
  rcases hown.2 with ⟨h, _⟩ | ⟨g', cap', cur, hv, hb, hg, h1, h2, h3, h4⟩
  · cases h
  · injection hv with e1 e2 e3
    injection e1 with e1
    injection e1 with e1 _ _
    subst e1 e3
    exact ⟨cur, hb, hg, h1, h2, h3, h4⟩
theorem cellsE_split (l : List Ev) (i : Nat) (hi : i ≤ l.length) : cellsE l = cellsE (l.take i) ++ cellsE (l.drop i) ∧ (cellsE (l.take i)).length = i * 8 ∧ (cellsE (l.drop i)).length = (l.length - i) * 8 := by
  refine ⟨by rw [← cellsE_app, List.take_append_drop], ?_, ?_⟩
  · rw [cellsE_len, List.length_take, Nat.min_eq_left hi]
  · rw [cellsE_len, List.length_drop]
theorem own_setE (base g cap i m : Nat) (l : List Ev) (x : Ev) (w : World) (hl : l.length = i + 1 + m) (hown : w.ownsRow base 43 8 (.slice (some ⟨g, 0, none⟩) (i + 1 + m) cap) (i + 1 + m) (cellsE l)) :
    (w.setCells g (i * 8) x.cells).ownsRow base 43 8 (.slice (some ⟨g, 0, none⟩) (i + 1 + m) cap) (i + 1 + m) (cellsE (l.take i ++ x :: l.drop (i + 1))) ∧ Below base w (w.setCells g (i * 8) x.cells) := by
  obtain ⟨cur, hbg, hrow, hnc, hcm, hcs, htake⟩ := own_rowE hown
  refine ⟨RowAt.own (RowAt.setCells _ w _ _ hrow) hbg hnc hcm (by rw [layC_size, hcs]) ?_, below_setCells _ _ _ (Below.refl _ _) hbg⟩
  have hx8 : x.cells.length = 8 := rfl
  obtain ⟨hsp, hl1, hl2⟩ := cellsE_split l i (by omega)
  obtain ⟨hsp', hl1', hl2'⟩ := cellsE_split l (i + 1) (by omega)
  rw [layC_list _ _ _ (by rw [hx8]; omega), hx8]
  have e1 : cur.toList.take (i * 8) = cellsE (l.take i) := by
    have e2 : cur.toList.take (i * 8) = (cellsE l).take (i * 8) := by rw [← htake, List.take_take]; congr 1; omega
    rw [e2, hsp, List.take_left' hl1]
  have e2 : cur.toList.drop (i * 8 + 8) = cellsE (l.drop (i + 1)) ++ cur.toList.drop ((i + 1 + m) * 8) := by
    have h0 : cur.toList = cellsE l ++ cur.toList.drop ((i + 1 + m) * 8) := by rw [← htake, List.take_append_drop]
    have h1 : (cellsE l).drop (i * 8 + 8) = cellsE (l.drop (i + 1)) := by rw [hsp', List.drop_left' (by rw [hl1']; omega)]
    conv => lhs; rw [h0]
    rw [List.drop_append_of_le_length (by rw [cellsE_len]; omega), h1]
  rw [e1, e2, show l.take i ++ x :: l.drop (i + 1) = l.take i ++ ([x] ++ l.drop (i + 1)) from rfl, cellsE_app, cellsE_app, cellsE_one]
  rw [show cellsE (l.take i) ++ x.cells ++ (cellsE (l.drop (i + 1)) ++ cur.toList.drop ((i + 1 + m) * 8)) = (cellsE (l.take i) ++ (x.cells ++ cellsE (l.drop (i + 1)))) ++ cur.toList.drop ((i + 1 + m) * 8) by simp]
  exact List.take_left' (by rw [List.length_append, List.length_append, hl1, hx8, hl2']; omega)
/-- Wherever in the row. -/
theorem own_atE (base g cap i n : Nat) (l : List Ev) (x : Ev) (w : World) (hl : l.length = n) (hi : i < n) (hown : w.ownsRow base 43 8 (.slice (some ⟨g, 0, none⟩) n cap) n (cellsE l)) :
    (w.setCells g (i * 8) x.cells).ownsRow base 43 8 (.slice (some ⟨g, 0, none⟩) n cap) n (cellsE (l.take i ++ x :: l.drop (i + 1))) ∧ Below base w (w.setCells g (i * 8) x.cells) := by
  obtain ⟨m, rfl⟩ : ∃ m, n = i + 1 + m := ⟨n - (i + 1), by omega⟩
  exact own_setE base g cap i m l x w hl hown
/-- How far the kept ones have been put together: i of them from the first j; what lies behind j is as it was. -/
structure KeptTo (l M : List Ev) (t : Int) (i j : Nat) : Prop where
  len : M.length = l.length
  ij : i ≤ j
  pre : M.take i = (l.take j).filter fun e => !goneB t e
  post : M.drop j = l.drop j
theorem KeptTo.skip {l M : List Ev} {t : Int} {i j : Nat} {x : Ev} (h : KeptTo l M t i j) (hx : l[j]? = some x) (hg : goneB t x = true) : KeptTo l M t i (j + 1) := by
  refine ⟨h.len, Nat.le_succ_of_le h.ij, ?_, ?_⟩
  · rw [take_succ l j x hx, List.filter_append, h.pre]
    simp at hg; simp [hg]
  · have := congrArg (List.drop 1) h.post
    rwa [List.drop_drop, List.drop_drop] at this
theorem KeptTo.more {l M : List Ev} {t : Int} {i j : Nat} {x : Ev} (h : KeptTo l M t i j) (hx : l[j]? = some x) (hg : goneB t x = false) : KeptTo l (M.take i ++ x :: M.drop (i + 1)) t (i + 1) (j + 1) := by
  have hj : j < l.length := (List.getElem?_eq_some_iff.1 hx).1
  have hij := h.ij
  have hl := h.len
  have hti : (M.take i).length = i := by rw [List.length_take]; omega
  refine ⟨?_, by omega, ?_, ?_⟩
  · rw [List.length_append, List.length_cons, List.length_drop, hti]; omega
  · rw [take_succ l j x hx, List.filter_append, ← h.pre, show M.take i ++ x :: M.drop (i + 1) = (M.take i ++ [x]) ++ M.drop (i + 1) by simp, List.take_left' (by simp [hti])]
    have hgt : (!goneB t x) = true := by rw [hg]; rfl
    rw [List.filter_cons_of_pos (p := fun e => !goneB t e) hgt]; rfl
  · have hp := congrArg (List.drop 1) h.post
    rw [List.drop_drop, List.drop_drop] at hp
    have h1 : j + 1 = (M.take i ++ [x]).length + (j - i) := by rw [List.length_append, hti, List.length_singleton]; omega
    have e : (M.take i ++ x :: M.drop (i + 1)).drop (j + 1) = (M.drop (i + 1)).drop (j - i) := by
      rw [show M.take i ++ x :: M.drop (i + 1) = (M.take i ++ [x]) ++ M.drop (i + 1) by simp, h1, ← List.drop_drop, List.drop_left]
    rw [e, List.drop_drop, show i + 1 + (j - i) = j + 1 by omega]
    exact hp
end Go.Proofs.Ytkikfaeigoeogaa.P
/- Events taken out of a row of the call's own. -/
namespace Go.Proofs.Ytkikfaeigoeogaa.P
open Go.RowKit Go.Sort
set_option maxHeartbeats 1000000
set_option linter.unusedVariables false
set_option linter.unusedSimpArgs false
set_option maxRecDepth 100000

theorem zero_ev (w : World) : (zeroValue 43).run Try.prog w = .ok zeroEvA w := by kernel_rfl
theorem all_kept {l : List Ev} {t : Int} (h : AllTo (fun y => !goneB t y) l l.length) : above t l = l := by
  have h' := h.out
  rw [List.take_length] at h'
  exact List.filter_eq_self.2 (fun e he => List.all_eq_true.1 h' e he)
theorem kept_first {l : List Ev} {t : Int} {j : Nat} {x : Ev} (h : AllTo (fun y => !goneB t y) l j) (hx : l[j]? = some x) (hg : goneB t x = true) : KeptTo l l t j (j + 1) := by
  have h' := h.out
  refine ⟨rfl, Nat.le_succ _, ?_, rfl⟩
  rw [take_succ l j x hx, List.filter_append, List.filter_eq_self.2 (fun e he => List.all_eq_true.1 h' e he)]
  simp at hg; simp [hg]
theorem row_at8 {w : World} {base g n cap k : Nat} {M : List Ev} {x : Ev} (h : w.ownsRow base 43 8 (.slice (some ⟨g, 0, none⟩) n cap) n (cellsE M)) (hx : M[k]? = some x) : At8 w ⟨g, k * 8, none⟩ x := by
  obtain ⟨cur, _, hrow, _, _, _, htake⟩ := own_rowE h
  have hlen : M.length = n := by have := h.1; rw [cellsE_len] at this; omega
  have hin : k < n := by rw [← hlen]; exact (List.getElem?_eq_some_iff.1 hx).1
  have key : ∀ j, j < 8 → w.cell? ⟨g, k * 8 + j, none⟩ = x.cells[j]? := fun j hj => by
    rw [hrow.cell, ← cellsE_at M k j x hx hj, ← htake, List.getElem?_take_of_lt (by omega), Array.getElem?_toList]
  exact ⟨key 0 (by omega), key 1 (by omega), key 2 (by omega), key 3 (by omega), key 4 (by omega), key 5 (by omega), key 6 (by omega), key 7 (by omega)⟩
theorem deleteE_any (base g cap n : Nat) (l : List Ev) (t : Int) (p : Addr) (w : World) (hl : l.length = n) (hown : w.ownsRow base 43 8 (.slice (some ⟨g, 0, none⟩) n cap) n (cellsE l)) (hn : n ≤ 1000000) (hp : w.cell? p = some (.int .i64 t)) (hpb : p.block < base) (hbs : base ≤ w.heap.size) (ok : ∀ x ∈ l, x.ok) :
    Calls Try.prog 56 #[.slice (some ⟨g, 0, none⟩) n cap, .func (.func 58) #[] #[.pointer (some p)]] w fun e w' => e = .returned (.slice (some ⟨g, 0, none⟩) (above t l).length cap) ∧
      w'.ownsRow base 43 8 (.slice (some ⟨g, 0, none⟩) (above t l).length cap) (above t l).length (cellsE (above t l)) ∧ Below base w w' := by
  have HOWN := Lib.hid hown
  have HOK := Lib.hid ok
  have HP := Lib.hid hp
  have HL := Lib.hid hl
  have tI := indexE_any (some ⟨g, 0, none⟩) n cap l t p w (evs_of_own hown ok) hn hp
  have TI := Lib.hid tI
  have hgc : n ≤ cap := by
    obtain ⟨cur, _, _, h, _⟩ := own_rowE hown
    exact h
  clear hown ok hp tI hl
  go_enter Try.func56, Try.ntmps56
  go_wp2_with fail
  refine TI.out.mono ?_; rintro e w1 ⟨i, rfl, hi, hb⟩
  have B1 := Lib.hid (hb.mono hbs)
  have HW1 := Lib.hid hb
  have O1 := Lib.hid (HOWN.out.kept (grown_of_below hb) (.inr (by simp [Value.ownBlock])))
  have P1 := Lib.hid ((hb.cell (World.block_lt_of_cell? w p HP.out)).trans HP.out)
  clear hb
  rcases hi with ⟨rfl, hall⟩ | ⟨j, x, rfl, hx, hgx, hall⟩
  · have HA := Lib.hid (all_kept hall)
    clear hall
    go_wp2
    go_ret
    rw [HA.out, HL.out]
    exact ⟨rfl, O1.out, B1.out⟩
  · have K0 := Lib.hid (kept_first hall hx hgx)
    have hjn : j < n := by rw [← HL.out]; exact (List.getElem?_eq_some_iff.1 hx).1
    clear hall hx hgx
    go_wp2
    go_loopw [5, 6] (fun iv jv wr => ∃ (i k : Nat) (M : List Ev), k ≤ n ∧ i < k ∧ iv = .int .i64 i ∧ jv = .int .i64 k ∧ KeptTo l M t i k ∧ wr.ownsRow base 43 8 (.slice (some ⟨g, 0, none⟩) n cap) n (cellsE M) ∧ Below base w wr ∧ w.heap.size ≤ wr.heap.size) (fun _ jv _ => n - (intOf jv).toNat)
    case atStart => exact ⟨j, j + 1, l, by omega, by omega, rfl, by go_num, K0.out, O1.out, B1.out, HW1.out.size⟩
    case round =>
      obtain ⟨i, k, M, hk, hik, rfl, rfl, hkt, hown, hbel, hsz⟩ := hrel
      have KT := Lib.hid hkt
      have OW := Lib.hid hown
      have BW := Lib.hid hbel
      have PW := Lib.hid ((hbel.cell hpb).trans HP.out)
      have MLEN : Hid (M.length = n) := Lib.hid (hkt.len.trans HL.out)
      by_cases hlt : k < n
      · obtain ⟨x, hx⟩ : ∃ x, l[k]? = some x := ⟨_, List.getElem?_eq_getElem (by rw [HL.out]; exact hlt)⟩
        have hMx : M[k]? = some x := by
          have e := congrArg (fun z : List Ev => z[0]?) hkt.post
          simpa [hx] using e
        have c8 := row_at8 hown hMx
        have X0 := Lib.hid hx
        have N1 := Lib.hid (own_new wr #[.int .i64 x.rev, .bool x.gone, .string x.kv.key, .string x.kv.val, .int .i64 x.kv.cre, .int .i64 x.kv.mod, .int .i64 x.kv.ver, .int .i64 x.kv.lea] 43)
        have tA := abovef_any x t p (wr.alloc (x.obj 43)) (((new1 wr (x.obj 43)).cell (World.block_lt_of_cell? wr p PW.out)).trans PW.out)
        have TA := Lib.hid tA
        obtain ⟨c0, c1, c2, c3, c4, c5, c6, c7⟩ := c8
        simp only at c0 c1 c2 c3 c4 c5 c6 c7
        clear hkt hown hbel hx hMx tA
        have hwk : IntKind.i64.wrap ((k : Int) + 1) = ((k + 1 : Nat) : Int) := by rw [IntKind.wrap_i64]; omega
        have hwi : IntKind.i64.wrap ((i : Int) + 1) = ((i + 1 : Nat) : Int) := by rw [IntKind.wrap_i64]; omega
        cases ht : goneB t x with
        | true =>
          have HT := Lib.hid ht
          clear ht
          go_wp2_with fail
          refine TA.out.mono ?_; rintro e w2 ⟨rfl, hb⟩
          rw [HT.out]
          have B2 := Lib.hid (then_ (new1 wr _) hb)
          clear hb
          go_wp2
          go_roundw
          case rel => refine ⟨_, _, _, _, _, _, _, _, _, _, _, _, _, _, _, _, _, _, _, _, _, _, _, ⟨i, k + 1, M, by omega, by omega, rfl, by go_num, KT.out.skip X0.out HT.out, OW.out.kept (grown_of_below B2.out) (.inr (by simp [Value.ownBlock])), BW.out.trans (B2.out.mono (Nat.le_trans hbs hsz)), Nat.le_trans hsz B2.out.size⟩, rfl⟩
          case measure => simp [intOf]; omega
        | false =>
          have HT := Lib.hid ht
          clear ht
          go_wp2_with fail
          refine TA.out.mono ?_; rintro e w2 ⟨rfl, hb⟩
          rw [HT.out]
          have B2 := Lib.hid (then_ (new1 wr _) hb)
          have N2 := Lib.hid (N1.out.below hb)
          have O2 := Lib.hid (OW.out.kept (grown_of_below B2.out) (.inr (by simp [Value.ownBlock])))
          clear hb c0 c1 c2 c3 c4 c5 c6 c7
          have v0 := N2.out.cell 0 _ rfl
          have v1 := N2.out.cell 1 _ rfl
          have v2 := N2.out.cell 2 _ rfl
          have v3 := N2.out.cell 3 _ rfl
          have v4 := N2.out.cell 4 _ rfl
          have v5 := N2.out.cell 5 _ rfl
          have v6 := N2.out.cell 6 _ rfl
          have v7 := N2.out.cell 7 _ rfl
          obtain ⟨z, hz⟩ : ∃ z, M[i]? = some z := ⟨_, List.getElem?_eq_getElem (by rw [MLEN.out]; omega)⟩
          obtain ⟨c0, c1, c2, c3, c4, c5, c6, c7⟩ := row_at8 O2.out hz
          simp only at c0 c1 c2 c3 c4 c5 c6 c7
          obtain ⟨cur, _, hrow, _⟩ := own_rowE O2.out
          have hfz := hrow.frozen
          have HFIN := Lib.hid (own_atE base g cap i n M x w2 MLEN.out (by omega) O2.out)
          clear hrow hz
          go_wp2
          go_roundw
          case rel => refine ⟨_, _, _, _, _, _, _, _, _, _, _, _, _, _, _, _, _, _, _, _, _, _, _, ⟨i + 1, k + 1, _, by omega, by omega, by go_num, by go_num, KT.out.more X0.out HT.out, HFIN.out.1, (BW.out.trans (B2.out.mono (Nat.le_trans hbs hsz))).trans HFIN.out.2, Nat.le_trans hsz (Nat.le_trans B2.out.size HFIN.out.2.size)⟩, rfl⟩
          case measure => simp [intOf]; omega
      · obtain rfl : n = k := by omega
        have HAB : Hid (above t l = M.take i) := Lib.hid (by rw [hkt.pre, take_full l n HL.out]; rfl)
        have HI : Hid ((M.take i).length = i) := Lib.hid (by rw [List.length_take, MLEN.out]; omega)
        obtain ⟨cur, hbg, hrow, hnc, hcm, hcs, htake⟩ := own_rowE hown
        obtain ⟨zs, hzl, hcl⟩ := run_clear_rows (P := Try.prog) wr 23 43 zeroEvA 8 Try.underlying23 zero_ev rfl (by intro v hv; simp [Value.cells] at hv; rcases hv with rfl | rfl | rfl | rfl <;> rfl) (by omega) g (i * 8) (n - i) (by omega)
          (fun t ht => by rw [hrow.cell, Array.getElem?_eq_getElem (by omega)]; rfl) (fun t ht => hrow.frozen _)
        have hfin : Hid ((wr.setCells g (i * 8) zs).ownsRow base 43 8 (.slice (some ⟨g, 0, none⟩) i cap) i (cellsE (M.take i))) := Lib.hid (by
          refine RowAt.own (RowAt.setCells zs wr _ _ hrow) hbg (by omega) hcm (by rw [layC_size, hcs]) ?_
          have hsz8 : cur.toList.length = cap * 8 := by rw [Array.length_toList, hcs]
          rw [layC_list _ _ _ (by rw [hzl, hcs]; omega), List.append_assoc, List.take_left' (by rw [List.length_take, hsz8]; omega)]
          have e2 : cur.toList.take (i * 8) = (cellsE M).take (i * 8) := by rw [← htake, List.take_take]; congr 1; omega
          obtain ⟨hsp, hl1, _⟩ := cellsE_split M i (by rw [MLEN.out]; omega)
          rw [e2, hsp, List.take_left' hl1])
        have hbl := Lib.hid (below_setCells zs wr (i * 8) (Below.refl base wr) hbg)
        have hii : ¬ (cap = i) := by omega
        have hic : i ≤ cap := by omega
        have hii2 : i ≤ n := by omega
        clear hkt hown hbel hrow hcs htake hzl
        go_wp2
        go_ret
        rw [HAB.out, HI.out]
        exact ⟨rfl, hfin.out, BW.out.trans hbl.out⟩
end Go.Proofs.Ytkikfaeigoeogaa.P
/- A store that is shrunk, the program's way. -/
namespace Go.Proofs.Ytkikfaeigoeogaa.P
open Go.RowKit Go.Sort
set_option maxHeartbeats 1000000
set_option linter.unusedVariables false
set_option linter.unusedSimpArgs false
set_option maxRecDepth 100000

theorem deleteE_nil (t : Int) (p : Addr) (w : World) (hp : w.cell? p = some (.int .i64 t)) :
    Calls Try.prog 56 #[.slice none 0 0, .func (.func 58) #[] #[.pointer (some p)]] w fun e w' => e = .returned (.slice none 0 0) ∧ Below w.heap.size w w' := by
  have TI := Lib.hid (indexE_any none 0 0 [] t p w (evs_bare w) (by omega) hp)
  clear hp
  go_enter Try.func56, Try.ntmps56
  go_wp2_with fail
  refine TI.out.mono ?_; rintro e w1 ⟨i, rfl, hi, hb⟩
  have B1 := Lib.hid hb
  clear hb
  rcases hi with ⟨rfl, _⟩ | ⟨j, x, _, hx, _⟩
  · go_wp2
    go_ret
    exact ⟨rfl, B1.out⟩
  · simp at hx
def FreshEvs (w : World) (l : List Ev) (e : Ending) (w' : World) : Prop := ∃ A n c, e = .returned (.slice A n c) ∧ Evs w' A n c l ∧ Below w.heap.size w w' ∧ ∀ a, A = some a → w.heap.size ≤ a.block
theorem above_any (A : Option Addr) (n c : Nat) (l : List Ev) (t : Int) (w : World) (h : Evs w A n c l) (hn : n ≤ 100000) :
    Calls Try.prog 40 #[.slice A n c, .int .i64 t] w (FreshEvs w (above t l)) := by
  obtain rfl := h.len
  have H := Lib.hid (h.keep (new1 w (.cells #[.int .i64 t] 3)))
  have O := Lib.hid (own_new w #[.int .i64 t] 3)
  have B0 := Lib.hid (new1 w (.cells #[.int .i64 t] 3))
  have HOK := Lib.hid h.ok
  clear h
  go_enter Try.func40, Try.ntmps40
  go_wp2_with fail
  refine (cloneE_any A l.length c l _ H.out (by omega)).mono ?_; rintro e w1 ⟨A1, c1, rfl, hown, hb⟩
  have HO1 := Lib.hid hown
  have B1 := Lib.hid (then_ B0.out hb)
  have P1 := Lib.hid ((O.out.below hb).cell 0 _ rfl)
  have hs1 : w.heap.size + 1 ≤ w1.heap.size := by have := hb.size; simpa using this
  clear hb hown
  rcases A1 with _ | a1
  · have hl : l = [] := by
      rcases HO1.out.2 with ⟨hv, h0⟩ | ⟨g, cap, cur, hv, _⟩
      · exact List.eq_nil_of_length_eq_zero h0
      · injection hv with e1; cases e1
    subst hl
    have hc : c1 = 0 := by
      rcases HO1.out.2 with ⟨hv, h0⟩ | ⟨g, cap, cur, hv, _⟩
      · injection hv
      · injection hv with e1; cases e1
    subst hc
    go_wp2_with fail
    refine (deleteE_nil t ⟨w.heap.size, 0, none⟩ w1 P1.out).mono ?_; rintro e w2 ⟨rfl, hb⟩
    have B2 := Lib.hid (then_ B1.out hb); clear hb
    go_wp2
    go_ret
    exact ⟨none, 0, 0, rfl, evs_bare _, B2.out, fun a ha => by cases ha⟩
  · obtain ⟨g, rfl⟩ : ∃ g, a1 = ⟨g, 0, none⟩ := by
      rcases HO1.out.2 with ⟨hv, h0⟩ | ⟨g, cap, cur, hv, _⟩
      · cases hv
      · injection hv with e1; injection e1 with e1; exact ⟨g, e1⟩
    have HO2 : Hid (w1.ownsRow (w.heap.size + 1) 43 8 (.slice (some ⟨g, 0, none⟩) l.length c1) l.length (cellsE l)) := Lib.hid (by have := HO1.out; simpa using this)
    have HD := Lib.hid (deleteE_any (w.heap.size + 1) g c1 l.length l t ⟨w.heap.size, 0, none⟩ w1 rfl HO2.out (by omega) P1.out (Nat.lt_succ_self _) hs1 HOK.out)
    go_wp2_with fail
    refine HD.out.mono ?_; rintro e w2 ⟨rfl, hown, hb⟩
    have HO3 := Lib.hid hown
    have B2 := Lib.hid (B1.out.trans (hb.mono (Nat.le_succ _)))
    clear hb hown
    go_wp2
    go_ret
    exact ⟨_, _, _, rfl, evs_of_own HO3.out (fun x hx => HOK.out x (List.mem_filter.1 hx).1), B2.out, fun a ha => Nat.le_trans (Nat.le_succ _) (ownE_fresh HO3.out a ha)⟩
def shrunk (s : St) (rev : Int) : St := if keptE s rev = 0 then shrinkS s rev else s
def ShrinkEnd (s : St) (rev : Int) (w : World) (e : Ending) (w' : World) : Prop :=
  ∃ A n c B m d, e = .returned (.tuple #[(shrunk s rev).agg A n c B m d, .int .i64 (keptE s rev)]) ∧ StAt w' (shrunk s rev) A n c B m d ∧ Below w.heap.size w w'
theorem ShrinkEnd.mk {s : St} {rev : Int} {w : World} {e : Ending} {w' : World} {s' : St} {x : Int} {A : Option Addr} {n c : Nat} {B : Option Addr} {m d : Nat} (h1 : shrunk s rev = s') (h3 : keptE s rev = x)
    (he : e = .returned (.tuple #[s'.agg A n c B m d, .int .i64 x])) (hs : StAt w' s' A n c B m d) (hb : Below w.heap.size w w') : ShrinkEnd s rev w e w' := by
  subst h1 h3
  exact ⟨_, _, _, _, _, _, he, hs, hb⟩
theorem shrink_any (s : St) (A : Option Addr) (n c : Nat) (B : Option Addr) (m d : Nat) (rev : Int) (w : World) (h : StAt w s A n c B m d) (hn : n + m ≤ 90000) (hv : inI rev) :
    Calls Try.prog 24 #[s.agg A n c B m d, .int .i64 rev] w (ShrinkEnd s rev w) := by
  have hb0 := then_ (new1 w (.cells (stCells s A n c B m d) 25)) (new1 _ (.cells zSt 25))
  have HH := Lib.hid h
  have B0 := Lib.hid hb0
  have O0 := Lib.hid ((own_new w (stCells s A n c B m d) 25).alloc (.cells zSt 25))
  have R0 := Lib.hid (own_new2 w (.cells (stCells s A n c B m d) 25) zSt 25)
  have HV := Lib.hid hv
  have hml := h.ev.len
  clear h hb0 hv
  by_cases hk : keptE s rev = 0
  · have E1 : Hid (shrunk s rev = shrinkS s rev) := Lib.hid (if_pos hk)
    have HK := Lib.hid hk; clear hk
    go_enter Try.func24, Try.ntmps24
    go_wp2_with fail
    refine (kept_any s A n c B m d rev _ HH.out.rev HH.out.low HV.out).mono ?_; rintro e w1 ⟨rfl, hb⟩
    rw [HK.out]
    have B1 := Lib.hid (then_ B0.out hb)
    have O1 := Lib.hid (O0.out.below hb)
    have R1 := Lib.hid (R0.out.below hb)
    clear hb
    have q0 := O1.out.cell 0 _ rfl
    have q1 := O1.out.cell 1 _ rfl
    have q2 := O1.out.cell 2 _ rfl
    have q3 := O1.out.cell 3 _ rfl
    have qf := O1.out.frozen
    have hw1 := O1.out.lt
    have hw1b := R1.out.lt
    -- Low
    have O2 := Lib.hid (O1.out.set 1 (.int .i64 rev))
    have R2 := Lib.hid (R1.out.other w.heap.size 1 (.int .i64 rev) (by omega))
    have B2 := Lib.hid (B1.out.setCell (p := ⟨w.heap.size, 1, none⟩) (Nat.le_refl _) (.int .i64 rev))
    have p0 := O2.out.cell 0 _ rfl
    have p1 := O2.out.cell 1 _ rfl
    have p2 := O2.out.cell 2 _ rfl
    have p3 := O2.out.cell 3 _ rfl
    go_wp2_with fail
    refine (fold_fresh A n c s.base B m d s.log rev _ (HH.out.kv.keep B2.out) (HH.out.ev.keep B2.out) (by omega)).mono ?_; rintro e w2 ⟨A2, n2, c2, rfl, h2, hb, hf2⟩
    have hsz2 : w1.heap.size ≤ w2.heap.size := by have := hb.size; simpa [World.setCell] using this
    have O3 := Lib.hid (O2.out.below hb)
    have R3 := Lib.hid (R2.out.below hb)
    have B3 := Lib.hid (then_ B2.out hb)
    have K3 := Lib.hid h2
    have HF2 : Hid (∀ a, A2 = some a → w1.heap.size ≤ a.block) := Lib.hid (fun a ha => by have := hf2 a ha; simpa [World.setCell] using this)
    clear hb h2 hf2 q0 q1 q2 q3 p0 p1 p2 p3 qf
    have q0 := O3.out.cell 0 _ rfl
    have q1 := O3.out.cell 1 _ rfl
    have q2 := O3.out.cell 2 _ rfl
    have q3 := O3.out.cell 3 _ rfl
    have qf := O3.out.frozen
    -- Base
    have O4 := Lib.hid (O3.out.set 2 (.slice A2 n2 c2))
    have R4 := Lib.hid (R3.out.other w.heap.size 2 (.slice A2 n2 c2) (by omega))
    have B4 := Lib.hid (B3.out.setCell (p := ⟨w.heap.size, 2, none⟩) (Nat.le_refl _) (.slice A2 n2 c2))
    have K4 := Lib.hid (K3.out.kept (Lib.grownBy_setCell w2 w.heap.size 2 (.slice A2 n2 c2)) (fun a ha hh => by injection hh with hh; have := HF2.out a ha; omega))
    have p0 := O4.out.cell 0 _ rfl
    have p1 := O4.out.cell 1 _ rfl
    have p2 := O4.out.cell 2 _ rfl
    have p3 := O4.out.cell 3 _ rfl
    go_wp2_with fail
    refine (above_any B m d s.log rev _ (HH.out.ev.keep B4.out) (by omega)).mono ?_; rintro e w3 ⟨A3, n3, c3, rfl, h3, hb, hf3⟩
    have O5 := Lib.hid (O4.out.below hb)
    have R5 := Lib.hid (R4.out.below hb)
    have B5 := Lib.hid (then_ B4.out hb)
    have K5 := Lib.hid (K4.out.keep hb)
    have V5 := Lib.hid h3
    have HF3 : Hid (∀ a, A3 = some a → w2.heap.size ≤ a.block) := Lib.hid (fun a ha => by have := hf3 a ha; simpa [World.setCell] using this)
    clear hb h3 hf3 q0 q1 q2 q3 p0 p1 p2 p3 qf
    have q0 := O5.out.cell 0 _ rfl
    have q1 := O5.out.cell 1 _ rfl
    have q2 := O5.out.cell 2 _ rfl
    have q3 := O5.out.cell 3 _ rfl
    have qf := O5.out.frozen
    -- Log
    have O6 := Lib.hid (O5.out.set 3 (.slice A3 n3 c3))
    have R6 := Lib.hid (R5.out.other w.heap.size 3 (.slice A3 n3 c3) (by omega))
    have B6 := Lib.hid (B5.out.setCell (p := ⟨w.heap.size, 3, none⟩) (Nat.le_refl _) (.slice A3 n3 c3))
    have K6 := Lib.hid (K5.out.kept (Lib.grownBy_setCell w3 w.heap.size 3 (.slice A3 n3 c3)) (fun a ha hh => by injection hh with hh; have := HF2.out a ha; omega))
    have V6 := Lib.hid (V5.out.kept (Lib.grownBy_setCell w3 w.heap.size 3 (.slice A3 n3 c3)) (fun a ha hh => by injection hh with hh; have := HF3.out a ha; omega))
    have p0 := O6.out.cell 0 _ rfl
    have p1 := O6.out.cell 1 _ rfl
    have p2 := O6.out.cell 2 _ rfl
    have p3 := O6.out.cell 3 _ rfl
    have f := R6.out.frozen
    have o0 := R6.out.cell 0 _ rfl
    have o1 := R6.out.cell 1 _ rfl
    have o2 := R6.out.cell 2 _ rfl
    have o3 := R6.out.cell 3 _ rfl
    go_wp2
    refine bodyPost_ret (v := .tuple #[(shrinkS s rev).agg A2 n2 c2 A3 n3 c3, .int .i64 0]) (by simp [results, Try.results24, go_sem, o0, o1, o2, o3, shrinkS]) rfl (ShrinkEnd.mk E1.out HK.out rfl ⟨?_, ?_, HH.out.rev, HV.out⟩ (below_set4 B6.out (Nat.le_succ _) _ _ _ _))
    · exact K6.out.kept4 (fun a ha hh => by injection hh with hh; have := HF2.out a ha; omega) _ _ _ _
    · exact V6.out.kept4 (fun a ha hh => by injection hh with hh; have := HF3.out a ha; omega) _ _ _ _
  · have E1 : Hid (shrunk s rev = s) := Lib.hid (if_neg hk)
    have hk2 : (keptE s rev != 0) = true := by simp [hk]
    have E2 : Hid (keptE s rev = keptE s rev) := Lib.hid rfl
    clear hk
    go_enter Try.func24, Try.ntmps24
    go_wp2_with fail
    refine (kept_any s A n c B m d rev _ HH.out.rev HH.out.low HV.out).mono ?_; rintro e w1 ⟨rfl, hb⟩
    have B1 := Lib.hid (then_ B0.out hb)
    have O1 := Lib.hid (O0.out.below hb)
    have R1 := Lib.hid (R0.out.below hb)
    clear hb
    have q0 := O1.out.cell 0 _ rfl
    have q1 := O1.out.cell 1 _ rfl
    have q2 := O1.out.cell 2 _ rfl
    have q3 := O1.out.cell 3 _ rfl
    have f := R1.out.frozen
    have o0 := R1.out.cell 0 _ rfl
    have o1 := R1.out.cell 1 _ rfl
    have o2 := R1.out.cell 2 _ rfl
    have o3 := R1.out.cell 3 _ rfl
    go_wp2
    refine bodyPost_ret (v := .tuple #[s.agg A n c B m d, .int .i64 (keptE s rev)]) (by simp [results, Try.results24, go_sem, o0, o1, o2, o3]) rfl (ShrinkEnd.mk E1.out rfl rfl (HH.out.keep (below_set4 B1.out (Nat.le_succ _) _ _ _ _)) (below_set4 B1.out (Nat.le_succ _) _ _ _ _))
end Go.Proofs.Ytkikfaeigoeogaa.P
