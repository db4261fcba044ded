/- Events taken out of a row of the call's own. -/
import Derived.Test.YtgafkpngnoecaaaMvSet
namespace Go.Proofs.Ytgafkpngnoecaaa.P
open Go.RowKit Go.Sort
set_option maxHeartbeats 1000000
set_option linter.unusedVariables false
set_option linter.unusedSimpArgs false
set_option maxRecDepth 100000

theorem zero_ev (w : World) : (zeroValue 74).run Try.prog w = .ok zeroEvA w := by kernel_rfl
theorem all_kept {l : List Ev} {t : Int} (h : AllTo (fun y => !goneB t y) l l.length) : above t l = l := by
  have h' := h.out
  rw [List.take_length] at h'
  exact List.filter_eq_self.2 (fun e he => List.all_eq_true.1 h' e he)
theorem kept_first {l : List Ev} {t : Int} {j : Nat} {x : Ev} (h : AllTo (fun y => !goneB t y) l j) (hx : l[j]? = some x) (hg : goneB t x = true) : KeptTo l l t j (j + 1) := by
  have h' := h.out
  refine ⟨rfl, Nat.le_succ _, ?_, rfl⟩
  rw [take_succ l j x hx, List.filter_append, List.filter_eq_self.2 (fun e he => List.all_eq_true.1 h' e he)]
  simp at hg; simp [hg]
theorem row_at8 {w : World} {base g n cap k : Nat} {M : List Ev} {x : Ev} (h : w.ownsRow base 74 8 (.slice (some ⟨g, 0, none⟩) n cap) n (cellsE M)) (hx : M[k]? = some x) : At8 w ⟨g, k * 8, none⟩ x := by
  obtain ⟨cur, _, hrow, _, _, _, htake⟩ := own_rowE h
  have hlen : M.length = n := by have := h.1; rw [cellsE_len] at this; omega
  have hin : k < n := by rw [← hlen]; exact (List.getElem?_eq_some_iff.1 hx).1
  have key : ∀ j, j < 8 → w.cell? ⟨g, k * 8 + j, none⟩ = x.cells[j]? := fun j hj => by
    rw [hrow.cell, ← cellsE_at M k j x hx hj, ← htake, List.getElem?_take_of_lt (by omega), Array.getElem?_toList]
  exact ⟨key 0 (by omega), key 1 (by omega), key 2 (by omega), key 3 (by omega), key 4 (by omega), key 5 (by omega), key 6 (by omega), key 7 (by omega)⟩
theorem deleteE_any (base g cap n : Nat) (l : List Ev) (t : Int) (p : Addr) (w : World) (hl : l.length = n) (hown : w.ownsRow base 74 8 (.slice (some ⟨g, 0, none⟩) n cap) n (cellsE l)) (hn : n ≤ 1000000) (hp : w.cell? p = some (.int .i64 t)) (hpb : p.block < base) (hbs : base ≤ w.heap.size) (ok : ∀ x ∈ l, x.ok) :
    Calls Try.prog 75 #[.slice (some ⟨g, 0, none⟩) n cap, .func (.func 77) #[] #[.pointer (some p)]] w fun e w' => e = .returned (.slice (some ⟨g, 0, none⟩) (above t l).length cap) ∧
      w'.ownsRow base 74 8 (.slice (some ⟨g, 0, none⟩) (above t l).length cap) (above t l).length (cellsE (above t l)) ∧ Below base w w' := by
  have HOWN := Lib.hid hown
  have HOK := Lib.hid ok
  have HP := Lib.hid hp
  have HL := Lib.hid hl
  have tI := indexE_any (some ⟨g, 0, none⟩) n cap l t p w (evs_of_own hown ok) hn hp
  have TI := Lib.hid tI
  have hgc : n ≤ cap := by
    obtain ⟨cur, _, _, h, _⟩ := own_rowE hown
    exact h
  clear hown ok hp tI hl
  go_enter Try.func75, Try.ntmps75
  go_wp2_with fail
  refine TI.out.mono ?_; rintro e w1 ⟨i, rfl, hi, hb⟩
  have B1 := Lib.hid (hb.mono hbs)
  have HW1 := Lib.hid hb
  have O1 := Lib.hid (HOWN.out.kept (grown_of_below hb) (.inr (by simp [Value.ownBlock])))
  have P1 := Lib.hid ((hb.cell (World.block_lt_of_cell? w p HP.out)).trans HP.out)
  clear hb
  rcases hi with ⟨rfl, hall⟩ | ⟨j, x, rfl, hx, hgx, hall⟩
  · have HA := Lib.hid (all_kept hall)
    clear hall
    go_wp2
    go_ret
    rw [HA.out, HL.out]
    exact ⟨rfl, O1.out, B1.out⟩
  · have K0 := Lib.hid (kept_first hall hx hgx)
    have hjn : j < n := by rw [← HL.out]; exact (List.getElem?_eq_some_iff.1 hx).1
    clear hall hx hgx
    go_wp2
    go_loopw [5, 6] (fun iv jv wr => ∃ (i k : Nat) (M : List Ev), k ≤ n ∧ i < k ∧ iv = .int .i64 i ∧ jv = .int .i64 k ∧ KeptTo l M t i k ∧ wr.ownsRow base 74 8 (.slice (some ⟨g, 0, none⟩) n cap) n (cellsE M) ∧ Below base w wr ∧ w.heap.size ≤ wr.heap.size) (fun _ jv _ => n - (intOf jv).toNat)
    case atStart => exact ⟨j, j + 1, l, by omega, by omega, rfl, by go_num, K0.out, O1.out, B1.out, HW1.out.size⟩
    case round =>
      obtain ⟨i, k, M, hk, hik, rfl, rfl, hkt, hown, hbel, hsz⟩ := hrel
      have KT := Lib.hid hkt
      have OW := Lib.hid hown
      have BW := Lib.hid hbel
      have PW := Lib.hid ((hbel.cell hpb).trans HP.out)
      have MLEN : Hid (M.length = n) := Lib.hid (hkt.len.trans HL.out)
      by_cases hlt : k < n
      · obtain ⟨x, hx⟩ : ∃ x, l[k]? = some x := ⟨_, List.getElem?_eq_getElem (by rw [HL.out]; exact hlt)⟩
        have hMx : M[k]? = some x := by
          have e := congrArg (fun z : List Ev => z[0]?) hkt.post
          simpa [hx] using e
        have c8 := row_at8 hown hMx
        have X0 := Lib.hid hx
        have N1 := Lib.hid (own_new wr #[.int .i64 x.rev, .bool x.gone, .string x.kv.key, .string x.kv.val, .int .i64 x.kv.cre, .int .i64 x.kv.mod, .int .i64 x.kv.ver, .int .i64 x.kv.lea] 74)
        have tA := abovef_any x t p (wr.alloc (x.obj 74)) (((new1 wr (x.obj 74)).cell (World.block_lt_of_cell? wr p PW.out)).trans PW.out)
        have TA := Lib.hid tA
        obtain ⟨c0, c1, c2, c3, c4, c5, c6, c7⟩ := c8
        simp only at c0 c1 c2 c3 c4 c5 c6 c7
        clear hkt hown hbel hx hMx tA
        have hwk : IntKind.i64.wrap ((k : Int) + 1) = ((k + 1 : Nat) : Int) := by rw [IntKind.wrap_i64]; omega
        have hwi : IntKind.i64.wrap ((i : Int) + 1) = ((i + 1 : Nat) : Int) := by rw [IntKind.wrap_i64]; omega
        cases ht : goneB t x with
        | true =>
          have HT := Lib.hid ht
          clear ht
          go_wp2_with fail
          refine TA.out.mono ?_; rintro e w2 ⟨rfl, hb⟩
          rw [HT.out]
          have B2 := Lib.hid (then_ (new1 wr _) hb)
          clear hb
          go_wp2
          go_roundw
          case rel => refine ⟨_, _, _, _, _, _, _, _, _, _, _, _, _, _, _, _, _, _, _, _, _, _, _, ⟨i, k + 1, M, by omega, by omega, rfl, by go_num, KT.out.skip X0.out HT.out, OW.out.kept (grown_of_below B2.out) (.inr (by simp [Value.ownBlock])), BW.out.trans (B2.out.mono (Nat.le_trans hbs hsz)), Nat.le_trans hsz B2.out.size⟩, rfl⟩
          case measure => simp [intOf]; omega
        | false =>
          have HT := Lib.hid ht
          clear ht
          go_wp2_with fail
          refine TA.out.mono ?_; rintro e w2 ⟨rfl, hb⟩
          rw [HT.out]
          have B2 := Lib.hid (then_ (new1 wr _) hb)
          have N2 := Lib.hid (N1.out.below hb)
          have O2 := Lib.hid (OW.out.kept (grown_of_below B2.out) (.inr (by simp [Value.ownBlock])))
          clear hb c0 c1 c2 c3 c4 c5 c6 c7
          have v0 := N2.out.cell 0 _ rfl
          have v1 := N2.out.cell 1 _ rfl
          have v2 := N2.out.cell 2 _ rfl
          have v3 := N2.out.cell 3 _ rfl
          have v4 := N2.out.cell 4 _ rfl
          have v5 := N2.out.cell 5 _ rfl
          have v6 := N2.out.cell 6 _ rfl
          have v7 := N2.out.cell 7 _ rfl
          obtain ⟨z, hz⟩ : ∃ z, M[i]? = some z := ⟨_, List.getElem?_eq_getElem (by rw [MLEN.out]; omega)⟩
          obtain ⟨c0, c1, c2, c3, c4, c5, c6, c7⟩ := row_at8 O2.out hz
          simp only at c0 c1 c2 c3 c4 c5 c6 c7
          obtain ⟨cur, _, hrow, _⟩ := own_rowE O2.out
          have hfz := hrow.frozen
          have HFIN := Lib.hid (own_atE base g cap i n M x w2 MLEN.out (by omega) O2.out)
          clear hrow hz
          go_wp2
          go_roundw
          case rel => refine ⟨_, _, _, _, _, _, _, _, _, _, _, _, _, _, _, _, _, _, _, _, _, _, _, ⟨i + 1, k + 1, _, by omega, by omega, by go_num, by go_num, KT.out.more X0.out HT.out, HFIN.out.1, (BW.out.trans (B2.out.mono (Nat.le_trans hbs hsz))).trans HFIN.out.2, Nat.le_trans hsz (Nat.le_trans B2.out.size HFIN.out.2.size)⟩, rfl⟩
          case measure => simp [intOf]; omega
      · obtain rfl : n = k := by omega
        have HAB : Hid (above t l = M.take i) := Lib.hid (by rw [hkt.pre, take_full l n HL.out]; rfl)
        have HI : Hid ((M.take i).length = i) := Lib.hid (by rw [List.length_take, MLEN.out]; omega)
        obtain ⟨cur, hbg, hrow, hnc, hcm, hcs, htake⟩ := own_rowE hown
        obtain ⟨zs, hzl, hcl⟩ := run_clear_rows (P := Try.prog) wr 23 74 zeroEvA 8 Try.underlying23 zero_ev rfl (by intro v hv; simp [Value.cells] at hv; rcases hv with rfl | rfl | rfl | rfl <;> rfl) (by omega) g (i * 8) (n - i) (by omega)
          (fun t ht => by rw [hrow.cell, Array.getElem?_eq_getElem (by omega)]; rfl) (fun t ht => hrow.frozen _)
        have hfin : Hid ((wr.setCells g (i * 8) zs).ownsRow base 74 8 (.slice (some ⟨g, 0, none⟩) i cap) i (cellsE (M.take i))) := Lib.hid (by
          refine RowAt.own (RowAt.setCells zs wr _ _ hrow) hbg (by omega) hcm (by rw [layC_size, hcs]) ?_
          have hsz8 : cur.toList.length = cap * 8 := by rw [Array.length_toList, hcs]
          rw [layC_list _ _ _ (by rw [hzl, hcs]; omega), List.append_assoc, List.take_left' (by rw [List.length_take, hsz8]; omega)]
          have e2 : cur.toList.take (i * 8) = (cellsE M).take (i * 8) := by rw [← htake, List.take_take]; congr 1; omega
          obtain ⟨hsp, hl1, _⟩ := cellsE_split M i (by rw [MLEN.out]; omega)
          rw [e2, hsp, List.take_left' hl1])
        have hbl := Lib.hid (below_setCells zs wr (i * 8) (Below.refl base wr) hbg)
        have hii : ¬ (cap = i) := by omega
        have hic : i ≤ cap := by omega
        have hii2 : i ≤ n := by omega
        clear hkt hown hbel hrow hcs htake hzl
        go_wp2
        go_ret
        rw [HAB.out, HI.out]
        exact ⟨rfl, hfin.out, BW.out.trans hbl.out⟩
end Go.Proofs.Ytgafkpngnoecaaa.P
