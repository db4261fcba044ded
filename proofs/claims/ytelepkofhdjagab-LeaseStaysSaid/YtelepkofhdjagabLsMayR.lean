/- Leases: whether they may be, the document's way; few of little. -/
import Derived.Test.YtelepkofhdjagabLsMay
namespace Go.Proofs.Ytelepkofhdjagab.P
open Go.RowKit Go.Sort
set_option maxHeartbeats 1000000
set_option linter.unusedVariables false
set_option linter.unusedSimpArgs false
set_option maxRecDepth 100000

theorem At3.keep {w w' : World} {p : Addr} {x : Le} {B : Nat} (h : At3 w p x) (hb : Below B w w') (hp : p.block < B) : At3 w' p x :=
  ⟨(hb.cell hp).trans h.c0, (hb.cell (p := ⟨p.block, p.off + 1, none⟩) hp).trans h.c1, (hb.cell (p := ⟨p.block, p.off + 2, none⟩) hp).trans h.c2⟩
theorem lmay_ref (s : Ls) (A : Option Addr) (n c : Nat) (w : World) (h : LsAt w s A n c) :
    Calls Try.prog 23 #[s.agg A n c] w fun e w' => e = .returned (.bool (mayL s)) ∧ Below w.heap.size w w' := by
  have H := Lib.hid (h.keep (new1 w (.cells (lsCells s A n c) 24)))
  have O := Lib.hid (own_new w (lsCells s A n c) 24)
  have BN := Lib.hid (new1 w (.cells (lsCells s A n c) 24))
  have hl := h.row.row.len
  have hmax := Nat.le_trans h.row.row.le h.row.row.max
  unfold maxLen at hmax
  have q0 := O.out.cell 0 _ rfl
  have q1 := O.out.cell 1 _ rfl
  clear h
  cases ha : atB s.next with
  | false =>
    have HF := Lib.hid (may_out (s := s) (fun hh => by rw [atB_iff.2 ⟨hh.1, hh.2.1⟩] at ha; cases ha))
    have HA := Lib.hid ha
    clear ha hl
    go_enter Try.func23, Try.ntmps23
    go_wp2_with fail
    refine (time_any s.next _).mono ?_; rintro e w' ⟨rfl, rfl⟩
    rw [HA.out]
    go_wp2
    go_ret
    exact ⟨retB HF.out.symm, BN.out⟩
  | true =>
    have ha' := atB_iff.1 ha
    have HA := Lib.hid ha
    clear ha
    by_cases hn8 : n ≤ 8
    · have HIN : Hid (0 ≤ s.next ∧ s.next ≤ 1099511627775 ∧ s.l.length ≤ 8) := Lib.hid ⟨ha'.1, ha'.2, by omega⟩
      have HL := Lib.hid hl; clear hl ha'
      go_enter Try.func23, Try.ntmps23
      go_wp2_with fail
      refine (time_any s.next _).mono ?_; rintro e w' ⟨rfl, rfl⟩
      rw [HA.out]
      go_wp2
      go_loopw [3] (fun i wr => ∃ j : Nat, j ≤ n ∧ i = .int .i64 j ∧ To s.next s.l j ∧ Below (w.heap.size + 1) (w.alloc (.cells (lsCells s A n c) 24)) wr) (fun i _ => n - (intOf i).toNat)
      case atStart => exact ⟨0, Nat.zero_le _, rfl, To.zero _ _, Below.refl _ _⟩
      case round =>
        obtain ⟨j, hj, rfl, ht, hbel⟩ := hrel
        have hbel' : Below (w.alloc (.cells (lsCells s A n c) 24)).heap.size (w.alloc (.cells (lsCells s A n c) 24)) wr := by simpa using hbel
        have HT := Lib.hid ht
        have HB := Lib.hid hbel'
        have hlt0 : w.heap.size < wr.heap.size := by have := hbel'.size; simp at this; omega
        have r0 := (O.out.below hbel').cell 0 _ rfl
        have r1 := (O.out.below hbel').cell 1 _ rfl
        by_cases hlt : j < n
        · obtain ⟨a, x, rfl, hbl, hx, hok, hc⟩ := (H.out.keep HB.out).row.at_ hlt
          have hcn := hc.keep (new1 wr (x.obj 80)) (by rw [block_add]; exact hbl)
          obtain ⟨c0, c1, c2⟩ := hc
          have HX := Lib.hid hx
          have RR := Lib.hid ((O.out.below hbel').alloc (x.obj 80))
          have s0 := RR.out.cell 0 _ rfl
          have s1 := RR.out.cell 1 _ rfl
          have N := Lib.hid (own_new wr #[.int .i64 x.id, .int .i64 x.ttl, .int .i64 x.til] 80)
          have x0 := N.out.cell 0 _ rfl
          have x1 := N.out.cell 1 _ rfl
          have x2 := N.out.cell 2 _ rfl
          have FIN : Hid (∀ q, Below (w.heap.size + 1) (w.alloc (.cells (lsCells s (some a) n c) 24)) ((wr.alloc (x.obj 80)).drewN q)) := Lib.hid (fun q => below_drewN (hbel.alloc (by omega) _) _)
          have HLP := Lib.hid (leastL_pos ht)
          obtain ⟨⟨b1, b2⟩, ⟨b3, b4⟩, ⟨b5, b6⟩⟩ := hok
          clear hx hbel hbel' ht
          cases j with
          | zero =>
            simp only [Nat.zero_mul, Addr.add_zero'] at c0 c1 c2 hcn
            clear hcn
            have g0 : decide ((0 : Int) < ((0 : Nat) : Int)) = false := by simp
            have HG : Hid (leastL s.l 0 = 1) := Lib.hid rfl
            by_cases e1 : x.id < 1
            · have de1 : decide (x.id < 1) = true := decide_eq_true e1
              have HF := Lib.hid (may_no HT.out HX.out (fun hh => by have := okLe_iff.1 hh.2; omega))
              go_wp2
              go_quiet (fail)
              go_wp2
              go_ret
              exact ⟨retB HF.out.symm, BN.out.trans ((FIN.out _).mono (Nat.le_succ _))⟩
            · have de1 : decide (x.id < 1) = false := decide_eq_false e1
              by_cases e2 : s.next < x.id
              · have de2 : decide (s.next < x.id) = true := decide_eq_true e2
                have HF := Lib.hid (may_no HT.out HX.out (fun hh => by have := okLe_iff.1 hh.2; omega))
                go_wp2
                go_quiet (fail)
                go_wp2
                go_ret
                exact ⟨retB HF.out.symm, BN.out.trans ((FIN.out _).mono (Nat.le_succ _))⟩
              · have de2 : decide (s.next < x.id) = false := decide_eq_false e2
                by_cases e4 : x.ttl < 1
                · have de4 : decide (x.ttl < 1) = true := decide_eq_true e4
                  have HF := Lib.hid (may_no HT.out HX.out (fun hh => by have := okLe_iff.1 hh.2; omega))
                  go_wp2
                  go_quiet (fail)
                  go_wp2
                  go_ret
                  exact ⟨retB HF.out.symm, BN.out.trans ((FIN.out _).mono (Nat.le_succ _))⟩
                · have de4 : decide (x.ttl < 1) = false := decide_eq_false e4
                  by_cases e5 : 1000 < x.ttl
                  · have de5 : decide (1000 < x.ttl) = true := decide_eq_true e5
                    have HF := Lib.hid (may_no HT.out HX.out (fun hh => by have := okLe_iff.1 hh.2; omega))
                    go_wp2
                    go_quiet (fail)
                    go_wp2
                    go_ret
                    exact ⟨retB HF.out.symm, BN.out.trans ((FIN.out _).mono (Nat.le_succ _))⟩
                  · have de5 : decide (1000 < x.ttl) = false := decide_eq_false e5
                    by_cases e6 : x.til < 0
                    · have de6 : decide (x.til < 0) = true := decide_eq_true e6
                      have HF := Lib.hid (may_no HT.out HX.out (fun hh => by have := okLe_iff.1 hh.2; omega))
                      go_wp2
                      go_quiet (fail)
                      go_wp2
                      go_ret
                      exact ⟨retB HF.out.symm, BN.out.trans ((FIN.out _).mono (Nat.le_succ _))⟩
                    · have de6 : decide (x.til < 0) = false := decide_eq_false e6
                      by_cases e7 : 1099511627775 + x.ttl < x.til
                      · have de7 : decide (1099511627775 + x.ttl < x.til) = true := decide_eq_true e7
                        have HF := Lib.hid (may_no HT.out HX.out (fun hh => by have := okLe_iff.1 hh.2; omega))
                        go_wp2
                        go_quiet (fail)
                        go_wp2
                        go_ret
                        exact ⟨retB HF.out.symm, BN.out.trans ((FIN.out _).mono (Nat.le_succ _))⟩
                      · have de7 : decide (1099511627775 + x.ttl < x.til) = false := decide_eq_false e7
                        have hokle : okLe s.next x = true := okLe_iff.2 ⟨by omega, by omega, by omega, by omega, by omega, by omega⟩
                        have HM := Lib.hid (HT.out.more HX.out (by rw [HG.out]; omega) hokle)
                        clear hokle
                        go_wp2
                        go_quiet (fail)
                        go_wp2
                        go_roundw
                        case rel => exact ⟨1, by omega, by go_num, HM.out, FIN.out _⟩
                        case measure => simp [intOf]; omega
          | succ j =>
            have g0 : decide ((0 : Int) < ((j + 1 : Nat) : Int)) = true := by simp
            obtain ⟨a', y, ha', hbl', hy, _, hcy⟩ := (H.out.keep HB.out).row.at_ (show j < n by omega)
            obtain rfl : a = a' := Option.some.inj ha'
            have HG : Hid (leastL s.l (j + 1) = y.id + 1) := Lib.hid (leastL_succ hy)
            obtain ⟨y0, _, _⟩ := hcy.keep (new1 wr (x.obj 80)) (by rw [block_add]; exact hbl)
            have z2 : ((j + 1 : Nat) : Int) - 1 = (j : Int) := by omega
            clear hcy hy ha' hbl'
            by_cases e1 : x.id < 1
            · have de1 : decide (x.id < 1) = true := decide_eq_true e1
              have HF := Lib.hid (may_no HT.out HX.out (fun hh => by have := okLe_iff.1 hh.2; omega))
              go_wp2
              go_quiet (fail)
              go_wp2
              go_ret
              exact ⟨retB HF.out.symm, BN.out.trans ((FIN.out _).mono (Nat.le_succ _))⟩
            · have de1 : decide (x.id < 1) = false := decide_eq_false e1
              by_cases e2 : s.next < x.id
              · have de2 : decide (s.next < x.id) = true := decide_eq_true e2
                have HF := Lib.hid (may_no HT.out HX.out (fun hh => by have := okLe_iff.1 hh.2; omega))
                go_wp2
                go_quiet (fail)
                go_wp2
                go_ret
                exact ⟨retB HF.out.symm, BN.out.trans ((FIN.out _).mono (Nat.le_succ _))⟩
              · have de2 : decide (s.next < x.id) = false := decide_eq_false e2
                by_cases e3 : x.id ≤ y.id
                · have de3 : decide (x.id ≤ y.id) = true := decide_eq_true e3
                  have HF := Lib.hid (may_no HT.out HX.out (fun hh => by have := hh.1; rw [HG.out] at this; omega))
                  go_wp2
                  go_quiet (fail)
                  go_wp2
                  go_ret
                  exact ⟨retB HF.out.symm, BN.out.trans ((FIN.out _).mono (Nat.le_succ _))⟩
                · have de3 : decide (x.id ≤ y.id) = false := decide_eq_false e3
                  by_cases e4 : x.ttl < 1
                  · have de4 : decide (x.ttl < 1) = true := decide_eq_true e4
                    have HF := Lib.hid (may_no HT.out HX.out (fun hh => by have := okLe_iff.1 hh.2; omega))
                    go_wp2
                    go_quiet (fail)
                    go_wp2
                    go_ret
                    exact ⟨retB HF.out.symm, BN.out.trans ((FIN.out _).mono (Nat.le_succ _))⟩
                  · have de4 : decide (x.ttl < 1) = false := decide_eq_false e4
                    by_cases e5 : 1000 < x.ttl
                    · have de5 : decide (1000 < x.ttl) = true := decide_eq_true e5
                      have HF := Lib.hid (may_no HT.out HX.out (fun hh => by have := okLe_iff.1 hh.2; omega))
                      go_wp2
                      go_quiet (fail)
                      go_wp2
                      go_ret
                      exact ⟨retB HF.out.symm, BN.out.trans ((FIN.out _).mono (Nat.le_succ _))⟩
                    · have de5 : decide (1000 < x.ttl) = false := decide_eq_false e5
                      by_cases e6 : x.til < 0
                      · have de6 : decide (x.til < 0) = true := decide_eq_true e6
                        have HF := Lib.hid (may_no HT.out HX.out (fun hh => by have := okLe_iff.1 hh.2; omega))
                        go_wp2
                        go_quiet (fail)
                        go_wp2
                        go_ret
                        exact ⟨retB HF.out.symm, BN.out.trans ((FIN.out _).mono (Nat.le_succ _))⟩
                      · have de6 : decide (x.til < 0) = false := decide_eq_false e6
                        by_cases e7 : 1099511627775 + x.ttl < x.til
                        · have de7 : decide (1099511627775 + x.ttl < x.til) = true := decide_eq_true e7
                          have HF := Lib.hid (may_no HT.out HX.out (fun hh => by have := okLe_iff.1 hh.2; omega))
                          go_wp2
                          go_quiet (fail)
                          go_wp2
                          go_ret
                          exact ⟨retB HF.out.symm, BN.out.trans ((FIN.out _).mono (Nat.le_succ _))⟩
                        · have de7 : decide (1099511627775 + x.ttl < x.til) = false := decide_eq_false e7
                          have hokle : okLe s.next x = true := okLe_iff.2 ⟨by omega, by omega, by omega, by omega, by omega, by omega⟩
                          have HM := Lib.hid (HT.out.more HX.out (by rw [HG.out]; omega) hokle)
                          clear hokle
                          go_wp2
                          go_quiet (fail)
                          go_wp2
                          go_roundw
                          case rel => exact ⟨j + 1 + 1, by omega, by go_num, HM.out, FIN.out _⟩
                          case measure => simp [intOf]; omega
        · obtain rfl : j = n := by omega
          have HF := Lib.hid (may_yes HIN.out (by rw [HL.out]; exact HT.out))
          have HB2 := Lib.hid (then_ BN.out HB.out)
          clear ht hbel hbel'
          go_wp2
          go_ret
          exact ⟨retB HF.out.symm, HB2.out⟩
    · have HF := Lib.hid (may_out (s := s) (fun hh => by have := hh.2.2; omega))
      have h8 : 8 < n := by omega
      clear hl hn8
      go_enter Try.func23, Try.ntmps23
      go_wp2_with fail
      refine (time_any s.next _).mono ?_; rintro e w' ⟨rfl, rfl⟩
      rw [HA.out]
      go_wp2
      go_ret
      exact ⟨retB HF.out.symm, BN.out⟩

def smallB (s : Ls) : Bool := s.l.all (fun x => decide (-1125899906842624 ≤ x.ttl ∧ x.ttl ≤ 1125899906842624)) && decide (s.l.length ≤ 20)
theorem bounded_any (s : Ls) (A : Option Addr) (n c : Nat) (w : World) (h : LsAt w s A n c) :
    Calls Try.prog 15 #[s.agg A n c] w fun e w' => e = .returned (.bool (smallB s)) ∧ Below w.heap.size w w' := by
  have H := Lib.hid (h.keep (new1 w (.cells (lsCells s A n c) 24)))
  have O := Lib.hid (own_new w (lsCells s A n c) 24)
  have BN := Lib.hid (new1 w (.cells (lsCells s A n c) 24))
  have hl := h.row.row.len
  have hmax := Nat.le_trans h.row.row.le h.row.row.max
  unfold maxLen at hmax
  have q0 := O.out.cell 0 _ rfl
  have q1 := O.out.cell 1 _ rfl
  have HL := Lib.hid hl
  clear h hl
  go_enter Try.func15, Try.ntmps15
  go_wp2
  go_loop [3] (fun i => ∃ j : Nat, j ≤ n ∧ i = .int .i64 j ∧ AllTo (fun x : Le => decide (-1125899906842624 ≤ x.ttl ∧ x.ttl ≤ 1125899906842624)) s.l j) (fun i => n - (intOf i).toNat)
  case atStart => exact ⟨0, Nat.zero_le _, rfl, rfl⟩
  case round =>
    obtain ⟨j, hj, rfl, hall⟩ := hrel
    have HA := Lib.hid hall
    clear hall
    by_cases hlt : j < n
    · obtain ⟨a, x, rfl, hbl, hx, hok, hc⟩ := H.out.row.at_ hlt
      obtain ⟨c0, c1, c2⟩ := hc
      have HX := Lib.hid hx
      have HS := Lib.hid (fun (e : _ = false) => all_stop_s s.l (fun x : Le => decide (-1125899906842624 ≤ x.ttl ∧ x.ttl ≤ 1125899906842624)) j x hx e)
      have HT := Lib.hid (all_take_s s.l (fun x : Le => decide (-1125899906842624 ≤ x.ttl ∧ x.ttl ≤ 1125899906842624)) j x hx)
      clear hx hbl hok
      by_cases h1 : 1125899906842624 < x.ttl
      · have HF : Hid (smallB s = false) := Lib.hid (by unfold smallB; rw [HS.out (decide_eq_false (by omega))]; rfl)
        go_wp2
        go_ret
        exact ⟨retB HF.out.symm, BN.out⟩
      · by_cases h2 : x.ttl < -1125899906842624
        · have HF : Hid (smallB s = false) := Lib.hid (by unfold smallB; rw [HS.out (decide_eq_false (by omega))]; rfl)
          go_wp2
          go_ret
          exact ⟨retB HF.out.symm, BN.out⟩
        · have HM : Hid (AllTo (fun x : Le => decide (-1125899906842624 ≤ x.ttl ∧ x.ttl ≤ 1125899906842624)) s.l (j + 1)) := Lib.hid (by show _ = true; rw [HT.out, HA.out.out, Bool.true_and]; exact decide_eq_true (by omega))
          go_wp2
          go_round
          case rel => exact ⟨j + 1, by omega, by go_num, HM.out⟩
          case measure => simp [intOf]; omega
    · obtain rfl : j = n := by omega
      have HF : Hid (smallB s = decide (j ≤ 20)) := Lib.hid (by
        have h' := HA.out.out
        rw [take_full _ _ HL.out] at h'
        unfold smallB; rw [h', HL.out, Bool.true_and])
      have hd : decide ((j : Int) ≤ 20) = decide (j ≤ 20) := by rw [decide_eq_decide]; omega
      go_wp2
      go_ret
      exact ⟨retB (by rw [HF.out]), BN.out⟩
end Go.Proofs.Ytelepkofhdjagab.P
