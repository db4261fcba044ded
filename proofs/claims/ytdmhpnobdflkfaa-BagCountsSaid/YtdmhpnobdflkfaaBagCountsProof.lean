/- For every bag, every place and every two ends the law BagCounts answers true: each message is between just its own two; the others stand in their order. No condition. -/
import Derived.Test.YtdmhpnobdflkfaaBgLive
import Derived.Test.YtdmhpnobdflkfaaBgOpen
import Derived.Test.YtdmhpnobdflkfaaKeyTwo
import Derived.Test.YtdmhpnobdflkfaaRows
namespace Go.Proofs.Ytdmhpnobdflkfaa.bagCounts
open Go.ChangeShapes Go.WideShapes Go.ChangeAt Go.RowKit Go.Proofs.Ytdmhpnobdflkfaa.P
open Go.ChangeMaps (open_string shut_string)
set_option linter.unusedVariables false
set_option linter.unusedSimpArgs false
set_option maxHeartbeats 2000000
set_option maxRecDepth 100000

theorem no_few (w : World) (A0 : Option Addr) (n0 c0 : Nat) (l0 : List Msg) (a1 : Int) (a2 b2 : Int) (k0 : Ms w A0 n0 c0 l0) (w1 : (Lit.int .i64 a1).wf = true) (w2 : (Lit.int .i64 a2).wf = true) (u2 : (Lit.int .i64 b2).wf = true) (hf : fewB2 n0 0 = false) :
    Calls Try.prog 12 #[.slice A0 n0 c0, .int .i64 a1, .agg #[.int .i64 a2, .int .i64 b2]] w fun e w' => e = .returned (.bool true) ∧ Below w.heap.size w w' := by
  have HF := Lib.hid hf; clear hf w1 w2 u2
  have B_1 := Lib.hid ((new1 w (.cells #[.int .i64 a2, .int .i64 b2] 27)))
  go_enter Try.func12, Try.ntmps12
  go_wp2_with fail
  refine (few_msg A0 none n0 c0 0 0 _).mono ?_; rintro e w' ⟨rfl, rfl⟩
  rw [HF.out]
  go_wp2_with fail
  refine (live_any _).mono ?_; rintro e w1 ⟨rfl, hb⟩
  have S_2 := Lib.hid hb; clear hb
  have B_3 := Lib.hid (then_ B_1.out S_2.out)
  clear B_1
  clear S_2
  go_wp2
  go_ret
  exact ⟨rfl, B_3.out⟩
/-- What the law's second loop has counted. -/
def skipB (has : Bool) (kk k : Nat) : Nat := if has = true ∧ kk < k then k - 1 else k
theorem fine0 (w : World) (A0 : Option Addr) (n0 c0 : Nat) (l0 : List Msg) (a1 : Int) (a2 b2 : Int) (k0 : Ms w A0 n0 c0 l0) (w1 : (Lit.int .i64 a1).wf = true) (w2 : (Lit.int .i64 a2).wf = true) (u2 : (Lit.int .i64 b2).wf = true) (hf : fewB2 n0 0 = true) (hh : hasM l0 a1 = false) :
    Calls Try.prog 12 #[.slice A0 n0 c0, .int .i64 a1, .agg #[.int .i64 a2, .int .i64 b2]] w fun e w' => e = .returned (.bool true) ∧ Below w.heap.size w w' := by
  obtain ⟨h0, _⟩ := few_iff.1 hf
  have HF := Lib.hid hf
  have hl0 := k0.len
  have HJ := Lib.hid (take_any A0 n0 c0 l0 a1)
  have HBL : Hid ((btwL l0 a2 b2).length ≤ 1000) := Lib.hid (by have := btw_len (b := l0) (f := a2) (t := b2) l0.length; unfold btwL; omega)
  rw [(tk_err hh).1, (tk_err hh).2.2] at HJ
  have HL0 := Lib.hid hl0
  clear hf hh hl0 w1 w2 u2
  have K0_0 := Lib.hid k0
  clear k0
  have K0_1 := Lib.hid (K0_0.out.keep (new1 w (.cells #[.int .i64 a2, .int .i64 b2] 27)))
  have B_2 := Lib.hid ((new1 w (.cells #[.int .i64 a2, .int .i64 b2] 27)))
  clear K0_0
  have E_3 := Lib.hid (own_new w #[.int .i64 a2, .int .i64 b2] 27)
  go_enter Try.func12, Try.ntmps12
  go_wp2_with fail
  refine (few_msg A0 none n0 c0 0 0 _).mono ?_; rintro e w' ⟨rfl, rfl⟩
  rw [HF.out]
  go_wp2_with fail
  refine (HJ.out _ K0_1.out (by omega)).mono ?_; rintro e w1 ⟨P1, p1, q1, rfl, h, hb⟩
  have S_4 := Lib.hid hb; clear hb
  have K0_5 := Lib.hid (K0_1.out.keep S_4.out)
  have E_6 := Lib.hid (E_3.out.below S_4.out)
  have B_7 := Lib.hid (then_ B_2.out S_4.out)
  clear K0_1 E_3 B_2
  clear S_4
  have Q_8 := Lib.hid (h)
  clear h
  generalize tkM l0 a1 = tm at *
  have K0_9 := Lib.hid (K0_5.out.keep (new1 w1 (.cells #[.int .i64 tm.frm, .int .i64 tm.dst, .string tm.body] 42)))
  have E_10 := Lib.hid (E_6.out.below (new1 w1 (.cells #[.int .i64 tm.frm, .int .i64 tm.dst, .string tm.body] 42)))
  have Q_11 := Lib.hid (Q_8.out.keep (new1 w1 (.cells #[.int .i64 tm.frm, .int .i64 tm.dst, .string tm.body] 42)))
  have B_12 := Lib.hid (then_ B_7.out (new1 w1 (.cells #[.int .i64 tm.frm, .int .i64 tm.dst, .string tm.body] 42)))
  clear K0_5 E_6 Q_8 B_7
  have M_13 := Lib.hid (own_new w1 #[.int .i64 tm.frm, .int .i64 tm.dst, .string tm.body] 42)
  obtain rfl : n0 = p1 := by have h1 := Q_11.out.len; have h2 := HL0.out; omega
  have z0 := E_10.out.cell 0 _ rfl
  have z1 := E_10.out.cell 1 _ rfl
  go_wp2_with fail
  refine (between_any A0 n0 c0 l0 a2 b2 _ K0_9.out (by omega)).mono ?_; rintro e w2 ⟨A5, m5, c5, rfl, h, hb⟩
  have S_14 := Lib.hid hb; clear hb
  have K0_15 := Lib.hid (K0_9.out.keep S_14.out)
  have E_16 := Lib.hid (E_10.out.below S_14.out)
  have Q_17 := Lib.hid (Q_11.out.keep S_14.out)
  have M_18 := Lib.hid (M_13.out.below S_14.out)
  have B_19 := Lib.hid (then_ B_12.out S_14.out)
  clear K0_9 E_10 Q_11 M_13 B_12
  clear S_14
  have WAS_20 := Lib.hid (h)
  clear h
  clear z0 z1
  have z0 := E_16.out.cell 0 _ rfl
  have z1 := E_16.out.cell 1 _ rfl
  go_wp2_with fail
  refine (between_any P1 n0 q1 l0 a2 b2 _ Q_17.out (by omega)).mono ?_; rintro e w3 ⟨A6, m6, c6, rfl, h, hb⟩
  have S_21 := Lib.hid hb; clear hb
  have K0_22 := Lib.hid (K0_15.out.keep S_21.out)
  have E_23 := Lib.hid (E_16.out.below S_21.out)
  have Q_24 := Lib.hid (Q_17.out.keep S_21.out)
  have M_25 := Lib.hid (M_18.out.below S_21.out)
  have WAS_26 := Lib.hid (WAS_20.out.below S_21.out)
  have B_27 := Lib.hid (then_ B_19.out S_21.out)
  clear K0_15 E_16 Q_17 M_18 WAS_20 B_19
  clear S_21
  have NOW_28 := Lib.hid (h)
  clear h
  clear z0 z1
  obtain rfl : m5 = m6 := WAS_26.out.len.symm.trans NOW_28.out.len
  have hm5 : m5 ≤ 1000 := by have h1 := WAS_26.out.len; have h2 := HBL.out; omega
  have HM5 := Lib.hid hm5
  clear hm5
  go_wp2
  go_loopw [12] (fun i wr => ∃ k : Nat, k ≤ m5 ∧ i = .int .i64 k ∧ Below w3.heap.size w3 wr) (fun i _ => m5 - (intOf i).toNat)
  case atStart => exact ⟨0, Nat.zero_le _, rfl, Below.refl _ _⟩
  case round =>
    rename World => wa
    obtain ⟨k, hk, rfl, hbel⟩ := hrel
    have HBR := Lib.hid hbel
    have WASr := Lib.hid (WAS_26.out.below hbel); have K0r := Lib.hid (K0_22.out.keep hbel); have Er := Lib.hid (E_23.out.below hbel)
    have Qr := Lib.hid (Q_24.out.keep hbel); have Mr := Lib.hid (M_25.out.below hbel)
    clear hbel
    by_cases hlt : k < m5
    · obtain ⟨a5, z, rfl, _, hz, cz⟩ := Is.at_ WASr.out hlt
      obtain ⟨j, x, rfl, hj, hx, hx0, hx1⟩ := btw_mem hz
      rw [HL0.out] at hj
      obtain ⟨a, x2, rfl, _, hx2, hc⟩ := K0r.out.at_ hj
      obtain rfl : x = x2 := Option.some.inj (hx.symm.trans hx2)
      obtain ⟨d0, d1, d2⟩ := hc
      rw [hx0] at d0
      rw [hx1] at d1
      have z0 := Er.out.cell 0 _ rfl
      have z1 := Er.out.cell 1 _ rfl
      have ik0 : (0 : Int) ≤ (k : Int) := by omega
      have ik1 : (k : Int) < (m5 : Int) := by omega
      have ij0 : (0 : Int) ≤ (j : Int) := by omega
      have ij1 : (j : Int) < (n0 : Int) := by omega
      have ij2 : ¬ ((n0 : Int) ≤ (j : Int)) := by omega
      have ij3 : ¬ ((j : Int) < 0) := by omega
      have dj2 : decide ((n0 : Int) ≤ (j : Int)) = false := decide_eq_false ij2
      have ij4 : ¬ (n0 ≤ j) := by omega
      have dj4 : decide (n0 ≤ j) = false := decide_eq_false ij4
      have dj3 : decide ((j : Int) < 0) = false := decide_eq_false ij3
      have HZ := Lib.hid hz
      clear hz hx hx2 hx0 hx1
      rcases Nat.eq_zero_or_pos k with rfl | hk0
      · rw [Addr.add_zero'] at cz
        have rz := fun d os => cell_regrown cz d os
        have rd0 := fun d os => cell_regrown d0 d os
        have rd1 := fun d os => cell_regrown d1 d os
        have rz0 := fun d os => cell_regrown z0 d os
        have rz1 := fun d os => cell_regrown z1 d os
        clear cz d0 d1 d2 z0 z1
        go_wp2
        refine wp_region_quiet_below (by kernel_rfl) (by kernel_rfl) ?_
        repeat (go_big_quiet_step (fail))
        refine wpQuiet_nil ?_
        intro _ hw'
        obtain ⟨⟨d', os⟩, rfl⟩ := hw'
        go_wp2
        go_roundw
        case rel => exact ⟨1, by omega, by go_num, below_grow HBR.out HBR.out.size _ _⟩
        case measure => simp [intOf]; omega
      · obtain ⟨k1, HK1⟩ : ∃ k1 : Nat, Hid (k1 + 1 = k) := ⟨k - 1, Lib.hid (by omega)⟩
        obtain ⟨a5', y, ea, _, hy, cy⟩ := Is.at_ WASr.out (show k1 < m5 by have := HK1.out; omega)
        obtain rfl := Option.some.inj ea
        have hyz := btw_rise (k := k1) hy (by rw [HK1.out]; exact HZ.out)
        have iy : ¬ ((j : Int) ≤ y) := by omega
        have iyd : decide ((j : Int) ≤ y) = false := decide_eq_false iy
        have ik3 : (k1 : Int) < (m5 : Int) := by have := HK1.out; omega
        have ik4 : (0 : Int) ≤ (k1 : Int) := by omega
        have ik5 : k1 < m5 := by have := HK1.out; omega
        have ik7 : (k : Int) - 1 = (k1 : Int) := by have := HK1.out; omega
        have ikb : (k1 : Int) ≤ 1000 := by have := HM5.out; omega
        have ik7w : wrap64 (k1 : Int) = (k1 : Int) := IntWalk.wrap64_in _ (by omega)
        have ik9 : (0 : Int) < (k : Int) := Int.natCast_pos.2 hk0
        have ik10 : 0 < k := hk0
        have dk8 : decide (0 < k) = true := decide_eq_true ik10
        have dk9 : decide ((0 : Int) < (k : Int)) = true := decide_eq_true ik9
        have HM := Lib.hid HBR.out
        clear hy ea hyz hk0
        have rz := fun d os => cell_regrown cz d os
        have ry := fun d os => cell_regrown cy d os
        have rd0 := fun d os => cell_regrown d0 d os
        have rd1 := fun d os => cell_regrown d1 d os
        have rz0 := fun d os => cell_regrown z0 d os
        have rz1 := fun d os => cell_regrown z1 d os
        clear cz cy d0 d1 d2 z0 z1
        go_wp2
        refine wp_region_quiet_below (by kernel_rfl) (by kernel_rfl) ?_
        repeat (go_big_quiet_step (fail))
        refine wpQuiet_nil ?_
        intro _ hw'
        obtain ⟨⟨d', os⟩, rfl⟩ := hw'
        go_wp2
        go_roundw
        case rel => exact ⟨k + 1, by omega, by go_num, below_grow HBR.out HBR.out.size _ _⟩
        case measure => simp [intOf]; omega
    · obtain rfl : k = m5 := by omega
      have BR := Lib.hid (then_ B_27.out HBR.out)
      have m0 := Mr.out.cell 0 _ rfl
      have m1 := Mr.out.cell 1 _ rfl
      have z0 := Er.out.cell 0 _ rfl
      have z1 := Er.out.cell 1 _ rfl
      have hwk : IntKind.i64.wrap (k : Int) = (k : Int) := IntWalk.i64_in _ (by have := HM5.out; omega)
      have hk1000 : (k : Int) ≤ 1000 := by have := HM5.out; omega
      go_wp2
      go_loopw [14, 15] (fun v i wr2 => ∃ k2 : Nat, k2 ≤ n0 ∧ v = .int .i64 ((skipB false 0 k2 : Nat) : Int) ∧ i = .int .i64 k2 ∧ Below wa.heap.size wa wr2) (fun _ i _ => n0 - (intOf i).toNat)
      case atStart => exact ⟨0, Nat.zero_le _, by simp [skipB], rfl, Below.refl _ _⟩
      case round =>
        obtain ⟨k2, hk2, rfl, rfl, hbel⟩ := hrel
        have HB2 := Lib.hid hbel
        have K0s := Lib.hid (K0r.out.keep hbel); have Qs := Lib.hid (Qr.out.keep hbel)
        clear hbel
        by_cases hlt2 : k2 < n0
        · rw [show skipB false 0 k2 = k2 by simp [skipB]]
          obtain ⟨b1, y1, rfl, _, hy1, d⟩ := K0s.out.at_ hlt2
          obtain ⟨b3, y2, rfl, _, hy2, d'⟩ := Qs.out.at_ (k := k2) (by omega)
          obtain rfl : y1 = y2 := Option.some.inj (by rw [← hy1, ← hy2])
          obtain ⟨d0, d1, d2⟩ := d
          obtain ⟨f0, f1, f2⟩ := d'
          have hne := neq_msg y1 y1
          rw [msgEq_self] at hne
          have il0 : (0 : Int) ≤ (k2 : Int) := by omega
          have il1 : (k2 : Int) < (n0 : Int) := by omega
          have il3 : ((k2 : Nat) : Int) < (n0 : Int) := by omega
          have il4 : ¬ ((n0 : Int) ≤ ((k2 : Nat) : Int)) := by omega
          have il5 : (0 : Int) ≤ ((k2 : Nat) : Int) := by omega
          have il9 : (k2 : Int) ≤ 1000 := by omega
          have dl4 : decide ((n0 : Int) ≤ (k2 : Int)) = false := decide_eq_false il4
          have dl5 : decide (n0 ≤ k2) = false := decide_eq_false (by omega)
          have HS : Hid (skipB false 0 (k2 + 1) = k2 + 1) := Lib.hid (by unfold skipB; simp)
          clear hy1 hy2
          go_wp2
          go_quiet (fail)
          go_wp2
          go_roundw
          case rel => exact ⟨k2 + 1, by omega, by rw [HS.out]; go_num, by go_num, below_drewN HB2.out _⟩
          case measure => simp [intOf]; omega
        · obtain rfl : k2 = n0 := by omega
          rw [show skipB false 0 k2 = k2 by simp [skipB]]
          have BQ := Lib.hid (then_ BR.out HB2.out)
          go_wp2_with fail
          refine (live_any _).mono ?_; rintro e w9 ⟨rfl, hb⟩
          have BB := Lib.hid (then_ BQ.out hb)
          clear hb
          go_wp2
          go_ret
          exact ⟨rfl, BB.out⟩
theorem fine1 (w : World) (A0 : Option Addr) (n0 c0 : Nat) (l0 : List Msg) (a1 : Int) (a2 b2 : Int) (k0 : Ms w A0 n0 c0 l0) (w1 : (Lit.int .i64 a1).wf = true) (w2 : (Lit.int .i64 a2).wf = true) (u2 : (Lit.int .i64 b2).wf = true) (hf : fewB2 n0 0 = true) (hh : hasM l0 a1 = true) (hq0 : (tkM l0 a1).frm = a2) (hq1 : (tkM l0 a1).dst = b2) :
    Calls Try.prog 12 #[.slice A0 n0 c0, .int .i64 a1, .agg #[.int .i64 a2, .int .i64 b2]] w fun e w' => e = .returned (.bool true) ∧ Below w.heap.size w w' := by
  obtain ⟨h0, _⟩ := few_iff.1 hf
  have HF := Lib.hid hf
  have hl0 := k0.len
  have HJ := Lib.hid (take_any A0 n0 c0 l0 a1)
  have HBL : Hid ((btwL l0 a2 b2).length ≤ 1000) := Lib.hid (by have := btw_len (b := l0) (f := a2) (t := b2) l0.length; unfold btwL; omega)
  obtain ⟨i0, i1⟩ := hasM_iff.1 hh
  rw [hl0] at i1
  obtain ⟨kk, rfl⟩ : ∃ kk : Nat, a1 = (kk : Int) := ⟨a1.toNat, by omega⟩
  have hat := has_at hh
  rw [(tk_ok hh).1, (tk_ok hh).2] at HJ
  rw [Int.toNat_natCast] at hat HJ
  have HCT := Lib.hid (without_count (isM a2 b2) hat)
  have HWL : Hid ((without l0 kk).length + 1 = n0) := Lib.hid (by rw [without_len (by omega)]; omega)
  have hq2 : isM a2 b2 (tkM l0 kk) = true := decide_eq_true ⟨hq0, hq1⟩
  rw [hq2] at HCT
  clear hq2 hat
  have HQ0 := Lib.hid hq0; clear hq0
  have HQ1 := Lib.hid hq1; clear hq1
  have HLO : Hid (∀ j, j < kk → (without l0 kk)[j]? = l0[j]?) := Lib.hid (fun j hj => without_low hj (by omega))
  have HHI : Hid (∀ j, kk ≤ j → (without l0 kk)[j]? = l0[j + 1]?) := Lib.hid (fun j hj => without_high hj (by omega))
  have HL0 := Lib.hid hl0
  clear hf hh hl0 w1 w2 u2
  have K0_0 := Lib.hid k0
  clear k0
  have K0_1 := Lib.hid (K0_0.out.keep (new1 w (.cells #[.int .i64 a2, .int .i64 b2] 27)))
  have B_2 := Lib.hid ((new1 w (.cells #[.int .i64 a2, .int .i64 b2] 27)))
  clear K0_0
  have E_3 := Lib.hid (own_new w #[.int .i64 a2, .int .i64 b2] 27)
  go_enter Try.func12, Try.ntmps12
  go_wp2_with fail
  refine (few_msg A0 none n0 c0 0 0 _).mono ?_; rintro e w' ⟨rfl, rfl⟩
  rw [HF.out]
  go_wp2_with fail
  refine (HJ.out _ K0_1.out (by omega)).mono ?_; rintro e w1 ⟨P1, p1, q1, rfl, h, hb⟩
  have S_4 := Lib.hid hb; clear hb
  have K0_5 := Lib.hid (K0_1.out.keep S_4.out)
  have E_6 := Lib.hid (E_3.out.below S_4.out)
  have B_7 := Lib.hid (then_ B_2.out S_4.out)
  clear K0_1 E_3 B_2
  clear S_4
  have Q_8 := Lib.hid (h)
  clear h
  generalize tkM l0 kk = tm at *
  have K0_9 := Lib.hid (K0_5.out.keep (new1 w1 (.cells #[.int .i64 tm.frm, .int .i64 tm.dst, .string tm.body] 42)))
  have E_10 := Lib.hid (E_6.out.below (new1 w1 (.cells #[.int .i64 tm.frm, .int .i64 tm.dst, .string tm.body] 42)))
  have Q_11 := Lib.hid (Q_8.out.keep (new1 w1 (.cells #[.int .i64 tm.frm, .int .i64 tm.dst, .string tm.body] 42)))
  have B_12 := Lib.hid (then_ B_7.out (new1 w1 (.cells #[.int .i64 tm.frm, .int .i64 tm.dst, .string tm.body] 42)))
  clear K0_5 E_6 Q_8 B_7
  have M_13 := Lib.hid (own_new w1 #[.int .i64 tm.frm, .int .i64 tm.dst, .string tm.body] 42)
  have HP1 : Hid (p1 + 1 = n0) := Lib.hid (by have h1 := Q_11.out.len; have h2 := HWL.out; omega)
  have z0 := E_10.out.cell 0 _ rfl
  have z1 := E_10.out.cell 1 _ rfl
  go_wp2_with fail
  refine (between_any A0 n0 c0 l0 a2 b2 _ K0_9.out (by omega)).mono ?_; rintro e w2 ⟨A5, m5, c5, rfl, h, hb⟩
  have S_14 := Lib.hid hb; clear hb
  have K0_15 := Lib.hid (K0_9.out.keep S_14.out)
  have E_16 := Lib.hid (E_10.out.below S_14.out)
  have Q_17 := Lib.hid (Q_11.out.keep S_14.out)
  have M_18 := Lib.hid (M_13.out.below S_14.out)
  have B_19 := Lib.hid (then_ B_12.out S_14.out)
  clear K0_9 E_10 Q_11 M_13 B_12
  clear S_14
  have WAS_20 := Lib.hid (h)
  clear h
  clear z0 z1
  have z0 := E_16.out.cell 0 _ rfl
  have z1 := E_16.out.cell 1 _ rfl
  go_wp2_with fail
  refine (between_any P1 p1 q1 (without l0 kk) a2 b2 _ Q_17.out (by have := HP1.out; omega)).mono ?_; rintro e w3 ⟨A6, m6, c6, rfl, h, hb⟩
  have S_21 := Lib.hid hb; clear hb
  have K0_22 := Lib.hid (K0_15.out.keep S_21.out)
  have E_23 := Lib.hid (E_16.out.below S_21.out)
  have Q_24 := Lib.hid (Q_17.out.keep S_21.out)
  have M_25 := Lib.hid (M_18.out.below S_21.out)
  have WAS_26 := Lib.hid (WAS_20.out.below S_21.out)
  have B_27 := Lib.hid (then_ B_19.out S_21.out)
  clear K0_15 E_16 Q_17 M_18 WAS_20 B_19
  clear S_21
  have NOW_28 := Lib.hid (h)
  clear h
  clear z0 z1
  have HMM : Hid (m5 = m6 + 1) := Lib.hid (by have h1 := WAS_26.out.len; have h2 := NOW_28.out.len; rw [btw_count'] at h1 h2; have h3 := HCT.out; simp at h3; omega)
  have hm5 : m5 ≤ 1000 := by have h1 := WAS_26.out.len; have h2 := HBL.out; omega
  have HM5 := Lib.hid hm5
  clear hm5
  go_wp2
  go_loopw [12] (fun i wr => ∃ k : Nat, k ≤ m5 ∧ i = .int .i64 k ∧ Below w3.heap.size w3 wr) (fun i _ => m5 - (intOf i).toNat)
  case atStart => exact ⟨0, Nat.zero_le _, rfl, Below.refl _ _⟩
  case round =>
    rename World => wa
    obtain ⟨k, hk, rfl, hbel⟩ := hrel
    have HBR := Lib.hid hbel
    have WASr := Lib.hid (WAS_26.out.below hbel); have K0r := Lib.hid (K0_22.out.keep hbel); have Er := Lib.hid (E_23.out.below hbel)
    have Qr := Lib.hid (Q_24.out.keep hbel); have Mr := Lib.hid (M_25.out.below hbel)
    clear hbel
    by_cases hlt : k < m5
    · obtain ⟨a5, z, rfl, _, hz, cz⟩ := Is.at_ WASr.out hlt
      obtain ⟨j, x, rfl, hj, hx, hx0, hx1⟩ := btw_mem hz
      rw [HL0.out] at hj
      obtain ⟨a, x2, rfl, _, hx2, hc⟩ := K0r.out.at_ hj
      obtain rfl : x = x2 := Option.some.inj (hx.symm.trans hx2)
      obtain ⟨d0, d1, d2⟩ := hc
      rw [hx0] at d0
      rw [hx1] at d1
      have z0 := Er.out.cell 0 _ rfl
      have z1 := Er.out.cell 1 _ rfl
      have ik0 : (0 : Int) ≤ (k : Int) := by omega
      have ik1 : (k : Int) < (m5 : Int) := by omega
      have ij0 : (0 : Int) ≤ (j : Int) := by omega
      have ij1 : (j : Int) < (n0 : Int) := by omega
      have ij2 : ¬ ((n0 : Int) ≤ (j : Int)) := by omega
      have ij3 : ¬ ((j : Int) < 0) := by omega
      have dj2 : decide ((n0 : Int) ≤ (j : Int)) = false := decide_eq_false ij2
      have ij4 : ¬ (n0 ≤ j) := by omega
      have dj4 : decide (n0 ≤ j) = false := decide_eq_false ij4
      have dj3 : decide ((j : Int) < 0) = false := decide_eq_false ij3
      have HZ := Lib.hid hz
      clear hz hx hx2 hx0 hx1
      rcases Nat.eq_zero_or_pos k with rfl | hk0
      · rw [Addr.add_zero'] at cz
        have rz := fun d os => cell_regrown cz d os
        have rd0 := fun d os => cell_regrown d0 d os
        have rd1 := fun d os => cell_regrown d1 d os
        have rz0 := fun d os => cell_regrown z0 d os
        have rz1 := fun d os => cell_regrown z1 d os
        clear cz d0 d1 d2 z0 z1
        go_wp2
        refine wp_region_quiet_below (by kernel_rfl) (by kernel_rfl) ?_
        repeat (go_big_quiet_step (fail))
        refine wpQuiet_nil ?_
        intro _ hw'
        obtain ⟨⟨d', os⟩, rfl⟩ := hw'
        go_wp2
        go_roundw
        case rel => exact ⟨1, by omega, by go_num, below_grow HBR.out HBR.out.size _ _⟩
        case measure => simp [intOf]; omega
      · obtain ⟨k1, HK1⟩ : ∃ k1 : Nat, Hid (k1 + 1 = k) := ⟨k - 1, Lib.hid (by omega)⟩
        obtain ⟨a5', y, ea, _, hy, cy⟩ := Is.at_ WASr.out (show k1 < m5 by have := HK1.out; omega)
        obtain rfl := Option.some.inj ea
        have hyz := btw_rise (k := k1) hy (by rw [HK1.out]; exact HZ.out)
        have iy : ¬ ((j : Int) ≤ y) := by omega
        have iyd : decide ((j : Int) ≤ y) = false := decide_eq_false iy
        have ik3 : (k1 : Int) < (m5 : Int) := by have := HK1.out; omega
        have ik4 : (0 : Int) ≤ (k1 : Int) := by omega
        have ik5 : k1 < m5 := by have := HK1.out; omega
        have ik7 : (k : Int) - 1 = (k1 : Int) := by have := HK1.out; omega
        have ikb : (k1 : Int) ≤ 1000 := by have := HM5.out; omega
        have ik7w : wrap64 (k1 : Int) = (k1 : Int) := IntWalk.wrap64_in _ (by omega)
        have ik9 : (0 : Int) < (k : Int) := Int.natCast_pos.2 hk0
        have ik10 : 0 < k := hk0
        have dk8 : decide (0 < k) = true := decide_eq_true ik10
        have dk9 : decide ((0 : Int) < (k : Int)) = true := decide_eq_true ik9
        have HM := Lib.hid HBR.out
        clear hy ea hyz hk0
        have rz := fun d os => cell_regrown cz d os
        have ry := fun d os => cell_regrown cy d os
        have rd0 := fun d os => cell_regrown d0 d os
        have rd1 := fun d os => cell_regrown d1 d os
        have rz0 := fun d os => cell_regrown z0 d os
        have rz1 := fun d os => cell_regrown z1 d os
        clear cz cy d0 d1 d2 z0 z1
        go_wp2
        refine wp_region_quiet_below (by kernel_rfl) (by kernel_rfl) ?_
        repeat (go_big_quiet_step (fail))
        refine wpQuiet_nil ?_
        intro _ hw'
        obtain ⟨⟨d', os⟩, rfl⟩ := hw'
        go_wp2
        go_roundw
        case rel => exact ⟨k + 1, by omega, by go_num, below_grow HBR.out HBR.out.size _ _⟩
        case measure => simp [intOf]; omega
    · obtain rfl : k = m5 := by omega
      have BR := Lib.hid (then_ B_27.out HBR.out)
      have m0 := Mr.out.cell 0 _ rfl
      have m1 := Mr.out.cell 1 _ rfl
      have z0 := Er.out.cell 0 _ rfl
      have z1 := Er.out.cell 1 _ rfl
      have hwk : IntKind.i64.wrap (k : Int) = (k : Int) := IntWalk.i64_in _ (by have := HM5.out; omega)
      have hk1000 : (k : Int) ≤ 1000 := by have := HM5.out; omega
      rw [HQ0.out] at m0
      rw [HQ1.out] at m1
      have hw7 : IntKind.i64.wrap ((k : Int) - 1) = (m6 : Int) := by rw [IntWalk.i64_in _ (by have := HM5.out; omega)]; have := HMM.out; omega
      have hm9 : ((k : Int) - 1) = (m6 : Int) := by have := HMM.out; omega
      go_wp2
      go_loopw [14, 15] (fun v i wr2 => ∃ k2 : Nat, k2 ≤ n0 ∧ v = .int .i64 ((skipB true kk k2 : Nat) : Int) ∧ i = .int .i64 k2 ∧ Below wa.heap.size wa wr2) (fun _ i _ => n0 - (intOf i).toNat)
      case atStart => exact ⟨0, Nat.zero_le _, by simp [skipB], rfl, Below.refl _ _⟩
      case round =>
        obtain ⟨k2, hk2, rfl, rfl, hbel⟩ := hrel
        have HB2 := Lib.hid hbel
        have K0s := Lib.hid (K0r.out.keep hbel); have Qs := Lib.hid (Qr.out.keep hbel)
        clear hbel
        by_cases hlt2 : k2 < n0
        · by_cases hkk : k2 < kk
          · rw [show skipB true kk k2 = k2 by unfold skipB; rw [if_neg (by simp; omega)]]
            have ine : ¬ ((k2 : Int) = (kk : Int)) := by omega
            obtain ⟨b1, y1, rfl, _, hy1, d⟩ := K0s.out.at_ hlt2
            obtain ⟨b3, y2, rfl, _, hy2, d'⟩ := Qs.out.at_ (k := k2) (by have := HP1.out; omega)
            obtain rfl : y1 = y2 := Option.some.inj (by rw [← hy1, ← hy2]; exact (HLO.out k2 hkk).symm)
            obtain ⟨d0, d1, d2⟩ := d
            obtain ⟨f0, f1, f2⟩ := d'
            have hne := neq_msg y1 y1
            rw [msgEq_self] at hne
            have il0 : (0 : Int) ≤ (k2 : Int) := by omega
            have il1 : (k2 : Int) < (n0 : Int) := by omega
            have il3 : ((k2 : Nat) : Int) < (p1 : Int) := by have := HP1.out; omega
            have il4 : ¬ ((p1 : Int) ≤ ((k2 : Nat) : Int)) := by have := HP1.out; omega
            have il5 : (0 : Int) ≤ ((k2 : Nat) : Int) := by omega
            have il9 : (k2 : Int) ≤ 1000 := by omega
            have dl4 : decide ((p1 : Int) ≤ (k2 : Int)) = false := decide_eq_false il4
            have dl5 : decide (p1 ≤ k2) = false := decide_eq_false (by have := HP1.out; omega)
            have HS : Hid (skipB true kk (k2 + 1) = k2 + 1) := Lib.hid (by unfold skipB; rw [if_neg (by simp; omega)])
            clear hy1 hy2
            go_wp2
            go_quiet (fail)
            go_wp2
            go_roundw
            case rel => exact ⟨k2 + 1, by omega, by rw [HS.out]; go_num, by go_num, below_drewN HB2.out _⟩
            case measure => simp [intOf]; omega
          · by_cases hke : k2 = kk
            · subst hke
              rw [show skipB true k2 k2 = k2 by unfold skipB; rw [if_neg (by simp)]]
              have HS : Hid (skipB true k2 (k2 + 1) = k2) := Lib.hid (by unfold skipB; rw [if_pos (by simp)]; omega)
              go_wp2
              go_roundw
              case rel => exact ⟨k2 + 1, by omega, by rw [HS.out], by go_num, HB2.out⟩
              case measure => simp [intOf]; omega
            · obtain ⟨k3, HK3⟩ : ∃ k3 : Nat, Hid (k2 = k3 + 1) := ⟨k2 - 1, Lib.hid (by omega)⟩
              rw [show skipB true kk k2 = k3 by unfold skipB; rw [if_pos ⟨rfl, by omega⟩]; have := HK3.out; omega]
              have ine : ¬ ((k2 : Int) = (kk : Int)) := by omega
              obtain ⟨b1, y1, rfl, _, hy1, d⟩ := K0s.out.at_ hlt2
              obtain ⟨b3, y2, rfl, _, hy2, d'⟩ := Qs.out.at_ (k := k3) (by have := HP1.out; have := HK3.out; omega)
              obtain rfl : y1 = y2 := Option.some.inj (by rw [← hy1, ← hy2]; rw [HK3.out]; exact (HHI.out k3 (by have := HK3.out; omega)).symm)
              obtain ⟨d0, d1, d2⟩ := d
              obtain ⟨f0, f1, f2⟩ := d'
              have hne := neq_msg y1 y1
              rw [msgEq_self] at hne
              have il0 : (0 : Int) ≤ (k2 : Int) := by omega
              have il1 : (k2 : Int) < (n0 : Int) := by omega
              have il3 : ((k3 : Nat) : Int) < (p1 : Int) := by have := HP1.out; have := HK3.out; omega
              have il4 : ¬ ((p1 : Int) ≤ ((k3 : Nat) : Int)) := by have := HP1.out; have := HK3.out; omega
              have il5 : (0 : Int) ≤ ((k3 : Nat) : Int) := by omega
              have il9 : (k3 : Int) ≤ 1000 := by have := HK3.out; omega
              have dl4 : decide ((p1 : Int) ≤ (k3 : Int)) = false := decide_eq_false il4
              have dl5 : decide (p1 ≤ k3) = false := decide_eq_false (by have := HP1.out; have := HK3.out; omega)
              have HS : Hid (skipB true kk (k2 + 1) = k3 + 1) := Lib.hid (by unfold skipB; rw [if_pos ⟨rfl, by omega⟩]; have := HK3.out; omega)
              clear hy1 hy2
              go_wp2
              go_quiet (fail)
              go_wp2
              go_roundw
              case rel => exact ⟨k2 + 1, by omega, by rw [HS.out]; go_num, by go_num, below_drewN HB2.out _⟩
              case measure => simp [intOf]; omega
        · obtain rfl : k2 = n0 := by omega
          have hsk : skipB true kk k2 = p1 := by unfold skipB; rw [if_pos ⟨rfl, by omega⟩]; have := HP1.out; omega
          rw [hsk]
          have BQ := Lib.hid (then_ BR.out HB2.out)
          go_wp2_with fail
          refine (live_any _).mono ?_; rintro e w9 ⟨rfl, hb⟩
          have BB := Lib.hid (then_ BQ.out hb)
          clear hb
          go_wp2
          go_ret
          exact ⟨rfl, BB.out⟩
theorem fine2 (w : World) (A0 : Option Addr) (n0 c0 : Nat) (l0 : List Msg) (a1 : Int) (a2 b2 : Int) (k0 : Ms w A0 n0 c0 l0) (w1 : (Lit.int .i64 a1).wf = true) (w2 : (Lit.int .i64 a2).wf = true) (u2 : (Lit.int .i64 b2).wf = true) (hf : fewB2 n0 0 = true) (hh : hasM l0 a1 = true) (hq0 : (tkM l0 a1).frm = a2) (hq1 : (tkM l0 a1).dst ≠ b2) :
    Calls Try.prog 12 #[.slice A0 n0 c0, .int .i64 a1, .agg #[.int .i64 a2, .int .i64 b2]] w fun e w' => e = .returned (.bool true) ∧ Below w.heap.size w w' := by
  obtain ⟨h0, _⟩ := few_iff.1 hf
  have HF := Lib.hid hf
  have hl0 := k0.len
  have HJ := Lib.hid (take_any A0 n0 c0 l0 a1)
  have HBL : Hid ((btwL l0 a2 b2).length ≤ 1000) := Lib.hid (by have := btw_len (b := l0) (f := a2) (t := b2) l0.length; unfold btwL; omega)
  obtain ⟨i0, i1⟩ := hasM_iff.1 hh
  rw [hl0] at i1
  obtain ⟨kk, rfl⟩ : ∃ kk : Nat, a1 = (kk : Int) := ⟨a1.toNat, by omega⟩
  have hat := has_at hh
  rw [(tk_ok hh).1, (tk_ok hh).2] at HJ
  rw [Int.toNat_natCast] at hat HJ
  have HCT := Lib.hid (without_count (isM a2 b2) hat)
  have HWL : Hid ((without l0 kk).length + 1 = n0) := Lib.hid (by rw [without_len (by omega)]; omega)
  have hq2 : isM a2 b2 (tkM l0 kk) = false := decide_eq_false (fun h => hq1 h.2)
  rw [hq2] at HCT
  clear hq2 hat
  have HQ0 := Lib.hid hq0; clear hq0
  have HQ1 := Lib.hid hq1; clear hq1
  have HLO : Hid (∀ j, j < kk → (without l0 kk)[j]? = l0[j]?) := Lib.hid (fun j hj => without_low hj (by omega))
  have HHI : Hid (∀ j, kk ≤ j → (without l0 kk)[j]? = l0[j + 1]?) := Lib.hid (fun j hj => without_high hj (by omega))
  have HL0 := Lib.hid hl0
  clear hf hh hl0 w1 w2 u2
  have K0_0 := Lib.hid k0
  clear k0
  have K0_1 := Lib.hid (K0_0.out.keep (new1 w (.cells #[.int .i64 a2, .int .i64 b2] 27)))
  have B_2 := Lib.hid ((new1 w (.cells #[.int .i64 a2, .int .i64 b2] 27)))
  clear K0_0
  have E_3 := Lib.hid (own_new w #[.int .i64 a2, .int .i64 b2] 27)
  go_enter Try.func12, Try.ntmps12
  go_wp2_with fail
  refine (few_msg A0 none n0 c0 0 0 _).mono ?_; rintro e w' ⟨rfl, rfl⟩
  rw [HF.out]
  go_wp2_with fail
  refine (HJ.out _ K0_1.out (by omega)).mono ?_; rintro e w1 ⟨P1, p1, q1, rfl, h, hb⟩
  have S_4 := Lib.hid hb; clear hb
  have K0_5 := Lib.hid (K0_1.out.keep S_4.out)
  have E_6 := Lib.hid (E_3.out.below S_4.out)
  have B_7 := Lib.hid (then_ B_2.out S_4.out)
  clear K0_1 E_3 B_2
  clear S_4
  have Q_8 := Lib.hid (h)
  clear h
  generalize tkM l0 kk = tm at *
  have K0_9 := Lib.hid (K0_5.out.keep (new1 w1 (.cells #[.int .i64 tm.frm, .int .i64 tm.dst, .string tm.body] 42)))
  have E_10 := Lib.hid (E_6.out.below (new1 w1 (.cells #[.int .i64 tm.frm, .int .i64 tm.dst, .string tm.body] 42)))
  have Q_11 := Lib.hid (Q_8.out.keep (new1 w1 (.cells #[.int .i64 tm.frm, .int .i64 tm.dst, .string tm.body] 42)))
  have B_12 := Lib.hid (then_ B_7.out (new1 w1 (.cells #[.int .i64 tm.frm, .int .i64 tm.dst, .string tm.body] 42)))
  clear K0_5 E_6 Q_8 B_7
  have M_13 := Lib.hid (own_new w1 #[.int .i64 tm.frm, .int .i64 tm.dst, .string tm.body] 42)
  have HP1 : Hid (p1 + 1 = n0) := Lib.hid (by have h1 := Q_11.out.len; have h2 := HWL.out; omega)
  have z0 := E_10.out.cell 0 _ rfl
  have z1 := E_10.out.cell 1 _ rfl
  go_wp2_with fail
  refine (between_any A0 n0 c0 l0 a2 b2 _ K0_9.out (by omega)).mono ?_; rintro e w2 ⟨A5, m5, c5, rfl, h, hb⟩
  have S_14 := Lib.hid hb; clear hb
  have K0_15 := Lib.hid (K0_9.out.keep S_14.out)
  have E_16 := Lib.hid (E_10.out.below S_14.out)
  have Q_17 := Lib.hid (Q_11.out.keep S_14.out)
  have M_18 := Lib.hid (M_13.out.below S_14.out)
  have B_19 := Lib.hid (then_ B_12.out S_14.out)
  clear K0_9 E_10 Q_11 M_13 B_12
  clear S_14
  have WAS_20 := Lib.hid (h)
  clear h
  clear z0 z1
  have z0 := E_16.out.cell 0 _ rfl
  have z1 := E_16.out.cell 1 _ rfl
  go_wp2_with fail
  refine (between_any P1 p1 q1 (without l0 kk) a2 b2 _ Q_17.out (by have := HP1.out; omega)).mono ?_; rintro e w3 ⟨A6, m6, c6, rfl, h, hb⟩
  have S_21 := Lib.hid hb; clear hb
  have K0_22 := Lib.hid (K0_15.out.keep S_21.out)
  have E_23 := Lib.hid (E_16.out.below S_21.out)
  have Q_24 := Lib.hid (Q_17.out.keep S_21.out)
  have M_25 := Lib.hid (M_18.out.below S_21.out)
  have WAS_26 := Lib.hid (WAS_20.out.below S_21.out)
  have B_27 := Lib.hid (then_ B_19.out S_21.out)
  clear K0_15 E_16 Q_17 M_18 WAS_20 B_19
  clear S_21
  have NOW_28 := Lib.hid (h)
  clear h
  clear z0 z1
  obtain rfl : m5 = m6 := by have h1 := WAS_26.out.len; have h2 := NOW_28.out.len; rw [btw_count'] at h1 h2; have h3 := HCT.out; simp at h3; omega
  have hm5 : m5 ≤ 1000 := by have h1 := WAS_26.out.len; have h2 := HBL.out; omega
  have HM5 := Lib.hid hm5
  clear hm5
  go_wp2
  go_loopw [12] (fun i wr => ∃ k : Nat, k ≤ m5 ∧ i = .int .i64 k ∧ Below w3.heap.size w3 wr) (fun i _ => m5 - (intOf i).toNat)
  case atStart => exact ⟨0, Nat.zero_le _, rfl, Below.refl _ _⟩
  case round =>
    rename World => wa
    obtain ⟨k, hk, rfl, hbel⟩ := hrel
    have HBR := Lib.hid hbel
    have WASr := Lib.hid (WAS_26.out.below hbel); have K0r := Lib.hid (K0_22.out.keep hbel); have Er := Lib.hid (E_23.out.below hbel)
    have Qr := Lib.hid (Q_24.out.keep hbel); have Mr := Lib.hid (M_25.out.below hbel)
    clear hbel
    by_cases hlt : k < m5
    · obtain ⟨a5, z, rfl, _, hz, cz⟩ := Is.at_ WASr.out hlt
      obtain ⟨j, x, rfl, hj, hx, hx0, hx1⟩ := btw_mem hz
      rw [HL0.out] at hj
      obtain ⟨a, x2, rfl, _, hx2, hc⟩ := K0r.out.at_ hj
      obtain rfl : x = x2 := Option.some.inj (hx.symm.trans hx2)
      obtain ⟨d0, d1, d2⟩ := hc
      rw [hx0] at d0
      rw [hx1] at d1
      have z0 := Er.out.cell 0 _ rfl
      have z1 := Er.out.cell 1 _ rfl
      have ik0 : (0 : Int) ≤ (k : Int) := by omega
      have ik1 : (k : Int) < (m5 : Int) := by omega
      have ij0 : (0 : Int) ≤ (j : Int) := by omega
      have ij1 : (j : Int) < (n0 : Int) := by omega
      have ij2 : ¬ ((n0 : Int) ≤ (j : Int)) := by omega
      have ij3 : ¬ ((j : Int) < 0) := by omega
      have dj2 : decide ((n0 : Int) ≤ (j : Int)) = false := decide_eq_false ij2
      have ij4 : ¬ (n0 ≤ j) := by omega
      have dj4 : decide (n0 ≤ j) = false := decide_eq_false ij4
      have dj3 : decide ((j : Int) < 0) = false := decide_eq_false ij3
      have HZ := Lib.hid hz
      clear hz hx hx2 hx0 hx1
      rcases Nat.eq_zero_or_pos k with rfl | hk0
      · rw [Addr.add_zero'] at cz
        have rz := fun d os => cell_regrown cz d os
        have rd0 := fun d os => cell_regrown d0 d os
        have rd1 := fun d os => cell_regrown d1 d os
        have rz0 := fun d os => cell_regrown z0 d os
        have rz1 := fun d os => cell_regrown z1 d os
        clear cz d0 d1 d2 z0 z1
        go_wp2
        refine wp_region_quiet_below (by kernel_rfl) (by kernel_rfl) ?_
        repeat (go_big_quiet_step (fail))
        refine wpQuiet_nil ?_
        intro _ hw'
        obtain ⟨⟨d', os⟩, rfl⟩ := hw'
        go_wp2
        go_roundw
        case rel => exact ⟨1, by omega, by go_num, below_grow HBR.out HBR.out.size _ _⟩
        case measure => simp [intOf]; omega
      · obtain ⟨k1, HK1⟩ : ∃ k1 : Nat, Hid (k1 + 1 = k) := ⟨k - 1, Lib.hid (by omega)⟩
        obtain ⟨a5', y, ea, _, hy, cy⟩ := Is.at_ WASr.out (show k1 < m5 by have := HK1.out; omega)
        obtain rfl := Option.some.inj ea
        have hyz := btw_rise (k := k1) hy (by rw [HK1.out]; exact HZ.out)
        have iy : ¬ ((j : Int) ≤ y) := by omega
        have iyd : decide ((j : Int) ≤ y) = false := decide_eq_false iy
        have ik3 : (k1 : Int) < (m5 : Int) := by have := HK1.out; omega
        have ik4 : (0 : Int) ≤ (k1 : Int) := by omega
        have ik5 : k1 < m5 := by have := HK1.out; omega
        have ik7 : (k : Int) - 1 = (k1 : Int) := by have := HK1.out; omega
        have ikb : (k1 : Int) ≤ 1000 := by have := HM5.out; omega
        have ik7w : wrap64 (k1 : Int) = (k1 : Int) := IntWalk.wrap64_in _ (by omega)
        have ik9 : (0 : Int) < (k : Int) := Int.natCast_pos.2 hk0
        have ik10 : 0 < k := hk0
        have dk8 : decide (0 < k) = true := decide_eq_true ik10
        have dk9 : decide ((0 : Int) < (k : Int)) = true := decide_eq_true ik9
        have HM := Lib.hid HBR.out
        clear hy ea hyz hk0
        have rz := fun d os => cell_regrown cz d os
        have ry := fun d os => cell_regrown cy d os
        have rd0 := fun d os => cell_regrown d0 d os
        have rd1 := fun d os => cell_regrown d1 d os
        have rz0 := fun d os => cell_regrown z0 d os
        have rz1 := fun d os => cell_regrown z1 d os
        clear cz cy d0 d1 d2 z0 z1
        go_wp2
        refine wp_region_quiet_below (by kernel_rfl) (by kernel_rfl) ?_
        repeat (go_big_quiet_step (fail))
        refine wpQuiet_nil ?_
        intro _ hw'
        obtain ⟨⟨d', os⟩, rfl⟩ := hw'
        go_wp2
        go_roundw
        case rel => exact ⟨k + 1, by omega, by go_num, below_grow HBR.out HBR.out.size _ _⟩
        case measure => simp [intOf]; omega
    · obtain rfl : k = m5 := by omega
      have BR := Lib.hid (then_ B_27.out HBR.out)
      have m0 := Mr.out.cell 0 _ rfl
      have m1 := Mr.out.cell 1 _ rfl
      have z0 := Er.out.cell 0 _ rfl
      have z1 := Er.out.cell 1 _ rfl
      have hwk : IntKind.i64.wrap (k : Int) = (k : Int) := IntWalk.i64_in _ (by have := HM5.out; omega)
      have hk1000 : (k : Int) ≤ 1000 := by have := HM5.out; omega
      rw [HQ0.out] at m0
      have hq3 : ¬ tm.dst = b2 := HQ1.out
      have hq4 : (tm.dst == b2) = false := beq_eq_false_iff_ne.2 hq3
      go_wp2
      go_loopw [14, 15] (fun v i wr2 => ∃ k2 : Nat, k2 ≤ n0 ∧ v = .int .i64 ((skipB true kk k2 : Nat) : Int) ∧ i = .int .i64 k2 ∧ Below wa.heap.size wa wr2) (fun _ i _ => n0 - (intOf i).toNat)
      case atStart => exact ⟨0, Nat.zero_le _, by simp [skipB], rfl, Below.refl _ _⟩
      case round =>
        obtain ⟨k2, hk2, rfl, rfl, hbel⟩ := hrel
        have HB2 := Lib.hid hbel
        have K0s := Lib.hid (K0r.out.keep hbel); have Qs := Lib.hid (Qr.out.keep hbel)
        clear hbel
        by_cases hlt2 : k2 < n0
        · by_cases hkk : k2 < kk
          · rw [show skipB true kk k2 = k2 by unfold skipB; rw [if_neg (by simp; omega)]]
            have ine : ¬ ((k2 : Int) = (kk : Int)) := by omega
            obtain ⟨b1, y1, rfl, _, hy1, d⟩ := K0s.out.at_ hlt2
            obtain ⟨b3, y2, rfl, _, hy2, d'⟩ := Qs.out.at_ (k := k2) (by have := HP1.out; omega)
            obtain rfl : y1 = y2 := Option.some.inj (by rw [← hy1, ← hy2]; exact (HLO.out k2 hkk).symm)
            obtain ⟨d0, d1, d2⟩ := d
            obtain ⟨f0, f1, f2⟩ := d'
            have hne := neq_msg y1 y1
            rw [msgEq_self] at hne
            have il0 : (0 : Int) ≤ (k2 : Int) := by omega
            have il1 : (k2 : Int) < (n0 : Int) := by omega
            have il3 : ((k2 : Nat) : Int) < (p1 : Int) := by have := HP1.out; omega
            have il4 : ¬ ((p1 : Int) ≤ ((k2 : Nat) : Int)) := by have := HP1.out; omega
            have il5 : (0 : Int) ≤ ((k2 : Nat) : Int) := by omega
            have il9 : (k2 : Int) ≤ 1000 := by omega
            have dl4 : decide ((p1 : Int) ≤ (k2 : Int)) = false := decide_eq_false il4
            have dl5 : decide (p1 ≤ k2) = false := decide_eq_false (by have := HP1.out; omega)
            have HS : Hid (skipB true kk (k2 + 1) = k2 + 1) := Lib.hid (by unfold skipB; rw [if_neg (by simp; omega)])
            clear hy1 hy2
            go_wp2
            go_quiet (fail)
            go_wp2
            go_roundw
            case rel => exact ⟨k2 + 1, by omega, by rw [HS.out]; go_num, by go_num, below_drewN HB2.out _⟩
            case measure => simp [intOf]; omega
          · by_cases hke : k2 = kk
            · subst hke
              rw [show skipB true k2 k2 = k2 by unfold skipB; rw [if_neg (by simp)]]
              have HS : Hid (skipB true k2 (k2 + 1) = k2) := Lib.hid (by unfold skipB; rw [if_pos (by simp)]; omega)
              go_wp2
              go_roundw
              case rel => exact ⟨k2 + 1, by omega, by rw [HS.out], by go_num, HB2.out⟩
              case measure => simp [intOf]; omega
            · obtain ⟨k3, HK3⟩ : ∃ k3 : Nat, Hid (k2 = k3 + 1) := ⟨k2 - 1, Lib.hid (by omega)⟩
              rw [show skipB true kk k2 = k3 by unfold skipB; rw [if_pos ⟨rfl, by omega⟩]; have := HK3.out; omega]
              have ine : ¬ ((k2 : Int) = (kk : Int)) := by omega
              obtain ⟨b1, y1, rfl, _, hy1, d⟩ := K0s.out.at_ hlt2
              obtain ⟨b3, y2, rfl, _, hy2, d'⟩ := Qs.out.at_ (k := k3) (by have := HP1.out; have := HK3.out; omega)
              obtain rfl : y1 = y2 := Option.some.inj (by rw [← hy1, ← hy2]; rw [HK3.out]; exact (HHI.out k3 (by have := HK3.out; omega)).symm)
              obtain ⟨d0, d1, d2⟩ := d
              obtain ⟨f0, f1, f2⟩ := d'
              have hne := neq_msg y1 y1
              rw [msgEq_self] at hne
              have il0 : (0 : Int) ≤ (k2 : Int) := by omega
              have il1 : (k2 : Int) < (n0 : Int) := by omega
              have il3 : ((k3 : Nat) : Int) < (p1 : Int) := by have := HP1.out; have := HK3.out; omega
              have il4 : ¬ ((p1 : Int) ≤ ((k3 : Nat) : Int)) := by have := HP1.out; have := HK3.out; omega
              have il5 : (0 : Int) ≤ ((k3 : Nat) : Int) := by omega
              have il9 : (k3 : Int) ≤ 1000 := by have := HK3.out; omega
              have dl4 : decide ((p1 : Int) ≤ (k3 : Int)) = false := decide_eq_false il4
              have dl5 : decide (p1 ≤ k3) = false := decide_eq_false (by have := HP1.out; have := HK3.out; omega)
              have HS : Hid (skipB true kk (k2 + 1) = k3 + 1) := Lib.hid (by unfold skipB; rw [if_pos ⟨rfl, by omega⟩]; have := HK3.out; omega)
              clear hy1 hy2
              go_wp2
              go_quiet (fail)
              go_wp2
              go_roundw
              case rel => exact ⟨k2 + 1, by omega, by rw [HS.out]; go_num, by go_num, below_drewN HB2.out _⟩
              case measure => simp [intOf]; omega
        · obtain rfl : k2 = n0 := by omega
          have hsk : skipB true kk k2 = p1 := by unfold skipB; rw [if_pos ⟨rfl, by omega⟩]; have := HP1.out; omega
          rw [hsk]
          have BQ := Lib.hid (then_ BR.out HB2.out)
          go_wp2_with fail
          refine (live_any _).mono ?_; rintro e w9 ⟨rfl, hb⟩
          have BB := Lib.hid (then_ BQ.out hb)
          clear hb
          go_wp2
          go_ret
          exact ⟨rfl, BB.out⟩
theorem fine3 (w : World) (A0 : Option Addr) (n0 c0 : Nat) (l0 : List Msg) (a1 : Int) (a2 b2 : Int) (k0 : Ms w A0 n0 c0 l0) (w1 : (Lit.int .i64 a1).wf = true) (w2 : (Lit.int .i64 a2).wf = true) (u2 : (Lit.int .i64 b2).wf = true) (hf : fewB2 n0 0 = true) (hh : hasM l0 a1 = true) (hq0 : (tkM l0 a1).frm ≠ a2) :
    Calls Try.prog 12 #[.slice A0 n0 c0, .int .i64 a1, .agg #[.int .i64 a2, .int .i64 b2]] w fun e w' => e = .returned (.bool true) ∧ Below w.heap.size w w' := by
  obtain ⟨h0, _⟩ := few_iff.1 hf
  have HF := Lib.hid hf
  have hl0 := k0.len
  have HJ := Lib.hid (take_any A0 n0 c0 l0 a1)
  have HBL : Hid ((btwL l0 a2 b2).length ≤ 1000) := Lib.hid (by have := btw_len (b := l0) (f := a2) (t := b2) l0.length; unfold btwL; omega)
  obtain ⟨i0, i1⟩ := hasM_iff.1 hh
  rw [hl0] at i1
  obtain ⟨kk, rfl⟩ : ∃ kk : Nat, a1 = (kk : Int) := ⟨a1.toNat, by omega⟩
  have hat := has_at hh
  rw [(tk_ok hh).1, (tk_ok hh).2] at HJ
  rw [Int.toNat_natCast] at hat HJ
  have HCT := Lib.hid (without_count (isM a2 b2) hat)
  have HWL : Hid ((without l0 kk).length + 1 = n0) := Lib.hid (by rw [without_len (by omega)]; omega)
  have hq2 : isM a2 b2 (tkM l0 kk) = false := decide_eq_false (fun h => hq0 h.1)
  rw [hq2] at HCT
  clear hq2 hat
  have HQ0 := Lib.hid hq0; clear hq0
  have HLO : Hid (∀ j, j < kk → (without l0 kk)[j]? = l0[j]?) := Lib.hid (fun j hj => without_low hj (by omega))
  have HHI : Hid (∀ j, kk ≤ j → (without l0 kk)[j]? = l0[j + 1]?) := Lib.hid (fun j hj => without_high hj (by omega))
  have HL0 := Lib.hid hl0
  clear hf hh hl0 w1 w2 u2
  have K0_0 := Lib.hid k0
  clear k0
  have K0_1 := Lib.hid (K0_0.out.keep (new1 w (.cells #[.int .i64 a2, .int .i64 b2] 27)))
  have B_2 := Lib.hid ((new1 w (.cells #[.int .i64 a2, .int .i64 b2] 27)))
  clear K0_0
  have E_3 := Lib.hid (own_new w #[.int .i64 a2, .int .i64 b2] 27)
  go_enter Try.func12, Try.ntmps12
  go_wp2_with fail
  refine (few_msg A0 none n0 c0 0 0 _).mono ?_; rintro e w' ⟨rfl, rfl⟩
  rw [HF.out]
  go_wp2_with fail
  refine (HJ.out _ K0_1.out (by omega)).mono ?_; rintro e w1 ⟨P1, p1, q1, rfl, h, hb⟩
  have S_4 := Lib.hid hb; clear hb
  have K0_5 := Lib.hid (K0_1.out.keep S_4.out)
  have E_6 := Lib.hid (E_3.out.below S_4.out)
  have B_7 := Lib.hid (then_ B_2.out S_4.out)
  clear K0_1 E_3 B_2
  clear S_4
  have Q_8 := Lib.hid (h)
  clear h
  generalize tkM l0 kk = tm at *
  have K0_9 := Lib.hid (K0_5.out.keep (new1 w1 (.cells #[.int .i64 tm.frm, .int .i64 tm.dst, .string tm.body] 42)))
  have E_10 := Lib.hid (E_6.out.below (new1 w1 (.cells #[.int .i64 tm.frm, .int .i64 tm.dst, .string tm.body] 42)))
  have Q_11 := Lib.hid (Q_8.out.keep (new1 w1 (.cells #[.int .i64 tm.frm, .int .i64 tm.dst, .string tm.body] 42)))
  have B_12 := Lib.hid (then_ B_7.out (new1 w1 (.cells #[.int .i64 tm.frm, .int .i64 tm.dst, .string tm.body] 42)))
  clear K0_5 E_6 Q_8 B_7
  have M_13 := Lib.hid (own_new w1 #[.int .i64 tm.frm, .int .i64 tm.dst, .string tm.body] 42)
  have HP1 : Hid (p1 + 1 = n0) := Lib.hid (by have h1 := Q_11.out.len; have h2 := HWL.out; omega)
  have z0 := E_10.out.cell 0 _ rfl
  have z1 := E_10.out.cell 1 _ rfl
  go_wp2_with fail
  refine (between_any A0 n0 c0 l0 a2 b2 _ K0_9.out (by omega)).mono ?_; rintro e w2 ⟨A5, m5, c5, rfl, h, hb⟩
  have S_14 := Lib.hid hb; clear hb
  have K0_15 := Lib.hid (K0_9.out.keep S_14.out)
  have E_16 := Lib.hid (E_10.out.below S_14.out)
  have Q_17 := Lib.hid (Q_11.out.keep S_14.out)
  have M_18 := Lib.hid (M_13.out.below S_14.out)
  have B_19 := Lib.hid (then_ B_12.out S_14.out)
  clear K0_9 E_10 Q_11 M_13 B_12
  clear S_14
  have WAS_20 := Lib.hid (h)
  clear h
  clear z0 z1
  have z0 := E_16.out.cell 0 _ rfl
  have z1 := E_16.out.cell 1 _ rfl
  go_wp2_with fail
  refine (between_any P1 p1 q1 (without l0 kk) a2 b2 _ Q_17.out (by have := HP1.out; omega)).mono ?_; rintro e w3 ⟨A6, m6, c6, rfl, h, hb⟩
  have S_21 := Lib.hid hb; clear hb
  have K0_22 := Lib.hid (K0_15.out.keep S_21.out)
  have E_23 := Lib.hid (E_16.out.below S_21.out)
  have Q_24 := Lib.hid (Q_17.out.keep S_21.out)
  have M_25 := Lib.hid (M_18.out.below S_21.out)
  have WAS_26 := Lib.hid (WAS_20.out.below S_21.out)
  have B_27 := Lib.hid (then_ B_19.out S_21.out)
  clear K0_15 E_16 Q_17 M_18 WAS_20 B_19
  clear S_21
  have NOW_28 := Lib.hid (h)
  clear h
  clear z0 z1
  obtain rfl : m5 = m6 := by have h1 := WAS_26.out.len; have h2 := NOW_28.out.len; rw [btw_count'] at h1 h2; have h3 := HCT.out; simp at h3; omega
  have hm5 : m5 ≤ 1000 := by have h1 := WAS_26.out.len; have h2 := HBL.out; omega
  have HM5 := Lib.hid hm5
  clear hm5
  go_wp2
  go_loopw [12] (fun i wr => ∃ k : Nat, k ≤ m5 ∧ i = .int .i64 k ∧ Below w3.heap.size w3 wr) (fun i _ => m5 - (intOf i).toNat)
  case atStart => exact ⟨0, Nat.zero_le _, rfl, Below.refl _ _⟩
  case round =>
    rename World => wa
    obtain ⟨k, hk, rfl, hbel⟩ := hrel
    have HBR := Lib.hid hbel
    have WASr := Lib.hid (WAS_26.out.below hbel); have K0r := Lib.hid (K0_22.out.keep hbel); have Er := Lib.hid (E_23.out.below hbel)
    have Qr := Lib.hid (Q_24.out.keep hbel); have Mr := Lib.hid (M_25.out.below hbel)
    clear hbel
    by_cases hlt : k < m5
    · obtain ⟨a5, z, rfl, _, hz, cz⟩ := Is.at_ WASr.out hlt
      obtain ⟨j, x, rfl, hj, hx, hx0, hx1⟩ := btw_mem hz
      rw [HL0.out] at hj
      obtain ⟨a, x2, rfl, _, hx2, hc⟩ := K0r.out.at_ hj
      obtain rfl : x = x2 := Option.some.inj (hx.symm.trans hx2)
      obtain ⟨d0, d1, d2⟩ := hc
      rw [hx0] at d0
      rw [hx1] at d1
      have z0 := Er.out.cell 0 _ rfl
      have z1 := Er.out.cell 1 _ rfl
      have ik0 : (0 : Int) ≤ (k : Int) := by omega
      have ik1 : (k : Int) < (m5 : Int) := by omega
      have ij0 : (0 : Int) ≤ (j : Int) := by omega
      have ij1 : (j : Int) < (n0 : Int) := by omega
      have ij2 : ¬ ((n0 : Int) ≤ (j : Int)) := by omega
      have ij3 : ¬ ((j : Int) < 0) := by omega
      have dj2 : decide ((n0 : Int) ≤ (j : Int)) = false := decide_eq_false ij2
      have ij4 : ¬ (n0 ≤ j) := by omega
      have dj4 : decide (n0 ≤ j) = false := decide_eq_false ij4
      have dj3 : decide ((j : Int) < 0) = false := decide_eq_false ij3
      have HZ := Lib.hid hz
      clear hz hx hx2 hx0 hx1
      rcases Nat.eq_zero_or_pos k with rfl | hk0
      · rw [Addr.add_zero'] at cz
        have rz := fun d os => cell_regrown cz d os
        have rd0 := fun d os => cell_regrown d0 d os
        have rd1 := fun d os => cell_regrown d1 d os
        have rz0 := fun d os => cell_regrown z0 d os
        have rz1 := fun d os => cell_regrown z1 d os
        clear cz d0 d1 d2 z0 z1
        go_wp2
        refine wp_region_quiet_below (by kernel_rfl) (by kernel_rfl) ?_
        repeat (go_big_quiet_step (fail))
        refine wpQuiet_nil ?_
        intro _ hw'
        obtain ⟨⟨d', os⟩, rfl⟩ := hw'
        go_wp2
        go_roundw
        case rel => exact ⟨1, by omega, by go_num, below_grow HBR.out HBR.out.size _ _⟩
        case measure => simp [intOf]; omega
      · obtain ⟨k1, HK1⟩ : ∃ k1 : Nat, Hid (k1 + 1 = k) := ⟨k - 1, Lib.hid (by omega)⟩
        obtain ⟨a5', y, ea, _, hy, cy⟩ := Is.at_ WASr.out (show k1 < m5 by have := HK1.out; omega)
        obtain rfl := Option.some.inj ea
        have hyz := btw_rise (k := k1) hy (by rw [HK1.out]; exact HZ.out)
        have iy : ¬ ((j : Int) ≤ y) := by omega
        have iyd : decide ((j : Int) ≤ y) = false := decide_eq_false iy
        have ik3 : (k1 : Int) < (m5 : Int) := by have := HK1.out; omega
        have ik4 : (0 : Int) ≤ (k1 : Int) := by omega
        have ik5 : k1 < m5 := by have := HK1.out; omega
        have ik7 : (k : Int) - 1 = (k1 : Int) := by have := HK1.out; omega
        have ikb : (k1 : Int) ≤ 1000 := by have := HM5.out; omega
        have ik7w : wrap64 (k1 : Int) = (k1 : Int) := IntWalk.wrap64_in _ (by omega)
        have ik9 : (0 : Int) < (k : Int) := Int.natCast_pos.2 hk0
        have ik10 : 0 < k := hk0
        have dk8 : decide (0 < k) = true := decide_eq_true ik10
        have dk9 : decide ((0 : Int) < (k : Int)) = true := decide_eq_true ik9
        have HM := Lib.hid HBR.out
        clear hy ea hyz hk0
        have rz := fun d os => cell_regrown cz d os
        have ry := fun d os => cell_regrown cy d os
        have rd0 := fun d os => cell_regrown d0 d os
        have rd1 := fun d os => cell_regrown d1 d os
        have rz0 := fun d os => cell_regrown z0 d os
        have rz1 := fun d os => cell_regrown z1 d os
        clear cz cy d0 d1 d2 z0 z1
        go_wp2
        refine wp_region_quiet_below (by kernel_rfl) (by kernel_rfl) ?_
        repeat (go_big_quiet_step (fail))
        refine wpQuiet_nil ?_
        intro _ hw'
        obtain ⟨⟨d', os⟩, rfl⟩ := hw'
        go_wp2
        go_roundw
        case rel => exact ⟨k + 1, by omega, by go_num, below_grow HBR.out HBR.out.size _ _⟩
        case measure => simp [intOf]; omega
    · obtain rfl : k = m5 := by omega
      have BR := Lib.hid (then_ B_27.out HBR.out)
      have m0 := Mr.out.cell 0 _ rfl
      have m1 := Mr.out.cell 1 _ rfl
      have z0 := Er.out.cell 0 _ rfl
      have z1 := Er.out.cell 1 _ rfl
      have hwk : IntKind.i64.wrap (k : Int) = (k : Int) := IntWalk.i64_in _ (by have := HM5.out; omega)
      have hk1000 : (k : Int) ≤ 1000 := by have := HM5.out; omega
      have hq3 : ¬ tm.frm = a2 := HQ0.out
      go_wp2
      go_loopw [14, 15] (fun v i wr2 => ∃ k2 : Nat, k2 ≤ n0 ∧ v = .int .i64 ((skipB true kk k2 : Nat) : Int) ∧ i = .int .i64 k2 ∧ Below wa.heap.size wa wr2) (fun _ i _ => n0 - (intOf i).toNat)
      case atStart => exact ⟨0, Nat.zero_le _, by simp [skipB], rfl, Below.refl _ _⟩
      case round =>
        obtain ⟨k2, hk2, rfl, rfl, hbel⟩ := hrel
        have HB2 := Lib.hid hbel
        have K0s := Lib.hid (K0r.out.keep hbel); have Qs := Lib.hid (Qr.out.keep hbel)
        clear hbel
        by_cases hlt2 : k2 < n0
        · by_cases hkk : k2 < kk
          · rw [show skipB true kk k2 = k2 by unfold skipB; rw [if_neg (by simp; omega)]]
            have ine : ¬ ((k2 : Int) = (kk : Int)) := by omega
            obtain ⟨b1, y1, rfl, _, hy1, d⟩ := K0s.out.at_ hlt2
            obtain ⟨b3, y2, rfl, _, hy2, d'⟩ := Qs.out.at_ (k := k2) (by have := HP1.out; omega)
            obtain rfl : y1 = y2 := Option.some.inj (by rw [← hy1, ← hy2]; exact (HLO.out k2 hkk).symm)
            obtain ⟨d0, d1, d2⟩ := d
            obtain ⟨f0, f1, f2⟩ := d'
            have hne := neq_msg y1 y1
            rw [msgEq_self] at hne
            have il0 : (0 : Int) ≤ (k2 : Int) := by omega
            have il1 : (k2 : Int) < (n0 : Int) := by omega
            have il3 : ((k2 : Nat) : Int) < (p1 : Int) := by have := HP1.out; omega
            have il4 : ¬ ((p1 : Int) ≤ ((k2 : Nat) : Int)) := by have := HP1.out; omega
            have il5 : (0 : Int) ≤ ((k2 : Nat) : Int) := by omega
            have il9 : (k2 : Int) ≤ 1000 := by omega
            have dl4 : decide ((p1 : Int) ≤ (k2 : Int)) = false := decide_eq_false il4
            have dl5 : decide (p1 ≤ k2) = false := decide_eq_false (by have := HP1.out; omega)
            have HS : Hid (skipB true kk (k2 + 1) = k2 + 1) := Lib.hid (by unfold skipB; rw [if_neg (by simp; omega)])
            clear hy1 hy2
            go_wp2
            go_quiet (fail)
            go_wp2
            go_roundw
            case rel => exact ⟨k2 + 1, by omega, by rw [HS.out]; go_num, by go_num, below_drewN HB2.out _⟩
            case measure => simp [intOf]; omega
          · by_cases hke : k2 = kk
            · subst hke
              rw [show skipB true k2 k2 = k2 by unfold skipB; rw [if_neg (by simp)]]
              have HS : Hid (skipB true k2 (k2 + 1) = k2) := Lib.hid (by unfold skipB; rw [if_pos (by simp)]; omega)
              go_wp2
              go_roundw
              case rel => exact ⟨k2 + 1, by omega, by rw [HS.out], by go_num, HB2.out⟩
              case measure => simp [intOf]; omega
            · obtain ⟨k3, HK3⟩ : ∃ k3 : Nat, Hid (k2 = k3 + 1) := ⟨k2 - 1, Lib.hid (by omega)⟩
              rw [show skipB true kk k2 = k3 by unfold skipB; rw [if_pos ⟨rfl, by omega⟩]; have := HK3.out; omega]
              have ine : ¬ ((k2 : Int) = (kk : Int)) := by omega
              obtain ⟨b1, y1, rfl, _, hy1, d⟩ := K0s.out.at_ hlt2
              obtain ⟨b3, y2, rfl, _, hy2, d'⟩ := Qs.out.at_ (k := k3) (by have := HP1.out; have := HK3.out; omega)
              obtain rfl : y1 = y2 := Option.some.inj (by rw [← hy1, ← hy2]; rw [HK3.out]; exact (HHI.out k3 (by have := HK3.out; omega)).symm)
              obtain ⟨d0, d1, d2⟩ := d
              obtain ⟨f0, f1, f2⟩ := d'
              have hne := neq_msg y1 y1
              rw [msgEq_self] at hne
              have il0 : (0 : Int) ≤ (k2 : Int) := by omega
              have il1 : (k2 : Int) < (n0 : Int) := by omega
              have il3 : ((k3 : Nat) : Int) < (p1 : Int) := by have := HP1.out; have := HK3.out; omega
              have il4 : ¬ ((p1 : Int) ≤ ((k3 : Nat) : Int)) := by have := HP1.out; have := HK3.out; omega
              have il5 : (0 : Int) ≤ ((k3 : Nat) : Int) := by omega
              have il9 : (k3 : Int) ≤ 1000 := by have := HK3.out; omega
              have dl4 : decide ((p1 : Int) ≤ (k3 : Int)) = false := decide_eq_false il4
              have dl5 : decide (p1 ≤ k3) = false := decide_eq_false (by have := HP1.out; have := HK3.out; omega)
              have HS : Hid (skipB true kk (k2 + 1) = k3 + 1) := Lib.hid (by unfold skipB; rw [if_pos ⟨rfl, by omega⟩]; have := HK3.out; omega)
              clear hy1 hy2
              go_wp2
              go_quiet (fail)
              go_wp2
              go_roundw
              case rel => exact ⟨k2 + 1, by omega, by rw [HS.out]; go_num, by go_num, below_drewN HB2.out _⟩
              case measure => simp [intOf]; omega
        · obtain rfl : k2 = n0 := by omega
          have hsk : skipB true kk k2 = p1 := by unfold skipB; rw [if_pos ⟨rfl, by omega⟩]; have := HP1.out; omega
          rw [hsk]
          have BQ := Lib.hid (then_ BR.out HB2.out)
          go_wp2_with fail
          refine (live_any _).mono ?_; rintro e w9 ⟨rfl, hb⟩
          have BB := Lib.hid (then_ BQ.out hb)
          clear hb
          go_wp2
          go_ret
          exact ⟨rfl, BB.out⟩
theorem walk (w : World) (A0 : Option Addr) (n0 c0 : Nat) (l0 : List Msg) (a1 : Int) (a2 b2 : Int) (k0 : Ms w A0 n0 c0 l0) (w1 : (Lit.int .i64 a1).wf = true) (w2 : (Lit.int .i64 a2).wf = true) (u2 : (Lit.int .i64 b2).wf = true) :
    Calls Try.prog 12 #[.slice A0 n0 c0, .int .i64 a1, .agg #[.int .i64 a2, .int .i64 b2]] w fun e w' => e = .returned (.bool true) ∧ Below w.heap.size w w' := by
  cases hf : fewB2 n0 0 with
  | false => exact no_few w A0 n0 c0 l0 a1 a2 b2 k0 w1 w2 u2 hf
  | true =>
    cases hh : hasM l0 a1 with
    | false => exact fine0 w A0 n0 c0 l0 a1 a2 b2 k0 w1 w2 u2 hf hh
    | true =>
      by_cases hq0 : (tkM l0 a1).frm = a2
      · by_cases hq1 : (tkM l0 a1).dst = b2
        · exact fine1 w A0 n0 c0 l0 a1 a2 b2 k0 w1 w2 u2 hf hh hq0 hq1
        · exact fine2 w A0 n0 c0 l0 a1 a2 b2 k0 w1 w2 u2 hf hh hq0 hq1
      · exact fine3 w A0 n0 c0 l0 a1 a2 b2 k0 w1 w2 u2 hf hh hq0

theorem own : ownKnob Try.prog.godebug = none := by kernel_rfl
theorem laidOut : laidOutB Try.prog = true := by kernel_rfl

set_option maxRecDepth 100000 in
theorem lifted (os : Os) (started : os.Started) (H : Type) (enc : TypeId × Value → H) :
    ReturnsInHanded {} Try.checked os 12 .any (Rows.bagCountsSpec.pre6 enc Try.prog Try.f12 Rows.bagCountsRow.domain false) (Rows.bagCountsSpec.post enc Try.prog Try.f12 false true false false) := by
  refine returnsInHanded_of_change (C := Try.checked) own started (by kernel_rfl) Try.func12
    (ChangeSpec.witness6 (enc := enc) (C := Try.checked) false ⟨#[], #[.slice none 0 0, (.int .i64 0), .agg #[.int .i64 0, .int .i64 0]], []⟩ 8 (by kernel_rfl) (by kernel_rfl) (by kernel_rfl) (by kernel_rfl)) ?_
  intro W base args ds gs before hval0 hW hcnd _
  have hval : ∀ (j : Nat) t v, Try.f12.params[j]? = some t → args[j]? = some v → Value.okWide Try.prog W .any base t v := hval0
  have hW' := hW
  obtain ⟨p, q, hA0, hV, rfl, hfz, hnd⟩ := hW
  have hA : DataW.TrodAll enc Try.prog W 0 (fun _ => true) true Try.f12.params.toList args.toList ds p := hA0
  rw [Try.params12] at hA hval
  obtain ⟨v0, vs0, d0, ds0, p0, q0, hargs, rfl, rfl, h0, r0⟩ := trodAll_cons hA
  obtain ⟨v1, vs1, d1, ds1, p1, q1, rfl, rfl, rfl, h1, r1⟩ := trodAll_cons r0
  obtain ⟨v2, vs2, d2, ds2, p2, q2, rfl, rfl, rfl, h2, r2⟩ := trodAll_cons r1
  obtain ⟨rfl, rfl, rfl⟩ := trodAll_nil r2
  obtain rfl : args = #[v0, v1, v2] := by cases args; simp_all
  obtain ⟨rfl, rfl⟩ := trodVars_none hV
  obtain ⟨A0, n0, c0, l0, rfl, k0⟩ := open_msgs (hval 0 35 v0 rfl rfl) h0
  obtain ⟨a1, rfl, rfl, rfl, w1⟩ := open_int Try.underlying3 (hval 1 3 v1 rfl rfl) h1
  obtain ⟨a2, b2, rfl, rfl, rfl, w2, u2⟩ := open_two_int Try.underlying27 Try.underlying3 (by kernel_rfl) (by kernel_rfl) (hval 2 27 v2 rfl rfl) h2
  clear hA0 hval0
  refine (walk W A0 n0 c0 l0 a1 a2 b2 k0 w1 w2 u2).mono fun e W' ⟨he, bel⟩ => ?_
  subst he
  exact ⟨_, rfl, _, _, _, [], _, [], hW', trodAll_mk1 (shut_bool Try.underlying4 _), (trodAll_cons_mk (Below.trod laidOut (by kernel_rfl) (of_decide_eq_true (by kernel_rfl)) h0 bel (fun x hx => hW'.lt x (by simp [hx]))) (trodAll_cons_mk (shut_int Try.underlying3 w1) (trodAll_cons_mk (shut_two_int Try.underlying27 Try.underlying3 (by kernel_rfl) (by kernel_rfl) w2 u2) trodAll_mk0))), rfl, bel.frame _, fun h => by cases h⟩

theorem over : Rows.bagCountsRow.holds Try.pinned (OpenSpec.ofChange Rows.bagCountsSpec) :=
  OpenClaim.holds_of_wide 12 Try.f12 rfl rfl rfl rfl rfl rfl rfl ⟨rfl, rfl, rfl, rfl, rfl⟩ rfl rfl rfl rfl rfl (by kernel_rfl) Try.func12 (by kernel_rfl)
    (of_decide_eq_true (by kernel_rfl)) (by unfold Func.isWrapper; first | (rw [if_pos (by decide +kernel)]; kernel_rfl) | (rw [if_neg (by decide +kernel)]; exact ⟨rfl, rfl⟩))
    (fun os started H enc _ => lifted os started H enc)

theorem proved : Rows.BagCountsSaid := over
#print axioms proved
end Go.Proofs.Ytdmhpnobdflkfaa.bagCounts
