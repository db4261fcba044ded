/- For every bag, all messages and every place the law BagBack answers true: what was put is taken, from behind, and the bag is as it was; likewise what was copied. No condition. -/
import Derived.Test.YtdmhpnobdflkfaaBgLive
import Derived.Test.YtdmhpnobdflkfaaBgOpen
import Derived.Test.YtdmhpnobdflkfaaKeyTwo
import Derived.Test.YtdmhpnobdflkfaaRows
namespace Go.Proofs.Ytdmhpnobdflkfaa.bagBack
open Go.ChangeShapes Go.WideShapes Go.ChangeAt Go.RowKit Go.Proofs.Ytdmhpnobdflkfaa.P
open Go.ChangeMaps (open_string shut_string)
set_option linter.unusedVariables false
set_option linter.unusedSimpArgs false
set_option maxHeartbeats 2000000
set_option maxRecDepth 100000

theorem no_few (w : World) (A0 : Option Addr) (n0 c0 : Nat) (l0 : List Msg) (A1 : Option Addr) (n1 c1 : Nat) (l1 : List Msg) (a2 : Int) (k0 : Ms w A0 n0 c0 l0) (k1 : Ms w A1 n1 c1 l1) (w2 : (Lit.int .i64 a2).wf = true) (hf : fewB2 n0 n1 = false) :
    Calls Try.prog 11 #[.slice A0 n0 c0, .slice A1 n1 c1, .int .i64 a2] w fun e w' => e = .returned (.bool true) ∧ Below w.heap.size w w' := by
  have HF := Lib.hid hf; clear hf w2
  go_enter Try.func11, Try.ntmps11
  go_wp2_with fail
  refine (few_msg A0 A1 n0 c0 n1 c1 _).mono ?_; rintro e w' ⟨rfl, rfl⟩
  rw [HF.out]
  go_wp2_with fail
  refine (live_any _).mono ?_; rintro e w1 ⟨rfl, hb⟩
  have S_1 := Lib.hid hb; clear hb
  have B_2 := Lib.hid (S_1.out)
  clear S_1
  go_wp2
  go_ret
  exact ⟨rfl, B_2.out⟩
theorem back_more (b l : List Msg) (r : Nat) (h : r < l.length) : hasM (b ++ l.take (r + 1)) ((b.length : Int) + (r : Int)) = true ∧ tkL (b ++ l.take (r + 1)) ((b.length : Int) + (r : Int)) = b ++ l.take r ∧ tkE (b ++ l.take (r + 1)) ((b.length : Int) + (r : Int)) = 0 ∧ l[r]? = some (tkM (b ++ l.take (r + 1)) ((b.length : Int) + (r : Int))) := by
  have hl : (b ++ l.take (r + 1)).length = b.length + (r + 1) := by rw [List.length_append, List.length_take]; omega
  have hh : hasM (b ++ l.take (r + 1)) ((b.length : Int) + (r : Int)) = true := hasM_iff.2 (by rw [hl]; omega)
  have hn : ((b.length : Int) + (r : Int)).toNat = b.length + r := by omega
  refine ⟨hh, ?_, (tk_ok hh).2, ?_⟩
  · rw [(tk_ok hh).1, hn, without_put b l r h]
  · have := has_at hh
    rw [hn, put_at b l r h] at this
    exact this
theorem copy_more (b : List Msg) (i : Int) (hc : cpE b i = 0) : hasM (b ++ [tkM b i]) (b.length : Int) = true ∧ tkL (b ++ [tkM b i]) (b.length : Int) = b ∧ tkE (b ++ [tkM b i]) (b.length : Int) = 0 ∧ tkM (b ++ [tkM b i]) (b.length : Int) = tkM b i := by
  have hh : hasM (b ++ [tkM b i]) (b.length : Int) = true := hasM_iff.2 (by rw [List.length_append]; simp; omega)
  refine ⟨hh, ?_, (tk_ok hh).2, ?_⟩
  · rw [(tk_ok hh).1, Int.toNat_natCast, without_end]
  · have := has_at hh
    rw [Int.toNat_natCast, List.getElem?_append_right (Nat.le_refl _), Nat.sub_self] at this
    exact (Option.some.inj this).symm
theorem fine11 (w : World) (A0 : Option Addr) (n0 c0 : Nat) (l0 : List Msg) (A1 : Option Addr) (n1 c1 : Nat) (l1 : List Msg) (a2 : Int) (k0 : Ms w A0 n0 c0 l0) (k1 : Ms w A1 n1 c1 l1) (w2 : (Lit.int .i64 a2).wf = true) (hf : fewB2 n0 n1 = true) (hd : putE l0 l1 = 0) (hc : cpE l0 a2 = 0) :
    Calls Try.prog 11 #[.slice A0 n0 c0, .slice A1 n1 c1, .int .i64 a2] w fun e w' => e = .returned (.bool true) ∧ Below w.heap.size w w' := by
  obtain ⟨h0, h1⟩ := few_iff.1 hf
  have HF := Lib.hid hf
  have hl0 := k0.len; have hl1 := k1.len
  have HI := Lib.hid (put_any A0 n0 c0 l0 A1 n1 c1 l1)
  have HK := Lib.hid (copy_any A0 n0 c0 l0 a2)
  rw [put_ok hd, hd] at HI
  have HLP : Hid ((l0 ++ l1).length = n0 + n1) := Lib.hid (by rw [List.length_append]; omega)
  have hcm := copy_more l0 a2 hc
  rw [hl0] at hcm
  obtain ⟨cm0, cm1, cm2, cm3⟩ := hcm
  have HX := Lib.hid (fun A n c w h hn => take_any A n c (l0 ++ [tkM l0 a2]) (n0 : Int) w h hn)
  rw [cm1, cm2, cm3] at HX
  have HY := Lib.hid (take_any A0 n0 c0 l0 a2)
  rw [(tk_ok (cp_ok hc).2).2] at HY
  rw [(cp_ok hc).1, hc] at HK
  have HLC : Hid ((l0 ++ [tkM l0 a2]).length = n0 + 1) := Lib.hid (by rw [List.length_append, hl0]; rfl)
  clear cm0 cm1 cm2 cm3
  have HB : Hid (∀ r, r < n1 → tkL (l0 ++ l1.take (r + 1)) ((n0 : Int) + (r : Int)) = l0 ++ l1.take r ∧ tkE (l0 ++ l1.take (r + 1)) ((n0 : Int) + (r : Int)) = 0 ∧ l1[r]? = some (tkM (l0 ++ l1.take (r + 1)) ((n0 : Int) + (r : Int)))) := Lib.hid (fun r hr => by
    have := back_more l0 l1 r (by omega)
    rw [hl0] at this
    exact this.2)
  have HL0 := Lib.hid hl0; have HL1 := Lib.hid hl1
  clear hf hd hc hl0 hl1 w2
  have K0_0 := Lib.hid k0
  have K1_0 := Lib.hid k1
  clear k0 k1
  go_enter Try.func11, Try.ntmps11
  go_wp2_with fail
  refine (few_msg A0 A1 n0 c0 n1 c1 _).mono ?_; rintro e w' ⟨rfl, rfl⟩
  rw [HF.out]
  go_wp2_with fail
  refine (HI.out _ K0_0.out K1_0.out (by omega) (by omega)).mono ?_; rintro e w1 ⟨P1, p1, q1, rfl, h, hb⟩
  have S_1 := Lib.hid hb; clear hb
  have K0_2 := Lib.hid (K0_0.out.keep S_1.out)
  have K1_3 := Lib.hid (K1_0.out.keep S_1.out)
  have B_4 := Lib.hid (S_1.out)
  clear K0_0 K1_0
  clear S_1
  have P_5 := Lib.hid (h)
  clear h
  obtain rfl : p1 = n0 + n1 := P_5.out.len.symm.trans HLP.out
  have BW := B_4
  go_wp2
  go_loopw [7, 9] (fun v i wr => ∃ (r : Nat) (A : Option Addr) (c : Nat), r ≤ n1 ∧ v = .slice A (n0 + r) c ∧ i = .int .i64 ((r : Int) - 1) ∧ Ms wr A (n0 + r) c (l0 ++ l1.take r) ∧ Ms wr A0 n0 c0 l0 ∧ Ms wr A1 n1 c1 l1 ∧ Below w.heap.size w wr) (fun _ i _ => (intOf i + 1).toNat)
  case atStart => exact ⟨n1, P1, q1, Nat.le_refl _, rfl, by go_num, by rw [take_full _ _ HL1.out]; exact P_5.out, K0_2.out, K1_3.out, BW.out⟩
  case round =>
    obtain ⟨r, A, c, hr, rfl, rfl, hm, hk0, hk1, hbel⟩ := hrel
    have KM := Lib.hid hm; have J0_0 := Lib.hid hk0; have J1_0 := Lib.hid hk1; have HB0 := Lib.hid hbel
    clear hm hk0 hk1 hbel
    rcases r with _ | r
    · have KZ : Hid (Ms wr A n0 c l0) := Lib.hid (by have := KM.out; rw [Nat.add_zero, List.take_zero, List.append_nil] at this; exact this)
      clear KM
      simp only [Nat.add_zero]
      go_wp2_with fail
      refine (same_self A A0 n0 c n0 c0 l0 _ KZ.out J0_0.out (by omega)).mono ?_; rintro e w1 ⟨rfl, hb⟩
      have S_1 := Lib.hid hb; clear hb
      have K0_2 := Lib.hid (J0_0.out.keep S_1.out)
      have Z_3 := Lib.hid (KZ.out.keep S_1.out)
      have B_4 := Lib.hid (then_ HB0.out S_1.out)
      clear J0_0 KZ HB0
      clear S_1
      go_wp2_with fail
      refine (HK.out _ K0_2.out (by omega)).mono ?_; rintro e w2 ⟨U1, u1, v1, rfl, h, hb⟩
      have S_5 := Lib.hid hb; clear hb
      have K0_6 := Lib.hid (K0_2.out.keep S_5.out)
      have Z_7 := Lib.hid (Z_3.out.keep S_5.out)
      have B_8 := Lib.hid (then_ B_4.out S_5.out)
      clear K0_2 Z_3 B_4
      clear S_5
      have U_9 := Lib.hid (h)
      clear h
      obtain rfl : u1 = n0 + 1 := U_9.out.len.symm.trans HLC.out
      go_wp2_with fail
      refine (HX.out U1 (n0 + 1) v1 _ U_9.out (by omega)).mono ?_; rintro e w3 ⟨Q1, m1, cq1, rfl, h, hb⟩
      have S_10 := Lib.hid hb; clear hb
      have K0_11 := Lib.hid (K0_6.out.keep S_10.out)
      have Z_12 := Lib.hid (Z_7.out.keep S_10.out)
      have U_13 := Lib.hid (U_9.out.keep S_10.out)
      have B_14 := Lib.hid (then_ B_8.out S_10.out)
      clear K0_6 Z_7 U_9 B_8
      clear S_10
      have Q_15 := Lib.hid (h)
      clear h
      have K0_16 := Lib.hid (K0_11.out.keep (new1 w3 (.cells #[.int .i64 (tkM l0 a2).frm, .int .i64 (tkM l0 a2).dst, .string (tkM l0 a2).body] 42)))
      have Z_17 := Lib.hid (Z_12.out.keep (new1 w3 (.cells #[.int .i64 (tkM l0 a2).frm, .int .i64 (tkM l0 a2).dst, .string (tkM l0 a2).body] 42)))
      have U_18 := Lib.hid (U_13.out.keep (new1 w3 (.cells #[.int .i64 (tkM l0 a2).frm, .int .i64 (tkM l0 a2).dst, .string (tkM l0 a2).body] 42)))
      have Q_19 := Lib.hid (Q_15.out.keep (new1 w3 (.cells #[.int .i64 (tkM l0 a2).frm, .int .i64 (tkM l0 a2).dst, .string (tkM l0 a2).body] 42)))
      have B_20 := Lib.hid (then_ B_14.out (new1 w3 (.cells #[.int .i64 (tkM l0 a2).frm, .int .i64 (tkM l0 a2).dst, .string (tkM l0 a2).body] 42)))
      clear K0_11 Z_12 U_13 Q_15 B_14
      have X_21 := Lib.hid (own_new w3 #[.int .i64 (tkM l0 a2).frm, .int .i64 (tkM l0 a2).dst, .string (tkM l0 a2).body] 42)
      go_wp2_with fail
      refine (HY.out _ K0_16.out (by omega)).mono ?_; rintro e w4 ⟨Q2, m2, cq2, rfl, h, hb⟩
      have S_22 := Lib.hid hb; clear hb
      have K0_23 := Lib.hid (K0_16.out.keep S_22.out)
      have Z_24 := Lib.hid (Z_17.out.keep S_22.out)
      have U_25 := Lib.hid (U_18.out.keep S_22.out)
      have Q_26 := Lib.hid (Q_19.out.keep S_22.out)
      have X_27 := Lib.hid (X_21.out.below S_22.out)
      have B_28 := Lib.hid (then_ B_20.out S_22.out)
      clear K0_16 Z_17 U_18 Q_19 X_21 B_20
      clear S_22
      clear h
      have K0_29 := Lib.hid (K0_23.out.keep (new1 w4 (.cells #[.int .i64 (tkM l0 a2).frm, .int .i64 (tkM l0 a2).dst, .string (tkM l0 a2).body] 42)))
      have Z_30 := Lib.hid (Z_24.out.keep (new1 w4 (.cells #[.int .i64 (tkM l0 a2).frm, .int .i64 (tkM l0 a2).dst, .string (tkM l0 a2).body] 42)))
      have U_31 := Lib.hid (U_25.out.keep (new1 w4 (.cells #[.int .i64 (tkM l0 a2).frm, .int .i64 (tkM l0 a2).dst, .string (tkM l0 a2).body] 42)))
      have Q_32 := Lib.hid (Q_26.out.keep (new1 w4 (.cells #[.int .i64 (tkM l0 a2).frm, .int .i64 (tkM l0 a2).dst, .string (tkM l0 a2).body] 42)))
      have X_33 := Lib.hid (X_27.out.below (new1 w4 (.cells #[.int .i64 (tkM l0 a2).frm, .int .i64 (tkM l0 a2).dst, .string (tkM l0 a2).body] 42)))
      have B_34 := Lib.hid (then_ B_28.out (new1 w4 (.cells #[.int .i64 (tkM l0 a2).frm, .int .i64 (tkM l0 a2).dst, .string (tkM l0 a2).body] 42)))
      clear K0_23 Z_24 U_25 Q_26 X_27 B_28
      have Y_35 := Lib.hid (own_new w4 #[.int .i64 (tkM l0 a2).frm, .int .i64 (tkM l0 a2).dst, .string (tkM l0 a2).body] 42)
      obtain rfl : m1 = n0 := Q_32.out.len.symm.trans HL0.out
      have heq := eql_msg (tkM l0 a2) (tkM l0 a2)
      rw [msgEq_self] at heq
      have x0 := X_33.out.cell 0 _ rfl
      have x1 := X_33.out.cell 1 _ rfl
      have x2 := X_33.out.cell 2 _ rfl
      have hlx := X_33.out.lt
      have y0 := Y_35.out.cell 0 _ rfl
      have y1 := Y_35.out.cell 1 _ rfl
      have y2 := Y_35.out.cell 2 _ rfl
      have hly := Y_35.out.lt
      generalize tkM l0 a2 = tm at *
      go_wp2_with fail
      refine (same_self Q1 A0 _ cq1 _ c0 l0 _ Q_32.out K0_29.out (by omega)).mono ?_; rintro e w5 ⟨rfl, hb⟩
      have S_36 := Lib.hid hb; clear hb
      have K0_37 := Lib.hid (K0_29.out.keep S_36.out)
      have Z_38 := Lib.hid (Z_30.out.keep S_36.out)
      have U_39 := Lib.hid (U_31.out.keep S_36.out)
      have Q_40 := Lib.hid (Q_32.out.keep S_36.out)
      have X_41 := Lib.hid (X_33.out.below S_36.out)
      have Y_42 := Lib.hid (Y_35.out.below S_36.out)
      have B_43 := Lib.hid (then_ B_34.out S_36.out)
      clear K0_29 Z_30 U_31 Q_32 X_33 Y_35 B_34
      clear S_36
      go_wp2_with fail
      refine (live_any _).mono ?_; rintro e w6 ⟨rfl, hb⟩
      have S_44 := Lib.hid hb; clear hb
      have K0_45 := Lib.hid (K0_37.out.keep S_44.out)
      have Z_46 := Lib.hid (Z_38.out.keep S_44.out)
      have U_47 := Lib.hid (U_39.out.keep S_44.out)
      have Q_48 := Lib.hid (Q_40.out.keep S_44.out)
      have X_49 := Lib.hid (X_41.out.below S_44.out)
      have Y_50 := Lib.hid (Y_42.out.below S_44.out)
      have B_51 := Lib.hid (then_ B_43.out S_44.out)
      clear K0_37 Z_38 U_39 Q_40 X_41 Y_42 B_43
      clear S_44
      go_wp2
      go_ret
      exact ⟨rfl, B_51.out⟩
    · have hr1 : (((r + 1 : Nat) : Int) - 1) = (r : Int) := by omega
      rw [hr1]
      obtain ⟨e1, e2, e3⟩ := HB.out r (by omega)
      have cT := Lib.hid (take_any A (n0 + (r + 1)) c (l0 ++ l1.take (r + 1)) ((n0 : Int) + (r : Int)) wr KM.out (by omega))
      rw [e1, e2] at cT
      have E3 := Lib.hid e3
      have ir0 : (0 : Int) ≤ (r : Int) := by omega
      have ir1 : (r : Int) < (n1 : Int) := by omega
      have ir2 : r < n1 := by omega
      clear e1 e2 e3
      generalize tkM (l0 ++ l1.take (r + 1)) ((n0 : Int) + (r : Int)) = tm at *
      have hne := neq_msg tm tm
      rw [msgEq_self] at hne
      go_wp2_with fail
      refine cT.out.mono ?_; rintro e w1 ⟨A2, m2, c2, rfl, h, hb⟩
      have hm2 : m2 = n0 + r := by have := h.len; rw [List.length_append, List.length_take, HL0.out, HL1.out] at this; omega
      subst hm2
      have T1 := Lib.hid (h.keep (new1 w1 (tm.obj 42)))
      have M1 := Lib.hid (own_new w1 #[.int .i64 tm.frm, .int .i64 tm.dst, .string tm.body] 42)
      have S1 := Lib.hid (then_ hb (new1 w1 (tm.obj 42)))
      have N0 := Lib.hid (J0_0.out.keep S1.out); have N1 := Lib.hid (J1_0.out.keep S1.out)
      have B1 := Lib.hid (HB0.out.trans (S1.out.mono HB0.out.size))
      clear h hb S1
      have m0 := M1.out.cell 0 _ rfl
      have m1 := M1.out.cell 1 _ rfl
      have m2 := M1.out.cell 2 _ rfl
      obtain ⟨a1, x1, rfl, hx1, hx2, hx3⟩ := N1.out.at_ ir2
      obtain rfl : tm = x1 := Option.some.inj (E3.out.symm.trans hx2)
      obtain ⟨d0, d1, d2⟩ := hx3
      clear hx1 hx2
      go_wp2
      go_quiet (fail)
      go_wp2
      go_roundw
      case rel => exact ⟨r, A2, c2, by omega, rfl, by go_num, T1.out.keep (below_drewN (Below.refl _ _) _), N0.out.keep (below_drewN (Below.refl _ _) _), N1.out.keep (below_drewN (Below.refl _ _) _), below_drewN B1.out _⟩
      case measure => simp [intOf]
theorem fine10 (w : World) (A0 : Option Addr) (n0 c0 : Nat) (l0 : List Msg) (A1 : Option Addr) (n1 c1 : Nat) (l1 : List Msg) (a2 : Int) (k0 : Ms w A0 n0 c0 l0) (k1 : Ms w A1 n1 c1 l1) (w2 : (Lit.int .i64 a2).wf = true) (hf : fewB2 n0 n1 = true) (hd : putE l0 l1 = 0) (hc : cpE l0 a2 ≠ 0) :
    Calls Try.prog 11 #[.slice A0 n0 c0, .slice A1 n1 c1, .int .i64 a2] w fun e w' => e = .returned (.bool true) ∧ Below w.heap.size w w' := by
  obtain ⟨h0, h1⟩ := few_iff.1 hf
  have HF := Lib.hid hf
  have hl0 := k0.len; have hl1 := k1.len
  have HI := Lib.hid (put_any A0 n0 c0 l0 A1 n1 c1 l1)
  have HK := Lib.hid (copy_any A0 n0 c0 l0 a2)
  rw [put_ok hd, hd] at HI
  have HLP : Hid ((l0 ++ l1).length = n0 + n1) := Lib.hid (by rw [List.length_append]; omega)
  rw [cp_err hc] at HK
  have hc2 : (cpE l0 a2 == 0) = false := by simp [hc]
  have HB : Hid (∀ r, r < n1 → tkL (l0 ++ l1.take (r + 1)) ((n0 : Int) + (r : Int)) = l0 ++ l1.take r ∧ tkE (l0 ++ l1.take (r + 1)) ((n0 : Int) + (r : Int)) = 0 ∧ l1[r]? = some (tkM (l0 ++ l1.take (r + 1)) ((n0 : Int) + (r : Int)))) := Lib.hid (fun r hr => by
    have := back_more l0 l1 r (by omega)
    rw [hl0] at this
    exact this.2)
  have HL0 := Lib.hid hl0; have HL1 := Lib.hid hl1
  clear hf hd hl0 hl1 w2
  have K0_0 := Lib.hid k0
  have K1_0 := Lib.hid k1
  clear k0 k1
  generalize cpE l0 a2 = ec at *
  go_enter Try.func11, Try.ntmps11
  go_wp2_with fail
  refine (few_msg A0 A1 n0 c0 n1 c1 _).mono ?_; rintro e w' ⟨rfl, rfl⟩
  rw [HF.out]
  go_wp2_with fail
  refine (HI.out _ K0_0.out K1_0.out (by omega) (by omega)).mono ?_; rintro e w1 ⟨P1, p1, q1, rfl, h, hb⟩
  have S_1 := Lib.hid hb; clear hb
  have K0_2 := Lib.hid (K0_0.out.keep S_1.out)
  have K1_3 := Lib.hid (K1_0.out.keep S_1.out)
  have B_4 := Lib.hid (S_1.out)
  clear K0_0 K1_0
  clear S_1
  have P_5 := Lib.hid (h)
  clear h
  obtain rfl : p1 = n0 + n1 := P_5.out.len.symm.trans HLP.out
  have BW := B_4
  go_wp2
  go_loopw [7, 9] (fun v i wr => ∃ (r : Nat) (A : Option Addr) (c : Nat), r ≤ n1 ∧ v = .slice A (n0 + r) c ∧ i = .int .i64 ((r : Int) - 1) ∧ Ms wr A (n0 + r) c (l0 ++ l1.take r) ∧ Ms wr A0 n0 c0 l0 ∧ Ms wr A1 n1 c1 l1 ∧ Below w.heap.size w wr) (fun _ i _ => (intOf i + 1).toNat)
  case atStart => exact ⟨n1, P1, q1, Nat.le_refl _, rfl, by go_num, by rw [take_full _ _ HL1.out]; exact P_5.out, K0_2.out, K1_3.out, BW.out⟩
  case round =>
    obtain ⟨r, A, c, hr, rfl, rfl, hm, hk0, hk1, hbel⟩ := hrel
    have KM := Lib.hid hm; have J0_0 := Lib.hid hk0; have J1_0 := Lib.hid hk1; have HB0 := Lib.hid hbel
    clear hm hk0 hk1 hbel
    rcases r with _ | r
    · have KZ : Hid (Ms wr A n0 c l0) := Lib.hid (by have := KM.out; rw [Nat.add_zero, List.take_zero, List.append_nil] at this; exact this)
      clear KM
      simp only [Nat.add_zero]
      go_wp2_with fail
      refine (same_self A A0 n0 c n0 c0 l0 _ KZ.out J0_0.out (by omega)).mono ?_; rintro e w1 ⟨rfl, hb⟩
      have S_1 := Lib.hid hb; clear hb
      have K0_2 := Lib.hid (J0_0.out.keep S_1.out)
      have Z_3 := Lib.hid (KZ.out.keep S_1.out)
      have B_4 := Lib.hid (then_ HB0.out S_1.out)
      clear J0_0 KZ HB0
      clear S_1
      go_wp2_with fail
      refine (HK.out _ K0_2.out (by omega)).mono ?_; rintro e w2 ⟨U1, u1, v1, rfl, h, hb⟩
      have S_5 := Lib.hid hb; clear hb
      have K0_6 := Lib.hid (K0_2.out.keep S_5.out)
      have Z_7 := Lib.hid (Z_3.out.keep S_5.out)
      have B_8 := Lib.hid (then_ B_4.out S_5.out)
      clear K0_2 Z_3 B_4
      clear S_5
      have U_9 := Lib.hid (h)
      clear h
      go_wp2_with fail
      refine (same_self U1 A0 u1 v1 n0 c0 l0 _ U_9.out K0_6.out (by have h1 := U_9.out.len; have h2 := HL0.out; omega)).mono ?_; rintro e w3 ⟨rfl, hb⟩
      have S_10 := Lib.hid hb; clear hb
      have K0_11 := Lib.hid (K0_6.out.keep S_10.out)
      have Z_12 := Lib.hid (Z_7.out.keep S_10.out)
      have U_13 := Lib.hid (U_9.out.keep S_10.out)
      have B_14 := Lib.hid (then_ B_8.out S_10.out)
      clear K0_6 Z_7 U_9 B_8
      clear S_10
      go_wp2_with fail
      refine (live_any _).mono ?_; rintro e w4 ⟨rfl, hb⟩
      have S_15 := Lib.hid hb; clear hb
      have K0_16 := Lib.hid (K0_11.out.keep S_15.out)
      have Z_17 := Lib.hid (Z_12.out.keep S_15.out)
      have U_18 := Lib.hid (U_13.out.keep S_15.out)
      have B_19 := Lib.hid (then_ B_14.out S_15.out)
      clear K0_11 Z_12 U_13 B_14
      clear S_15
      go_wp2
      go_ret
      exact ⟨rfl, B_19.out⟩
    · have hr1 : (((r + 1 : Nat) : Int) - 1) = (r : Int) := by omega
      rw [hr1]
      obtain ⟨e1, e2, e3⟩ := HB.out r (by omega)
      have cT := Lib.hid (take_any A (n0 + (r + 1)) c (l0 ++ l1.take (r + 1)) ((n0 : Int) + (r : Int)) wr KM.out (by omega))
      rw [e1, e2] at cT
      have E3 := Lib.hid e3
      have ir0 : (0 : Int) ≤ (r : Int) := by omega
      have ir1 : (r : Int) < (n1 : Int) := by omega
      have ir2 : r < n1 := by omega
      clear e1 e2 e3
      generalize tkM (l0 ++ l1.take (r + 1)) ((n0 : Int) + (r : Int)) = tm at *
      have hne := neq_msg tm tm
      rw [msgEq_self] at hne
      go_wp2_with fail
      refine cT.out.mono ?_; rintro e w1 ⟨A2, m2, c2, rfl, h, hb⟩
      have hm2 : m2 = n0 + r := by have := h.len; rw [List.length_append, List.length_take, HL0.out, HL1.out] at this; omega
      subst hm2
      have T1 := Lib.hid (h.keep (new1 w1 (tm.obj 42)))
      have M1 := Lib.hid (own_new w1 #[.int .i64 tm.frm, .int .i64 tm.dst, .string tm.body] 42)
      have S1 := Lib.hid (then_ hb (new1 w1 (tm.obj 42)))
      have N0 := Lib.hid (J0_0.out.keep S1.out); have N1 := Lib.hid (J1_0.out.keep S1.out)
      have B1 := Lib.hid (HB0.out.trans (S1.out.mono HB0.out.size))
      clear h hb S1
      have m0 := M1.out.cell 0 _ rfl
      have m1 := M1.out.cell 1 _ rfl
      have m2 := M1.out.cell 2 _ rfl
      obtain ⟨a1, x1, rfl, hx1, hx2, hx3⟩ := N1.out.at_ ir2
      obtain rfl : tm = x1 := Option.some.inj (E3.out.symm.trans hx2)
      obtain ⟨d0, d1, d2⟩ := hx3
      clear hx1 hx2
      go_wp2
      go_quiet (fail)
      go_wp2
      go_roundw
      case rel => exact ⟨r, A2, c2, by omega, rfl, by go_num, T1.out.keep (below_drewN (Below.refl _ _) _), N0.out.keep (below_drewN (Below.refl _ _) _), N1.out.keep (below_drewN (Below.refl _ _) _), below_drewN B1.out _⟩
      case measure => simp [intOf]
theorem fine01 (w : World) (A0 : Option Addr) (n0 c0 : Nat) (l0 : List Msg) (A1 : Option Addr) (n1 c1 : Nat) (l1 : List Msg) (a2 : Int) (k0 : Ms w A0 n0 c0 l0) (k1 : Ms w A1 n1 c1 l1) (w2 : (Lit.int .i64 a2).wf = true) (hf : fewB2 n0 n1 = true) (hd : putE l0 l1 ≠ 0) (hc : cpE l0 a2 = 0) :
    Calls Try.prog 11 #[.slice A0 n0 c0, .slice A1 n1 c1, .int .i64 a2] w fun e w' => e = .returned (.bool true) ∧ Below w.heap.size w w' := by
  obtain ⟨h0, h1⟩ := few_iff.1 hf
  have HF := Lib.hid hf
  have hl0 := k0.len; have hl1 := k1.len
  have HI := Lib.hid (put_any A0 n0 c0 l0 A1 n1 c1 l1)
  have HK := Lib.hid (copy_any A0 n0 c0 l0 a2)
  rw [put_err hd] at HI
  have hd2 : (putE l0 l1 == 0) = false := by simp [hd]
  have hcm := copy_more l0 a2 hc
  rw [hl0] at hcm
  obtain ⟨cm0, cm1, cm2, cm3⟩ := hcm
  have HX := Lib.hid (fun A n c w h hn => take_any A n c (l0 ++ [tkM l0 a2]) (n0 : Int) w h hn)
  rw [cm1, cm2, cm3] at HX
  have HY := Lib.hid (take_any A0 n0 c0 l0 a2)
  rw [(tk_ok (cp_ok hc).2).2] at HY
  rw [(cp_ok hc).1, hc] at HK
  have HLC : Hid ((l0 ++ [tkM l0 a2]).length = n0 + 1) := Lib.hid (by rw [List.length_append, hl0]; rfl)
  clear cm0 cm1 cm2 cm3
  have HL0 := Lib.hid hl0; have HL1 := Lib.hid hl1
  clear hf hc hl0 hl1 w2
  have K0_0 := Lib.hid k0
  have K1_0 := Lib.hid k1
  clear k0 k1
  generalize putE l0 l1 = er at *
  go_enter Try.func11, Try.ntmps11
  go_wp2_with fail
  refine (few_msg A0 A1 n0 c0 n1 c1 _).mono ?_; rintro e w' ⟨rfl, rfl⟩
  rw [HF.out]
  go_wp2_with fail
  refine (HI.out _ K0_0.out K1_0.out (by omega) (by omega)).mono ?_; rintro e w1 ⟨P1, p1, q1, rfl, h, hb⟩
  have S_1 := Lib.hid hb; clear hb
  have K0_2 := Lib.hid (K0_0.out.keep S_1.out)
  have K1_3 := Lib.hid (K1_0.out.keep S_1.out)
  have B_4 := Lib.hid (S_1.out)
  clear K0_0 K1_0
  clear S_1
  have P_5 := Lib.hid (h)
  clear h
  go_wp2_with fail
  refine (HK.out _ K0_2.out (by omega)).mono ?_; rintro e w2 ⟨U1, u1, v1, rfl, h, hb⟩
  have S_6 := Lib.hid hb; clear hb
  have K0_7 := Lib.hid (K0_2.out.keep S_6.out)
  have K1_8 := Lib.hid (K1_3.out.keep S_6.out)
  have P_9 := Lib.hid (P_5.out.keep S_6.out)
  have B_10 := Lib.hid (then_ B_4.out S_6.out)
  clear K0_2 K1_3 P_5 B_4
  clear S_6
  have U_11 := Lib.hid (h)
  clear h
  obtain rfl : u1 = n0 + 1 := U_11.out.len.symm.trans HLC.out
  go_wp2_with fail
  refine (HX.out U1 (n0 + 1) v1 _ U_11.out (by omega)).mono ?_; rintro e w3 ⟨Q1, m1, cq1, rfl, h, hb⟩
  have S_12 := Lib.hid hb; clear hb
  have K0_13 := Lib.hid (K0_7.out.keep S_12.out)
  have K1_14 := Lib.hid (K1_8.out.keep S_12.out)
  have P_15 := Lib.hid (P_9.out.keep S_12.out)
  have U_16 := Lib.hid (U_11.out.keep S_12.out)
  have B_17 := Lib.hid (then_ B_10.out S_12.out)
  clear K0_7 K1_8 P_9 U_11 B_10
  clear S_12
  have Q_18 := Lib.hid (h)
  clear h
  have K0_19 := Lib.hid (K0_13.out.keep (new1 w3 (.cells #[.int .i64 (tkM l0 a2).frm, .int .i64 (tkM l0 a2).dst, .string (tkM l0 a2).body] 42)))
  have K1_20 := Lib.hid (K1_14.out.keep (new1 w3 (.cells #[.int .i64 (tkM l0 a2).frm, .int .i64 (tkM l0 a2).dst, .string (tkM l0 a2).body] 42)))
  have P_21 := Lib.hid (P_15.out.keep (new1 w3 (.cells #[.int .i64 (tkM l0 a2).frm, .int .i64 (tkM l0 a2).dst, .string (tkM l0 a2).body] 42)))
  have U_22 := Lib.hid (U_16.out.keep (new1 w3 (.cells #[.int .i64 (tkM l0 a2).frm, .int .i64 (tkM l0 a2).dst, .string (tkM l0 a2).body] 42)))
  have Q_23 := Lib.hid (Q_18.out.keep (new1 w3 (.cells #[.int .i64 (tkM l0 a2).frm, .int .i64 (tkM l0 a2).dst, .string (tkM l0 a2).body] 42)))
  have B_24 := Lib.hid (then_ B_17.out (new1 w3 (.cells #[.int .i64 (tkM l0 a2).frm, .int .i64 (tkM l0 a2).dst, .string (tkM l0 a2).body] 42)))
  clear K0_13 K1_14 P_15 U_16 Q_18 B_17
  have X_25 := Lib.hid (own_new w3 #[.int .i64 (tkM l0 a2).frm, .int .i64 (tkM l0 a2).dst, .string (tkM l0 a2).body] 42)
  go_wp2_with fail
  refine (HY.out _ K0_19.out (by omega)).mono ?_; rintro e w4 ⟨Q2, m2, cq2, rfl, h, hb⟩
  have S_26 := Lib.hid hb; clear hb
  have K0_27 := Lib.hid (K0_19.out.keep S_26.out)
  have K1_28 := Lib.hid (K1_20.out.keep S_26.out)
  have P_29 := Lib.hid (P_21.out.keep S_26.out)
  have U_30 := Lib.hid (U_22.out.keep S_26.out)
  have Q_31 := Lib.hid (Q_23.out.keep S_26.out)
  have X_32 := Lib.hid (X_25.out.below S_26.out)
  have B_33 := Lib.hid (then_ B_24.out S_26.out)
  clear K0_19 K1_20 P_21 U_22 Q_23 X_25 B_24
  clear S_26
  clear h
  have K0_34 := Lib.hid (K0_27.out.keep (new1 w4 (.cells #[.int .i64 (tkM l0 a2).frm, .int .i64 (tkM l0 a2).dst, .string (tkM l0 a2).body] 42)))
  have K1_35 := Lib.hid (K1_28.out.keep (new1 w4 (.cells #[.int .i64 (tkM l0 a2).frm, .int .i64 (tkM l0 a2).dst, .string (tkM l0 a2).body] 42)))
  have P_36 := Lib.hid (P_29.out.keep (new1 w4 (.cells #[.int .i64 (tkM l0 a2).frm, .int .i64 (tkM l0 a2).dst, .string (tkM l0 a2).body] 42)))
  have U_37 := Lib.hid (U_30.out.keep (new1 w4 (.cells #[.int .i64 (tkM l0 a2).frm, .int .i64 (tkM l0 a2).dst, .string (tkM l0 a2).body] 42)))
  have Q_38 := Lib.hid (Q_31.out.keep (new1 w4 (.cells #[.int .i64 (tkM l0 a2).frm, .int .i64 (tkM l0 a2).dst, .string (tkM l0 a2).body] 42)))
  have X_39 := Lib.hid (X_32.out.below (new1 w4 (.cells #[.int .i64 (tkM l0 a2).frm, .int .i64 (tkM l0 a2).dst, .string (tkM l0 a2).body] 42)))
  have B_40 := Lib.hid (then_ B_33.out (new1 w4 (.cells #[.int .i64 (tkM l0 a2).frm, .int .i64 (tkM l0 a2).dst, .string (tkM l0 a2).body] 42)))
  clear K0_27 K1_28 P_29 U_30 Q_31 X_32 B_33
  have Y_41 := Lib.hid (own_new w4 #[.int .i64 (tkM l0 a2).frm, .int .i64 (tkM l0 a2).dst, .string (tkM l0 a2).body] 42)
  obtain rfl : m1 = n0 := Q_38.out.len.symm.trans HL0.out
  have heq := eql_msg (tkM l0 a2) (tkM l0 a2)
  rw [msgEq_self] at heq
  have x0 := X_39.out.cell 0 _ rfl
  have x1 := X_39.out.cell 1 _ rfl
  have x2 := X_39.out.cell 2 _ rfl
  have hlx := X_39.out.lt
  have y0 := Y_41.out.cell 0 _ rfl
  have y1 := Y_41.out.cell 1 _ rfl
  have y2 := Y_41.out.cell 2 _ rfl
  have hly := Y_41.out.lt
  generalize tkM l0 a2 = tm at *
  go_wp2_with fail
  refine (same_self Q1 A0 _ cq1 _ c0 l0 _ Q_38.out K0_34.out (by omega)).mono ?_; rintro e w5 ⟨rfl, hb⟩
  have S_42 := Lib.hid hb; clear hb
  have K0_43 := Lib.hid (K0_34.out.keep S_42.out)
  have K1_44 := Lib.hid (K1_35.out.keep S_42.out)
  have P_45 := Lib.hid (P_36.out.keep S_42.out)
  have U_46 := Lib.hid (U_37.out.keep S_42.out)
  have Q_47 := Lib.hid (Q_38.out.keep S_42.out)
  have X_48 := Lib.hid (X_39.out.below S_42.out)
  have Y_49 := Lib.hid (Y_41.out.below S_42.out)
  have B_50 := Lib.hid (then_ B_40.out S_42.out)
  clear K0_34 K1_35 P_36 U_37 Q_38 X_39 Y_41 B_40
  clear S_42
  go_wp2_with fail
  refine (live_any _).mono ?_; rintro e w6 ⟨rfl, hb⟩
  have S_51 := Lib.hid hb; clear hb
  have K0_52 := Lib.hid (K0_43.out.keep S_51.out)
  have K1_53 := Lib.hid (K1_44.out.keep S_51.out)
  have P_54 := Lib.hid (P_45.out.keep S_51.out)
  have U_55 := Lib.hid (U_46.out.keep S_51.out)
  have Q_56 := Lib.hid (Q_47.out.keep S_51.out)
  have X_57 := Lib.hid (X_48.out.below S_51.out)
  have Y_58 := Lib.hid (Y_49.out.below S_51.out)
  have B_59 := Lib.hid (then_ B_50.out S_51.out)
  clear K0_43 K1_44 P_45 U_46 Q_47 X_48 Y_49 B_50
  clear S_51
  go_wp2
  go_ret
  exact ⟨rfl, B_59.out⟩
theorem fine00 (w : World) (A0 : Option Addr) (n0 c0 : Nat) (l0 : List Msg) (A1 : Option Addr) (n1 c1 : Nat) (l1 : List Msg) (a2 : Int) (k0 : Ms w A0 n0 c0 l0) (k1 : Ms w A1 n1 c1 l1) (w2 : (Lit.int .i64 a2).wf = true) (hf : fewB2 n0 n1 = true) (hd : putE l0 l1 ≠ 0) (hc : cpE l0 a2 ≠ 0) :
    Calls Try.prog 11 #[.slice A0 n0 c0, .slice A1 n1 c1, .int .i64 a2] w fun e w' => e = .returned (.bool true) ∧ Below w.heap.size w w' := by
  obtain ⟨h0, h1⟩ := few_iff.1 hf
  have HF := Lib.hid hf
  have hl0 := k0.len; have hl1 := k1.len
  have HI := Lib.hid (put_any A0 n0 c0 l0 A1 n1 c1 l1)
  have HK := Lib.hid (copy_any A0 n0 c0 l0 a2)
  rw [put_err hd] at HI
  have hd2 : (putE l0 l1 == 0) = false := by simp [hd]
  rw [cp_err hc] at HK
  have hc2 : (cpE l0 a2 == 0) = false := by simp [hc]
  have HL0 := Lib.hid hl0; have HL1 := Lib.hid hl1
  clear hf hl0 hl1 w2
  have K0_0 := Lib.hid k0
  have K1_0 := Lib.hid k1
  clear k0 k1
  generalize putE l0 l1 = er at *
  generalize cpE l0 a2 = ec at *
  go_enter Try.func11, Try.ntmps11
  go_wp2_with fail
  refine (few_msg A0 A1 n0 c0 n1 c1 _).mono ?_; rintro e w' ⟨rfl, rfl⟩
  rw [HF.out]
  go_wp2_with fail
  refine (HI.out _ K0_0.out K1_0.out (by omega) (by omega)).mono ?_; rintro e w1 ⟨P1, p1, q1, rfl, h, hb⟩
  have S_1 := Lib.hid hb; clear hb
  have K0_2 := Lib.hid (K0_0.out.keep S_1.out)
  have K1_3 := Lib.hid (K1_0.out.keep S_1.out)
  have B_4 := Lib.hid (S_1.out)
  clear K0_0 K1_0
  clear S_1
  have P_5 := Lib.hid (h)
  clear h
  go_wp2_with fail
  refine (HK.out _ K0_2.out (by omega)).mono ?_; rintro e w2 ⟨U1, u1, v1, rfl, h, hb⟩
  have S_6 := Lib.hid hb; clear hb
  have K0_7 := Lib.hid (K0_2.out.keep S_6.out)
  have K1_8 := Lib.hid (K1_3.out.keep S_6.out)
  have P_9 := Lib.hid (P_5.out.keep S_6.out)
  have B_10 := Lib.hid (then_ B_4.out S_6.out)
  clear K0_2 K1_3 P_5 B_4
  clear S_6
  have U_11 := Lib.hid (h)
  clear h
  go_wp2_with fail
  refine (same_self U1 A0 u1 v1 n0 c0 l0 _ U_11.out K0_7.out (by have h1 := U_11.out.len; have h2 := HL0.out; omega)).mono ?_; rintro e w3 ⟨rfl, hb⟩
  have S_12 := Lib.hid hb; clear hb
  have K0_13 := Lib.hid (K0_7.out.keep S_12.out)
  have K1_14 := Lib.hid (K1_8.out.keep S_12.out)
  have P_15 := Lib.hid (P_9.out.keep S_12.out)
  have U_16 := Lib.hid (U_11.out.keep S_12.out)
  have B_17 := Lib.hid (then_ B_10.out S_12.out)
  clear K0_7 K1_8 P_9 U_11 B_10
  clear S_12
  go_wp2_with fail
  refine (live_any _).mono ?_; rintro e w4 ⟨rfl, hb⟩
  have S_18 := Lib.hid hb; clear hb
  have K0_19 := Lib.hid (K0_13.out.keep S_18.out)
  have K1_20 := Lib.hid (K1_14.out.keep S_18.out)
  have P_21 := Lib.hid (P_15.out.keep S_18.out)
  have U_22 := Lib.hid (U_16.out.keep S_18.out)
  have B_23 := Lib.hid (then_ B_17.out S_18.out)
  clear K0_13 K1_14 P_15 U_16 B_17
  clear S_18
  go_wp2
  go_ret
  exact ⟨rfl, B_23.out⟩
theorem walk (w : World) (A0 : Option Addr) (n0 c0 : Nat) (l0 : List Msg) (A1 : Option Addr) (n1 c1 : Nat) (l1 : List Msg) (a2 : Int) (k0 : Ms w A0 n0 c0 l0) (k1 : Ms w A1 n1 c1 l1) (w2 : (Lit.int .i64 a2).wf = true) :
    Calls Try.prog 11 #[.slice A0 n0 c0, .slice A1 n1 c1, .int .i64 a2] w fun e w' => e = .returned (.bool true) ∧ Below w.heap.size w w' := by
  cases hf : fewB2 n0 n1 with
  | false => exact no_few w A0 n0 c0 l0 A1 n1 c1 l1 a2 k0 k1 w2 hf
  | true =>
    by_cases hd : putE l0 l1 = 0
    · by_cases hc : cpE l0 a2 = 0
      · exact fine11 w A0 n0 c0 l0 A1 n1 c1 l1 a2 k0 k1 w2 hf hd hc
      · exact fine10 w A0 n0 c0 l0 A1 n1 c1 l1 a2 k0 k1 w2 hf hd hc
    · by_cases hc : cpE l0 a2 = 0
      · exact fine01 w A0 n0 c0 l0 A1 n1 c1 l1 a2 k0 k1 w2 hf hd hc
      · exact fine00 w A0 n0 c0 l0 A1 n1 c1 l1 a2 k0 k1 w2 hf hd hc

theorem own : ownKnob Try.prog.godebug = none := by kernel_rfl
theorem laidOut : laidOutB Try.prog = true := by kernel_rfl

set_option maxRecDepth 100000 in
theorem lifted (os : Os) (started : os.Started) (H : Type) (enc : TypeId × Value → H) :
    ReturnsInHanded {} Try.checked os 11 .any (Rows.bagBackSpec.pre6 enc Try.prog Try.f11 Rows.bagBackRow.domain false) (Rows.bagBackSpec.post enc Try.prog Try.f11 false true false false) := by
  refine returnsInHanded_of_change (C := Try.checked) own started (by kernel_rfl) Try.func11
    (ChangeSpec.witness6 (enc := enc) (C := Try.checked) false ⟨#[], #[.slice none 0 0, .slice none 0 0, (.int .i64 0)], []⟩ 8 (by kernel_rfl) (by kernel_rfl) (by kernel_rfl) (by kernel_rfl)) ?_
  intro W base args ds gs before hval0 hW hcnd _
  have hval : ∀ (j : Nat) t v, Try.f11.params[j]? = some t → args[j]? = some v → Value.okWide Try.prog W .any base t v := hval0
  have hW' := hW
  obtain ⟨p, q, hA0, hV, rfl, hfz, hnd⟩ := hW
  have hA : DataW.TrodAll enc Try.prog W 0 (fun _ => true) true Try.f11.params.toList args.toList ds p := hA0
  rw [Try.params11] at hA hval
  obtain ⟨v0, vs0, d0, ds0, p0, q0, hargs, rfl, rfl, h0, r0⟩ := trodAll_cons hA
  obtain ⟨v1, vs1, d1, ds1, p1, q1, rfl, rfl, rfl, h1, r1⟩ := trodAll_cons r0
  obtain ⟨v2, vs2, d2, ds2, p2, q2, rfl, rfl, rfl, h2, r2⟩ := trodAll_cons r1
  obtain ⟨rfl, rfl, rfl⟩ := trodAll_nil r2
  obtain rfl : args = #[v0, v1, v2] := by cases args; simp_all
  obtain ⟨rfl, rfl⟩ := trodVars_none hV
  obtain ⟨A0, n0, c0, l0, rfl, k0⟩ := open_msgs (hval 0 35 v0 rfl rfl) h0
  obtain ⟨A1, n1, c1, l1, rfl, k1⟩ := open_msgs (hval 1 35 v1 rfl rfl) h1
  obtain ⟨a2, rfl, rfl, rfl, w2⟩ := open_int Try.underlying3 (hval 2 3 v2 rfl rfl) h2
  clear hA0 hval0
  refine (walk W A0 n0 c0 l0 A1 n1 c1 l1 a2 k0 k1 w2).mono fun e W' ⟨he, bel⟩ => ?_
  subst he
  exact ⟨_, rfl, _, _, _, [], _, [], hW', trodAll_mk1 (shut_bool Try.underlying4 _), (trodAll_cons_mk (Below.trod laidOut (by kernel_rfl) (of_decide_eq_true (by kernel_rfl)) h0 bel (fun x hx => hW'.lt x (by simp [hx]))) (trodAll_cons_mk (Below.trod laidOut (by kernel_rfl) (of_decide_eq_true (by kernel_rfl)) h1 bel (fun x hx => hW'.lt x (by simp [hx]))) (trodAll_cons_mk (shut_int Try.underlying3 w2) trodAll_mk0))), rfl, bel.frame _, fun h => by cases h⟩

theorem over : Rows.bagBackRow.holds Try.pinned (OpenSpec.ofChange Rows.bagBackSpec) :=
  OpenClaim.holds_of_wide 11 Try.f11 rfl rfl rfl rfl rfl rfl rfl ⟨rfl, rfl, rfl, rfl, rfl⟩ rfl rfl rfl rfl rfl (by kernel_rfl) Try.func11 (by kernel_rfl)
    (of_decide_eq_true (by kernel_rfl)) (by unfold Func.isWrapper; first | (rw [if_pos (by decide +kernel)]; kernel_rfl) | (rw [if_neg (by decide +kernel)]; exact ⟨rfl, rfl⟩))
    (fun os started H enc _ => lifted os started H enc)

theorem proved : Rows.BagBackSaid := over
#print axioms proved
end Go.Proofs.Ytdmhpnobdflkfaa.bagBack
