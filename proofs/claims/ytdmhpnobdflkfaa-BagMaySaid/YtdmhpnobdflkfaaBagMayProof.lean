/- For every bag, all messages and every place the law BagMay answers true: of a bag that may be comes one that may be; an error changes nothing. No condition. -/
import Derived.Test.YtdmhpnobdflkfaaBgLive
import Derived.Test.YtdmhpnobdflkfaaBgOpen
import Derived.Test.YtdmhpnobdflkfaaKeyTwo
import Derived.Test.YtdmhpnobdflkfaaRows
namespace Go.Proofs.Ytdmhpnobdflkfaa.bagMay
open Go.ChangeShapes Go.WideShapes Go.ChangeAt Go.RowKit Go.Proofs.Ytdmhpnobdflkfaa.P
open Go.ChangeMaps (open_string shut_string)
set_option linter.unusedVariables false
set_option linter.unusedSimpArgs false
set_option maxHeartbeats 2000000
set_option maxRecDepth 100000

theorem no_few (w : World) (A0 : Option Addr) (n0 c0 : Nat) (l0 : List Msg) (A1 : Option Addr) (n1 c1 : Nat) (l1 : List Msg) (a2 : Int) (k0 : Ms w A0 n0 c0 l0) (k1 : Ms w A1 n1 c1 l1) (w2 : (Lit.int .i64 a2).wf = true) (hf : fewB2 n0 n1 = false) :
    Calls Try.prog 10 #[.slice A0 n0 c0, .slice A1 n1 c1, .int .i64 a2] w fun e w' => e = .returned (.bool true) ∧ Below w.heap.size w w' := by
  have HF := Lib.hid hf; clear hf w2
  go_enter Try.func10, Try.ntmps10
  go_wp2_with fail
  refine (few_msg A0 A1 n0 c0 n1 c1 _).mono ?_; rintro e w' ⟨rfl, rfl⟩
  rw [HF.out]
  go_wp2_with fail
  refine (live_any _).mono ?_; rintro e w1 ⟨rfl, hb⟩
  have S_1 := Lib.hid hb; clear hb
  have B_2 := Lib.hid (S_1.out)
  clear S_1
  go_wp2
  go_ret
  exact ⟨rfl, B_2.out⟩
theorem no_may (w : World) (A0 : Option Addr) (n0 c0 : Nat) (l0 : List Msg) (A1 : Option Addr) (n1 c1 : Nat) (l1 : List Msg) (a2 : Int) (k0 : Ms w A0 n0 c0 l0) (k1 : Ms w A1 n1 c1 l1) (w2 : (Lit.int .i64 a2).wf = true) (hf : fewB2 n0 n1 = true) (hm : bagB l0 = false) :
    Calls Try.prog 10 #[.slice A0 n0 c0, .slice A1 n1 c1, .int .i64 a2] w fun e w' => e = .returned (.bool true) ∧ Below w.heap.size w w' := by
  have HF := Lib.hid hf; have HM := Lib.hid hm; clear hf hm w2
  have K0_0 := Lib.hid k0
  have K1_0 := Lib.hid k1
  clear k0 k1
  go_enter Try.func10, Try.ntmps10
  go_wp2_with fail
  refine (few_msg A0 A1 n0 c0 n1 c1 _).mono ?_; rintro e w' ⟨rfl, rfl⟩
  rw [HF.out]
  go_wp2_with fail
  refine (bmay_any A0 n0 c0 l0 _ K0_0.out).mono ?_; rintro e w1 ⟨rfl, hb⟩
  rw [HM.out]
  have S_1 := Lib.hid hb; clear hb
  have K0_2 := Lib.hid (K0_0.out.keep S_1.out)
  have K1_3 := Lib.hid (K1_0.out.keep S_1.out)
  have B_4 := Lib.hid (S_1.out)
  clear K0_0 K1_0
  clear S_1
  go_wp2_with fail
  refine (live_any _).mono ?_; rintro e w2 ⟨rfl, hb⟩
  have S_5 := Lib.hid hb; clear hb
  have K0_6 := Lib.hid (K0_2.out.keep S_5.out)
  have K1_7 := Lib.hid (K1_3.out.keep S_5.out)
  have B_8 := Lib.hid (then_ B_4.out S_5.out)
  clear K0_2 K1_3 B_4
  clear S_5
  go_wp2
  go_ret
  exact ⟨rfl, B_8.out⟩
theorem fine10 (w : World) (A0 : Option Addr) (n0 c0 : Nat) (l0 : List Msg) (A1 : Option Addr) (n1 c1 : Nat) (l1 : List Msg) (a2 : Int) (k0 : Ms w A0 n0 c0 l0) (k1 : Ms w A1 n1 c1 l1) (w2 : (Lit.int .i64 a2).wf = true) (hf : fewB2 n0 n1 = true) (hm : bagB l0 = true) (hd : putE l0 l1 = 0) (hh : hasM l0 a2 = true) (hc : cpE l0 a2 = 0) :
    Calls Try.prog 10 #[.slice A0 n0 c0, .slice A1 n1 c1, .int .i64 a2] w fun e w' => e = .returned (.bool true) ∧ Below w.heap.size w w' := by
  obtain ⟨h0, h1⟩ := few_iff.1 hf
  have HF := Lib.hid hf; have HM := Lib.hid hm
  have hl0 := k0.len; have hl1 := k1.len
  have HP := Lib.hid (put_may (l := l1) hm)
  have HT := Lib.hid (take_may (i := a2) hm)
  have HC := Lib.hid (copy_may (i := a2) hm)
  have HI := Lib.hid (put_any A0 n0 c0 l0 A1 n1 c1 l1)
  have HJ := Lib.hid (take_any A0 n0 c0 l0 a2)
  have HK := Lib.hid (copy_any A0 n0 c0 l0 a2)
  rw [put_ok hd, hd] at HI
  rw [put_ok hd] at HP
  have HLP : Hid ((l0 ++ l1).length = n0 + n1) := Lib.hid (by rw [List.length_append]; omega)
  obtain ⟨i0, i1⟩ := hasM_iff.1 hh
  rw [hl0] at i1
  rw [(tk_ok hh).1, (tk_ok hh).2] at HJ
  rw [(tk_ok hh).1] at HT
  rw [(cp_ok hc).1, hc] at HK
  rw [(cp_ok hc).1] at HC
  clear hc
  clear hf hm hh hd w2
  have hl9 := Lib.hid hl0; clear hl0 hl1
  have K0_0 := Lib.hid k0
  have K1_0 := Lib.hid k1
  clear k0 k1
  skip
  generalize tkM l0 a2 = tm at *
  go_enter Try.func10, Try.ntmps10
  go_wp2_with fail
  refine (few_msg A0 A1 n0 c0 n1 c1 _).mono ?_; rintro e w' ⟨rfl, rfl⟩
  rw [HF.out]
  go_wp2_with fail
  refine (bmay_any A0 n0 c0 l0 _ K0_0.out).mono ?_; rintro e w1 ⟨rfl, hb⟩
  rw [HM.out]
  have S_1 := Lib.hid hb; clear hb
  have K0_2 := Lib.hid (K0_0.out.keep S_1.out)
  have K1_3 := Lib.hid (K1_0.out.keep S_1.out)
  have B_4 := Lib.hid (S_1.out)
  clear K0_0 K1_0
  clear S_1
  go_wp2_with fail
  refine (HI.out _ K0_2.out K1_3.out (by omega) (by omega)).mono ?_; rintro e w2 ⟨P1, p1, q1, rfl, h, hb⟩
  have S_5 := Lib.hid hb; clear hb
  have K0_6 := Lib.hid (K0_2.out.keep S_5.out)
  have K1_7 := Lib.hid (K1_3.out.keep S_5.out)
  have B_8 := Lib.hid (then_ B_4.out S_5.out)
  clear K0_2 K1_3 B_4
  clear S_5
  have P_9 := Lib.hid (h)
  clear h
  have hp1 : p1 = n0 + n1 := P_9.out.len.symm.trans HLP.out
  subst hp1
  go_wp2_with fail
  refine (HJ.out _ K0_6.out (by omega)).mono ?_; rintro e w3 ⟨P2, p2, q2, rfl, h, hb⟩
  have S_10 := Lib.hid hb; clear hb
  have K0_11 := Lib.hid (K0_6.out.keep S_10.out)
  have K1_12 := Lib.hid (K1_7.out.keep S_10.out)
  have P_13 := Lib.hid (P_9.out.keep S_10.out)
  have B_14 := Lib.hid (then_ B_8.out S_10.out)
  clear K0_6 K1_7 P_9 B_8
  clear S_10
  have T_15 := Lib.hid (h)
  clear h
  have K0_16 := Lib.hid (K0_11.out.keep (new1 w3 (.cells #[.int .i64 tm.frm, .int .i64 tm.dst, .string tm.body] 42)))
  have K1_17 := Lib.hid (K1_12.out.keep (new1 w3 (.cells #[.int .i64 tm.frm, .int .i64 tm.dst, .string tm.body] 42)))
  have P_18 := Lib.hid (P_13.out.keep (new1 w3 (.cells #[.int .i64 tm.frm, .int .i64 tm.dst, .string tm.body] 42)))
  have T_19 := Lib.hid (T_15.out.keep (new1 w3 (.cells #[.int .i64 tm.frm, .int .i64 tm.dst, .string tm.body] 42)))
  have B_20 := Lib.hid (then_ B_14.out (new1 w3 (.cells #[.int .i64 tm.frm, .int .i64 tm.dst, .string tm.body] 42)))
  clear K0_11 K1_12 P_13 T_15 B_14
  have M_21 := Lib.hid (own_new w3 #[.int .i64 tm.frm, .int .i64 tm.dst, .string tm.body] 42)
  go_wp2_with fail
  refine (HK.out _ K0_16.out (by omega)).mono ?_; rintro e w4 ⟨P3, p3, q3, rfl, h, hb⟩
  have S_22 := Lib.hid hb; clear hb
  have K0_23 := Lib.hid (K0_16.out.keep S_22.out)
  have K1_24 := Lib.hid (K1_17.out.keep S_22.out)
  have P_25 := Lib.hid (P_18.out.keep S_22.out)
  have T_26 := Lib.hid (T_19.out.keep S_22.out)
  have M_27 := Lib.hid (M_21.out.below S_22.out)
  have B_28 := Lib.hid (then_ B_20.out S_22.out)
  clear K0_16 K1_17 P_18 T_19 M_21 B_20
  clear S_22
  have C_29 := Lib.hid (h)
  clear h
  go_wp2_with fail
  refine (bmay_any P1 _ q1 _ _ P_25.out).mono ?_; rintro e w5 ⟨rfl, hb⟩
  rw [HP.out]
  have S_30 := Lib.hid hb; clear hb
  have K0_31 := Lib.hid (K0_23.out.keep S_30.out)
  have K1_32 := Lib.hid (K1_24.out.keep S_30.out)
  have P_33 := Lib.hid (P_25.out.keep S_30.out)
  have T_34 := Lib.hid (T_26.out.keep S_30.out)
  have M_35 := Lib.hid (M_27.out.below S_30.out)
  have C_36 := Lib.hid (C_29.out.keep S_30.out)
  have B_37 := Lib.hid (then_ B_28.out S_30.out)
  clear K0_23 K1_24 P_25 T_26 M_27 C_29 B_28
  clear S_30
  go_wp2_with fail
  refine (bmay_any P2 p2 q2 _ _ T_34.out).mono ?_; rintro e w6 ⟨rfl, hb⟩
  rw [HT.out]
  have S_38 := Lib.hid hb; clear hb
  have K0_39 := Lib.hid (K0_31.out.keep S_38.out)
  have K1_40 := Lib.hid (K1_32.out.keep S_38.out)
  have P_41 := Lib.hid (P_33.out.keep S_38.out)
  have T_42 := Lib.hid (T_34.out.keep S_38.out)
  have M_43 := Lib.hid (M_35.out.below S_38.out)
  have C_44 := Lib.hid (C_36.out.keep S_38.out)
  have B_45 := Lib.hid (then_ B_37.out S_38.out)
  clear K0_31 K1_32 P_33 T_34 M_35 C_36 B_37
  clear S_38
  go_wp2_with fail
  refine (bmay_any P3 p3 q3 _ _ C_44.out).mono ?_; rintro e w7 ⟨rfl, hb⟩
  rw [HC.out]
  have S_46 := Lib.hid hb; clear hb
  have K0_47 := Lib.hid (K0_39.out.keep S_46.out)
  have K1_48 := Lib.hid (K1_40.out.keep S_46.out)
  have P_49 := Lib.hid (P_41.out.keep S_46.out)
  have T_50 := Lib.hid (T_42.out.keep S_46.out)
  have M_51 := Lib.hid (M_43.out.below S_46.out)
  have C_52 := Lib.hid (C_44.out.keep S_46.out)
  have B_53 := Lib.hid (then_ B_45.out S_46.out)
  clear K0_39 K1_40 P_41 T_42 M_43 C_44 B_45
  clear S_46
  go_wp2_with fail
  refine (live_any _).mono ?_; rintro e w8 ⟨rfl, hb⟩
  have S_54 := Lib.hid hb; clear hb
  have K0_55 := Lib.hid (K0_47.out.keep S_54.out)
  have K1_56 := Lib.hid (K1_48.out.keep S_54.out)
  have P_57 := Lib.hid (P_49.out.keep S_54.out)
  have T_58 := Lib.hid (T_50.out.keep S_54.out)
  have M_59 := Lib.hid (M_51.out.below S_54.out)
  have C_60 := Lib.hid (C_52.out.keep S_54.out)
  have B_61 := Lib.hid (then_ B_53.out S_54.out)
  clear K0_47 K1_48 P_49 T_50 M_51 C_52 B_53
  clear S_54
  go_wp2
  go_ret
  exact ⟨rfl, B_61.out⟩
theorem fine11 (w : World) (A0 : Option Addr) (n0 c0 : Nat) (l0 : List Msg) (A1 : Option Addr) (n1 c1 : Nat) (l1 : List Msg) (a2 : Int) (k0 : Ms w A0 n0 c0 l0) (k1 : Ms w A1 n1 c1 l1) (w2 : (Lit.int .i64 a2).wf = true) (hf : fewB2 n0 n1 = true) (hm : bagB l0 = true) (hd : putE l0 l1 = 0) (hh : hasM l0 a2 = true) (hc : cpE l0 a2 ≠ 0) :
    Calls Try.prog 10 #[.slice A0 n0 c0, .slice A1 n1 c1, .int .i64 a2] w fun e w' => e = .returned (.bool true) ∧ Below w.heap.size w w' := by
  obtain ⟨h0, h1⟩ := few_iff.1 hf
  have HF := Lib.hid hf; have HM := Lib.hid hm
  have hl0 := k0.len; have hl1 := k1.len
  have HP := Lib.hid (put_may (l := l1) hm)
  have HT := Lib.hid (take_may (i := a2) hm)
  have HC := Lib.hid (copy_may (i := a2) hm)
  have HI := Lib.hid (put_any A0 n0 c0 l0 A1 n1 c1 l1)
  have HJ := Lib.hid (take_any A0 n0 c0 l0 a2)
  have HK := Lib.hid (copy_any A0 n0 c0 l0 a2)
  rw [put_ok hd, hd] at HI
  rw [put_ok hd] at HP
  have HLP : Hid ((l0 ++ l1).length = n0 + n1) := Lib.hid (by rw [List.length_append]; omega)
  obtain ⟨i0, i1⟩ := hasM_iff.1 hh
  rw [hl0] at i1
  rw [(tk_ok hh).1, (tk_ok hh).2] at HJ
  rw [(tk_ok hh).1] at HT
  have hc4 : cpE l0 a2 = 4 := by unfold cpE at hc ⊢; rw [if_pos hh] at hc ⊢; split at hc <;> simp_all
  rw [cp_err hc, hc4] at HK
  rw [cp_err hc] at HC
  clear hc
  clear hf hm hh hd w2
  have hl9 := Lib.hid hl0; clear hl0 hl1
  have K0_0 := Lib.hid k0
  have K1_0 := Lib.hid k1
  clear k0 k1
  skip
  generalize tkM l0 a2 = tm at *
  go_enter Try.func10, Try.ntmps10
  go_wp2_with fail
  refine (few_msg A0 A1 n0 c0 n1 c1 _).mono ?_; rintro e w' ⟨rfl, rfl⟩
  rw [HF.out]
  go_wp2_with fail
  refine (bmay_any A0 n0 c0 l0 _ K0_0.out).mono ?_; rintro e w1 ⟨rfl, hb⟩
  rw [HM.out]
  have S_1 := Lib.hid hb; clear hb
  have K0_2 := Lib.hid (K0_0.out.keep S_1.out)
  have K1_3 := Lib.hid (K1_0.out.keep S_1.out)
  have B_4 := Lib.hid (S_1.out)
  clear K0_0 K1_0
  clear S_1
  go_wp2_with fail
  refine (HI.out _ K0_2.out K1_3.out (by omega) (by omega)).mono ?_; rintro e w2 ⟨P1, p1, q1, rfl, h, hb⟩
  have S_5 := Lib.hid hb; clear hb
  have K0_6 := Lib.hid (K0_2.out.keep S_5.out)
  have K1_7 := Lib.hid (K1_3.out.keep S_5.out)
  have B_8 := Lib.hid (then_ B_4.out S_5.out)
  clear K0_2 K1_3 B_4
  clear S_5
  have P_9 := Lib.hid (h)
  clear h
  have hp1 : p1 = n0 + n1 := P_9.out.len.symm.trans HLP.out
  subst hp1
  go_wp2_with fail
  refine (HJ.out _ K0_6.out (by omega)).mono ?_; rintro e w3 ⟨P2, p2, q2, rfl, h, hb⟩
  have S_10 := Lib.hid hb; clear hb
  have K0_11 := Lib.hid (K0_6.out.keep S_10.out)
  have K1_12 := Lib.hid (K1_7.out.keep S_10.out)
  have P_13 := Lib.hid (P_9.out.keep S_10.out)
  have B_14 := Lib.hid (then_ B_8.out S_10.out)
  clear K0_6 K1_7 P_9 B_8
  clear S_10
  have T_15 := Lib.hid (h)
  clear h
  have K0_16 := Lib.hid (K0_11.out.keep (new1 w3 (.cells #[.int .i64 tm.frm, .int .i64 tm.dst, .string tm.body] 42)))
  have K1_17 := Lib.hid (K1_12.out.keep (new1 w3 (.cells #[.int .i64 tm.frm, .int .i64 tm.dst, .string tm.body] 42)))
  have P_18 := Lib.hid (P_13.out.keep (new1 w3 (.cells #[.int .i64 tm.frm, .int .i64 tm.dst, .string tm.body] 42)))
  have T_19 := Lib.hid (T_15.out.keep (new1 w3 (.cells #[.int .i64 tm.frm, .int .i64 tm.dst, .string tm.body] 42)))
  have B_20 := Lib.hid (then_ B_14.out (new1 w3 (.cells #[.int .i64 tm.frm, .int .i64 tm.dst, .string tm.body] 42)))
  clear K0_11 K1_12 P_13 T_15 B_14
  have M_21 := Lib.hid (own_new w3 #[.int .i64 tm.frm, .int .i64 tm.dst, .string tm.body] 42)
  go_wp2_with fail
  refine (HK.out _ K0_16.out (by omega)).mono ?_; rintro e w4 ⟨P3, p3, q3, rfl, h, hb⟩
  have S_22 := Lib.hid hb; clear hb
  have K0_23 := Lib.hid (K0_16.out.keep S_22.out)
  have K1_24 := Lib.hid (K1_17.out.keep S_22.out)
  have P_25 := Lib.hid (P_18.out.keep S_22.out)
  have T_26 := Lib.hid (T_19.out.keep S_22.out)
  have M_27 := Lib.hid (M_21.out.below S_22.out)
  have B_28 := Lib.hid (then_ B_20.out S_22.out)
  clear K0_16 K1_17 P_18 T_19 M_21 B_20
  clear S_22
  have C_29 := Lib.hid (h)
  clear h
  go_wp2_with fail
  refine (bmay_any P1 _ q1 _ _ P_25.out).mono ?_; rintro e w5 ⟨rfl, hb⟩
  rw [HP.out]
  have S_30 := Lib.hid hb; clear hb
  have K0_31 := Lib.hid (K0_23.out.keep S_30.out)
  have K1_32 := Lib.hid (K1_24.out.keep S_30.out)
  have P_33 := Lib.hid (P_25.out.keep S_30.out)
  have T_34 := Lib.hid (T_26.out.keep S_30.out)
  have M_35 := Lib.hid (M_27.out.below S_30.out)
  have C_36 := Lib.hid (C_29.out.keep S_30.out)
  have B_37 := Lib.hid (then_ B_28.out S_30.out)
  clear K0_23 K1_24 P_25 T_26 M_27 C_29 B_28
  clear S_30
  go_wp2_with fail
  refine (bmay_any P2 p2 q2 _ _ T_34.out).mono ?_; rintro e w6 ⟨rfl, hb⟩
  rw [HT.out]
  have S_38 := Lib.hid hb; clear hb
  have K0_39 := Lib.hid (K0_31.out.keep S_38.out)
  have K1_40 := Lib.hid (K1_32.out.keep S_38.out)
  have P_41 := Lib.hid (P_33.out.keep S_38.out)
  have T_42 := Lib.hid (T_34.out.keep S_38.out)
  have M_43 := Lib.hid (M_35.out.below S_38.out)
  have C_44 := Lib.hid (C_36.out.keep S_38.out)
  have B_45 := Lib.hid (then_ B_37.out S_38.out)
  clear K0_31 K1_32 P_33 T_34 M_35 C_36 B_37
  clear S_38
  go_wp2_with fail
  refine (bmay_any P3 p3 q3 _ _ C_44.out).mono ?_; rintro e w7 ⟨rfl, hb⟩
  rw [HC.out]
  have S_46 := Lib.hid hb; clear hb
  have K0_47 := Lib.hid (K0_39.out.keep S_46.out)
  have K1_48 := Lib.hid (K1_40.out.keep S_46.out)
  have P_49 := Lib.hid (P_41.out.keep S_46.out)
  have T_50 := Lib.hid (T_42.out.keep S_46.out)
  have M_51 := Lib.hid (M_43.out.below S_46.out)
  have C_52 := Lib.hid (C_44.out.keep S_46.out)
  have B_53 := Lib.hid (then_ B_45.out S_46.out)
  clear K0_39 K1_40 P_41 T_42 M_43 C_44 B_45
  clear S_46
  go_wp2_with fail
  refine (same_self P3 A0 p3 q3 n0 c0 l0 _ C_52.out K0_47.out (by have h1 := C_52.out.len; have h2 := hl9.out; omega)).mono ?_; rintro e w8 ⟨rfl, hb⟩
  have S_54 := Lib.hid hb; clear hb
  have K0_55 := Lib.hid (K0_47.out.keep S_54.out)
  have K1_56 := Lib.hid (K1_48.out.keep S_54.out)
  have P_57 := Lib.hid (P_49.out.keep S_54.out)
  have T_58 := Lib.hid (T_50.out.keep S_54.out)
  have M_59 := Lib.hid (M_51.out.below S_54.out)
  have C_60 := Lib.hid (C_52.out.keep S_54.out)
  have B_61 := Lib.hid (then_ B_53.out S_54.out)
  clear K0_47 K1_48 P_49 T_50 M_51 C_52 B_53
  clear S_54
  go_wp2_with fail
  refine (live_any _).mono ?_; rintro e w9 ⟨rfl, hb⟩
  have S_62 := Lib.hid hb; clear hb
  have K0_63 := Lib.hid (K0_55.out.keep S_62.out)
  have K1_64 := Lib.hid (K1_56.out.keep S_62.out)
  have P_65 := Lib.hid (P_57.out.keep S_62.out)
  have T_66 := Lib.hid (T_58.out.keep S_62.out)
  have M_67 := Lib.hid (M_59.out.below S_62.out)
  have C_68 := Lib.hid (C_60.out.keep S_62.out)
  have B_69 := Lib.hid (then_ B_61.out S_62.out)
  clear K0_55 K1_56 P_57 T_58 M_59 C_60 B_61
  clear S_62
  go_wp2
  go_ret
  exact ⟨rfl, B_69.out⟩
theorem fine12 (w : World) (A0 : Option Addr) (n0 c0 : Nat) (l0 : List Msg) (A1 : Option Addr) (n1 c1 : Nat) (l1 : List Msg) (a2 : Int) (k0 : Ms w A0 n0 c0 l0) (k1 : Ms w A1 n1 c1 l1) (w2 : (Lit.int .i64 a2).wf = true) (hf : fewB2 n0 n1 = true) (hm : bagB l0 = true) (hd : putE l0 l1 = 0) (hh : hasM l0 a2 = false) (hn : a2 < 0) :
    Calls Try.prog 10 #[.slice A0 n0 c0, .slice A1 n1 c1, .int .i64 a2] w fun e w' => e = .returned (.bool true) ∧ Below w.heap.size w w' := by
  obtain ⟨h0, h1⟩ := few_iff.1 hf
  have HF := Lib.hid hf; have HM := Lib.hid hm
  have hl0 := k0.len; have hl1 := k1.len
  have HP := Lib.hid (put_may (l := l1) hm)
  have HT := Lib.hid (take_may (i := a2) hm)
  have HC := Lib.hid (copy_may (i := a2) hm)
  have HI := Lib.hid (put_any A0 n0 c0 l0 A1 n1 c1 l1)
  have HJ := Lib.hid (take_any A0 n0 c0 l0 a2)
  have HK := Lib.hid (copy_any A0 n0 c0 l0 a2)
  rw [put_ok hd, hd] at HI
  rw [put_ok hd] at HP
  have HLP : Hid ((l0 ++ l1).length = n0 + n1) := Lib.hid (by rw [List.length_append]; omega)
  have hno := taken_no hl0 hh
  rw [(tk_err hh).1, (tk_err hh).2.2] at HJ
  rw [(tk_err hh).1] at HT
  have hc5 : cpE l0 a2 = 5 := by unfold cpE; rw [hh]; rfl
  rw [cp_err (by rw [hc5]; decide), hc5] at HK
  rw [cp_err (by rw [hc5]; decide)] at HC
  clear hno hc5
  clear hf hm hh hd w2
  have hl9 := Lib.hid hl0; clear hl0 hl1
  have K0_0 := Lib.hid k0
  have K1_0 := Lib.hid k1
  clear k0 k1
  skip
  generalize tkM l0 a2 = tm at *
  go_enter Try.func10, Try.ntmps10
  go_wp2_with fail
  refine (few_msg A0 A1 n0 c0 n1 c1 _).mono ?_; rintro e w' ⟨rfl, rfl⟩
  rw [HF.out]
  go_wp2_with fail
  refine (bmay_any A0 n0 c0 l0 _ K0_0.out).mono ?_; rintro e w1 ⟨rfl, hb⟩
  rw [HM.out]
  have S_1 := Lib.hid hb; clear hb
  have K0_2 := Lib.hid (K0_0.out.keep S_1.out)
  have K1_3 := Lib.hid (K1_0.out.keep S_1.out)
  have B_4 := Lib.hid (S_1.out)
  clear K0_0 K1_0
  clear S_1
  go_wp2_with fail
  refine (HI.out _ K0_2.out K1_3.out (by omega) (by omega)).mono ?_; rintro e w2 ⟨P1, p1, q1, rfl, h, hb⟩
  have S_5 := Lib.hid hb; clear hb
  have K0_6 := Lib.hid (K0_2.out.keep S_5.out)
  have K1_7 := Lib.hid (K1_3.out.keep S_5.out)
  have B_8 := Lib.hid (then_ B_4.out S_5.out)
  clear K0_2 K1_3 B_4
  clear S_5
  have P_9 := Lib.hid (h)
  clear h
  have hp1 : p1 = n0 + n1 := P_9.out.len.symm.trans HLP.out
  subst hp1
  go_wp2_with fail
  refine (HJ.out _ K0_6.out (by omega)).mono ?_; rintro e w3 ⟨P2, p2, q2, rfl, h, hb⟩
  have S_10 := Lib.hid hb; clear hb
  have K0_11 := Lib.hid (K0_6.out.keep S_10.out)
  have K1_12 := Lib.hid (K1_7.out.keep S_10.out)
  have P_13 := Lib.hid (P_9.out.keep S_10.out)
  have B_14 := Lib.hid (then_ B_8.out S_10.out)
  clear K0_6 K1_7 P_9 B_8
  clear S_10
  have T_15 := Lib.hid (h)
  clear h
  have K0_16 := Lib.hid (K0_11.out.keep (new1 w3 (.cells #[.int .i64 tm.frm, .int .i64 tm.dst, .string tm.body] 42)))
  have K1_17 := Lib.hid (K1_12.out.keep (new1 w3 (.cells #[.int .i64 tm.frm, .int .i64 tm.dst, .string tm.body] 42)))
  have P_18 := Lib.hid (P_13.out.keep (new1 w3 (.cells #[.int .i64 tm.frm, .int .i64 tm.dst, .string tm.body] 42)))
  have T_19 := Lib.hid (T_15.out.keep (new1 w3 (.cells #[.int .i64 tm.frm, .int .i64 tm.dst, .string tm.body] 42)))
  have B_20 := Lib.hid (then_ B_14.out (new1 w3 (.cells #[.int .i64 tm.frm, .int .i64 tm.dst, .string tm.body] 42)))
  clear K0_11 K1_12 P_13 T_15 B_14
  have M_21 := Lib.hid (own_new w3 #[.int .i64 tm.frm, .int .i64 tm.dst, .string tm.body] 42)
  go_wp2_with fail
  refine (HK.out _ K0_16.out (by omega)).mono ?_; rintro e w4 ⟨P3, p3, q3, rfl, h, hb⟩
  have S_22 := Lib.hid hb; clear hb
  have K0_23 := Lib.hid (K0_16.out.keep S_22.out)
  have K1_24 := Lib.hid (K1_17.out.keep S_22.out)
  have P_25 := Lib.hid (P_18.out.keep S_22.out)
  have T_26 := Lib.hid (T_19.out.keep S_22.out)
  have M_27 := Lib.hid (M_21.out.below S_22.out)
  have B_28 := Lib.hid (then_ B_20.out S_22.out)
  clear K0_16 K1_17 P_18 T_19 M_21 B_20
  clear S_22
  have C_29 := Lib.hid (h)
  clear h
  go_wp2_with fail
  refine (bmay_any P1 _ q1 _ _ P_25.out).mono ?_; rintro e w5 ⟨rfl, hb⟩
  rw [HP.out]
  have S_30 := Lib.hid hb; clear hb
  have K0_31 := Lib.hid (K0_23.out.keep S_30.out)
  have K1_32 := Lib.hid (K1_24.out.keep S_30.out)
  have P_33 := Lib.hid (P_25.out.keep S_30.out)
  have T_34 := Lib.hid (T_26.out.keep S_30.out)
  have M_35 := Lib.hid (M_27.out.below S_30.out)
  have C_36 := Lib.hid (C_29.out.keep S_30.out)
  have B_37 := Lib.hid (then_ B_28.out S_30.out)
  clear K0_23 K1_24 P_25 T_26 M_27 C_29 B_28
  clear S_30
  go_wp2_with fail
  refine (bmay_any P2 p2 q2 _ _ T_34.out).mono ?_; rintro e w6 ⟨rfl, hb⟩
  rw [HT.out]
  have S_38 := Lib.hid hb; clear hb
  have K0_39 := Lib.hid (K0_31.out.keep S_38.out)
  have K1_40 := Lib.hid (K1_32.out.keep S_38.out)
  have P_41 := Lib.hid (P_33.out.keep S_38.out)
  have T_42 := Lib.hid (T_34.out.keep S_38.out)
  have M_43 := Lib.hid (M_35.out.below S_38.out)
  have C_44 := Lib.hid (C_36.out.keep S_38.out)
  have B_45 := Lib.hid (then_ B_37.out S_38.out)
  clear K0_31 K1_32 P_33 T_34 M_35 C_36 B_37
  clear S_38
  go_wp2_with fail
  refine (bmay_any P3 p3 q3 _ _ C_44.out).mono ?_; rintro e w7 ⟨rfl, hb⟩
  rw [HC.out]
  have S_46 := Lib.hid hb; clear hb
  have K0_47 := Lib.hid (K0_39.out.keep S_46.out)
  have K1_48 := Lib.hid (K1_40.out.keep S_46.out)
  have P_49 := Lib.hid (P_41.out.keep S_46.out)
  have T_50 := Lib.hid (T_42.out.keep S_46.out)
  have M_51 := Lib.hid (M_43.out.below S_46.out)
  have C_52 := Lib.hid (C_44.out.keep S_46.out)
  have B_53 := Lib.hid (then_ B_45.out S_46.out)
  clear K0_39 K1_40 P_41 T_42 M_43 C_44 B_45
  clear S_46
  go_wp2_with fail
  refine (same_self P2 A0 p2 q2 n0 c0 l0 _ T_50.out K0_47.out (by have h1 := T_50.out.len; have h2 := hl9.out; omega)).mono ?_; rintro e w8 ⟨rfl, hb⟩
  have S_54 := Lib.hid hb; clear hb
  have K0_55 := Lib.hid (K0_47.out.keep S_54.out)
  have K1_56 := Lib.hid (K1_48.out.keep S_54.out)
  have P_57 := Lib.hid (P_49.out.keep S_54.out)
  have T_58 := Lib.hid (T_50.out.keep S_54.out)
  have M_59 := Lib.hid (M_51.out.below S_54.out)
  have C_60 := Lib.hid (C_52.out.keep S_54.out)
  have B_61 := Lib.hid (then_ B_53.out S_54.out)
  clear K0_47 K1_48 P_49 T_50 M_51 C_52 B_53
  clear S_54
  go_wp2_with fail
  refine (same_self P3 A0 p3 q3 n0 c0 l0 _ C_60.out K0_55.out (by have h1 := C_60.out.len; have h2 := hl9.out; omega)).mono ?_; rintro e w9 ⟨rfl, hb⟩
  have S_62 := Lib.hid hb; clear hb
  have K0_63 := Lib.hid (K0_55.out.keep S_62.out)
  have K1_64 := Lib.hid (K1_56.out.keep S_62.out)
  have P_65 := Lib.hid (P_57.out.keep S_62.out)
  have T_66 := Lib.hid (T_58.out.keep S_62.out)
  have M_67 := Lib.hid (M_59.out.below S_62.out)
  have C_68 := Lib.hid (C_60.out.keep S_62.out)
  have B_69 := Lib.hid (then_ B_61.out S_62.out)
  clear K0_55 K1_56 P_57 T_58 M_59 C_60 B_61
  clear S_62
  go_wp2_with fail
  refine (live_any _).mono ?_; rintro e w10 ⟨rfl, hb⟩
  have S_70 := Lib.hid hb; clear hb
  have K0_71 := Lib.hid (K0_63.out.keep S_70.out)
  have K1_72 := Lib.hid (K1_64.out.keep S_70.out)
  have P_73 := Lib.hid (P_65.out.keep S_70.out)
  have T_74 := Lib.hid (T_66.out.keep S_70.out)
  have M_75 := Lib.hid (M_67.out.below S_70.out)
  have C_76 := Lib.hid (C_68.out.keep S_70.out)
  have B_77 := Lib.hid (then_ B_69.out S_70.out)
  clear K0_63 K1_64 P_65 T_66 M_67 C_68 B_69
  clear S_70
  go_wp2
  go_ret
  exact ⟨rfl, B_77.out⟩
theorem fine13 (w : World) (A0 : Option Addr) (n0 c0 : Nat) (l0 : List Msg) (A1 : Option Addr) (n1 c1 : Nat) (l1 : List Msg) (a2 : Int) (k0 : Ms w A0 n0 c0 l0) (k1 : Ms w A1 n1 c1 l1) (w2 : (Lit.int .i64 a2).wf = true) (hf : fewB2 n0 n1 = true) (hm : bagB l0 = true) (hd : putE l0 l1 = 0) (hh : hasM l0 a2 = false) (hn : ¬ a2 < 0) :
    Calls Try.prog 10 #[.slice A0 n0 c0, .slice A1 n1 c1, .int .i64 a2] w fun e w' => e = .returned (.bool true) ∧ Below w.heap.size w w' := by
  obtain ⟨h0, h1⟩ := few_iff.1 hf
  have HF := Lib.hid hf; have HM := Lib.hid hm
  have hl0 := k0.len; have hl1 := k1.len
  have HP := Lib.hid (put_may (l := l1) hm)
  have HT := Lib.hid (take_may (i := a2) hm)
  have HC := Lib.hid (copy_may (i := a2) hm)
  have HI := Lib.hid (put_any A0 n0 c0 l0 A1 n1 c1 l1)
  have HJ := Lib.hid (take_any A0 n0 c0 l0 a2)
  have HK := Lib.hid (copy_any A0 n0 c0 l0 a2)
  rw [put_ok hd, hd] at HI
  rw [put_ok hd] at HP
  have HLP : Hid ((l0 ++ l1).length = n0 + n1) := Lib.hid (by rw [List.length_append]; omega)
  have hno := taken_no hl0 hh
  rw [(tk_err hh).1, (tk_err hh).2.2] at HJ
  rw [(tk_err hh).1] at HT
  have hc5 : cpE l0 a2 = 5 := by unfold cpE; rw [hh]; rfl
  rw [cp_err (by rw [hc5]; decide), hc5] at HK
  rw [cp_err (by rw [hc5]; decide)] at HC
  have hn3 : 0 ≤ a2 := by omega
  have hn5 : ¬ (a2 < (n0 : Int)) := by omega
  have hn4 : decide (a2 < (n0 : Int)) = false := decide_eq_false hn5
  clear hno hc5
  clear hf hm hh hd w2
  have hl9 := Lib.hid hl0; clear hl0 hl1
  have K0_0 := Lib.hid k0
  have K1_0 := Lib.hid k1
  clear k0 k1
  skip
  generalize tkM l0 a2 = tm at *
  go_enter Try.func10, Try.ntmps10
  go_wp2_with fail
  refine (few_msg A0 A1 n0 c0 n1 c1 _).mono ?_; rintro e w' ⟨rfl, rfl⟩
  rw [HF.out]
  go_wp2_with fail
  refine (bmay_any A0 n0 c0 l0 _ K0_0.out).mono ?_; rintro e w1 ⟨rfl, hb⟩
  rw [HM.out]
  have S_1 := Lib.hid hb; clear hb
  have K0_2 := Lib.hid (K0_0.out.keep S_1.out)
  have K1_3 := Lib.hid (K1_0.out.keep S_1.out)
  have B_4 := Lib.hid (S_1.out)
  clear K0_0 K1_0
  clear S_1
  go_wp2_with fail
  refine (HI.out _ K0_2.out K1_3.out (by omega) (by omega)).mono ?_; rintro e w2 ⟨P1, p1, q1, rfl, h, hb⟩
  have S_5 := Lib.hid hb; clear hb
  have K0_6 := Lib.hid (K0_2.out.keep S_5.out)
  have K1_7 := Lib.hid (K1_3.out.keep S_5.out)
  have B_8 := Lib.hid (then_ B_4.out S_5.out)
  clear K0_2 K1_3 B_4
  clear S_5
  have P_9 := Lib.hid (h)
  clear h
  have hp1 : p1 = n0 + n1 := P_9.out.len.symm.trans HLP.out
  subst hp1
  go_wp2_with fail
  refine (HJ.out _ K0_6.out (by omega)).mono ?_; rintro e w3 ⟨P2, p2, q2, rfl, h, hb⟩
  have S_10 := Lib.hid hb; clear hb
  have K0_11 := Lib.hid (K0_6.out.keep S_10.out)
  have K1_12 := Lib.hid (K1_7.out.keep S_10.out)
  have P_13 := Lib.hid (P_9.out.keep S_10.out)
  have B_14 := Lib.hid (then_ B_8.out S_10.out)
  clear K0_6 K1_7 P_9 B_8
  clear S_10
  have T_15 := Lib.hid (h)
  clear h
  have K0_16 := Lib.hid (K0_11.out.keep (new1 w3 (.cells #[.int .i64 tm.frm, .int .i64 tm.dst, .string tm.body] 42)))
  have K1_17 := Lib.hid (K1_12.out.keep (new1 w3 (.cells #[.int .i64 tm.frm, .int .i64 tm.dst, .string tm.body] 42)))
  have P_18 := Lib.hid (P_13.out.keep (new1 w3 (.cells #[.int .i64 tm.frm, .int .i64 tm.dst, .string tm.body] 42)))
  have T_19 := Lib.hid (T_15.out.keep (new1 w3 (.cells #[.int .i64 tm.frm, .int .i64 tm.dst, .string tm.body] 42)))
  have B_20 := Lib.hid (then_ B_14.out (new1 w3 (.cells #[.int .i64 tm.frm, .int .i64 tm.dst, .string tm.body] 42)))
  clear K0_11 K1_12 P_13 T_15 B_14
  have M_21 := Lib.hid (own_new w3 #[.int .i64 tm.frm, .int .i64 tm.dst, .string tm.body] 42)
  go_wp2_with fail
  refine (HK.out _ K0_16.out (by omega)).mono ?_; rintro e w4 ⟨P3, p3, q3, rfl, h, hb⟩
  have S_22 := Lib.hid hb; clear hb
  have K0_23 := Lib.hid (K0_16.out.keep S_22.out)
  have K1_24 := Lib.hid (K1_17.out.keep S_22.out)
  have P_25 := Lib.hid (P_18.out.keep S_22.out)
  have T_26 := Lib.hid (T_19.out.keep S_22.out)
  have M_27 := Lib.hid (M_21.out.below S_22.out)
  have B_28 := Lib.hid (then_ B_20.out S_22.out)
  clear K0_16 K1_17 P_18 T_19 M_21 B_20
  clear S_22
  have C_29 := Lib.hid (h)
  clear h
  go_wp2_with fail
  refine (bmay_any P1 _ q1 _ _ P_25.out).mono ?_; rintro e w5 ⟨rfl, hb⟩
  rw [HP.out]
  have S_30 := Lib.hid hb; clear hb
  have K0_31 := Lib.hid (K0_23.out.keep S_30.out)
  have K1_32 := Lib.hid (K1_24.out.keep S_30.out)
  have P_33 := Lib.hid (P_25.out.keep S_30.out)
  have T_34 := Lib.hid (T_26.out.keep S_30.out)
  have M_35 := Lib.hid (M_27.out.below S_30.out)
  have C_36 := Lib.hid (C_29.out.keep S_30.out)
  have B_37 := Lib.hid (then_ B_28.out S_30.out)
  clear K0_23 K1_24 P_25 T_26 M_27 C_29 B_28
  clear S_30
  go_wp2_with fail
  refine (bmay_any P2 p2 q2 _ _ T_34.out).mono ?_; rintro e w6 ⟨rfl, hb⟩
  rw [HT.out]
  have S_38 := Lib.hid hb; clear hb
  have K0_39 := Lib.hid (K0_31.out.keep S_38.out)
  have K1_40 := Lib.hid (K1_32.out.keep S_38.out)
  have P_41 := Lib.hid (P_33.out.keep S_38.out)
  have T_42 := Lib.hid (T_34.out.keep S_38.out)
  have M_43 := Lib.hid (M_35.out.below S_38.out)
  have C_44 := Lib.hid (C_36.out.keep S_38.out)
  have B_45 := Lib.hid (then_ B_37.out S_38.out)
  clear K0_31 K1_32 P_33 T_34 M_35 C_36 B_37
  clear S_38
  go_wp2_with fail
  refine (bmay_any P3 p3 q3 _ _ C_44.out).mono ?_; rintro e w7 ⟨rfl, hb⟩
  rw [HC.out]
  have S_46 := Lib.hid hb; clear hb
  have K0_47 := Lib.hid (K0_39.out.keep S_46.out)
  have K1_48 := Lib.hid (K1_40.out.keep S_46.out)
  have P_49 := Lib.hid (P_41.out.keep S_46.out)
  have T_50 := Lib.hid (T_42.out.keep S_46.out)
  have M_51 := Lib.hid (M_43.out.below S_46.out)
  have C_52 := Lib.hid (C_44.out.keep S_46.out)
  have B_53 := Lib.hid (then_ B_45.out S_46.out)
  clear K0_39 K1_40 P_41 T_42 M_43 C_44 B_45
  clear S_46
  go_wp2_with fail
  refine (same_self P2 A0 p2 q2 n0 c0 l0 _ T_50.out K0_47.out (by have h1 := T_50.out.len; have h2 := hl9.out; omega)).mono ?_; rintro e w8 ⟨rfl, hb⟩
  have S_54 := Lib.hid hb; clear hb
  have K0_55 := Lib.hid (K0_47.out.keep S_54.out)
  have K1_56 := Lib.hid (K1_48.out.keep S_54.out)
  have P_57 := Lib.hid (P_49.out.keep S_54.out)
  have T_58 := Lib.hid (T_50.out.keep S_54.out)
  have M_59 := Lib.hid (M_51.out.below S_54.out)
  have C_60 := Lib.hid (C_52.out.keep S_54.out)
  have B_61 := Lib.hid (then_ B_53.out S_54.out)
  clear K0_47 K1_48 P_49 T_50 M_51 C_52 B_53
  clear S_54
  go_wp2_with fail
  refine (same_self P3 A0 p3 q3 n0 c0 l0 _ C_60.out K0_55.out (by have h1 := C_60.out.len; have h2 := hl9.out; omega)).mono ?_; rintro e w9 ⟨rfl, hb⟩
  have S_62 := Lib.hid hb; clear hb
  have K0_63 := Lib.hid (K0_55.out.keep S_62.out)
  have K1_64 := Lib.hid (K1_56.out.keep S_62.out)
  have P_65 := Lib.hid (P_57.out.keep S_62.out)
  have T_66 := Lib.hid (T_58.out.keep S_62.out)
  have M_67 := Lib.hid (M_59.out.below S_62.out)
  have C_68 := Lib.hid (C_60.out.keep S_62.out)
  have B_69 := Lib.hid (then_ B_61.out S_62.out)
  clear K0_55 K1_56 P_57 T_58 M_59 C_60 B_61
  clear S_62
  go_wp2_with fail
  refine (live_any _).mono ?_; rintro e w10 ⟨rfl, hb⟩
  have S_70 := Lib.hid hb; clear hb
  have K0_71 := Lib.hid (K0_63.out.keep S_70.out)
  have K1_72 := Lib.hid (K1_64.out.keep S_70.out)
  have P_73 := Lib.hid (P_65.out.keep S_70.out)
  have T_74 := Lib.hid (T_66.out.keep S_70.out)
  have M_75 := Lib.hid (M_67.out.below S_70.out)
  have C_76 := Lib.hid (C_68.out.keep S_70.out)
  have B_77 := Lib.hid (then_ B_69.out S_70.out)
  clear K0_63 K1_64 P_65 T_66 M_67 C_68 B_69
  clear S_70
  go_wp2
  go_ret
  exact ⟨rfl, B_77.out⟩
theorem fine00 (w : World) (A0 : Option Addr) (n0 c0 : Nat) (l0 : List Msg) (A1 : Option Addr) (n1 c1 : Nat) (l1 : List Msg) (a2 : Int) (k0 : Ms w A0 n0 c0 l0) (k1 : Ms w A1 n1 c1 l1) (w2 : (Lit.int .i64 a2).wf = true) (hf : fewB2 n0 n1 = true) (hm : bagB l0 = true) (hd : putE l0 l1 ≠ 0) (hh : hasM l0 a2 = true) (hc : cpE l0 a2 = 0) :
    Calls Try.prog 10 #[.slice A0 n0 c0, .slice A1 n1 c1, .int .i64 a2] w fun e w' => e = .returned (.bool true) ∧ Below w.heap.size w w' := by
  obtain ⟨h0, h1⟩ := few_iff.1 hf
  have HF := Lib.hid hf; have HM := Lib.hid hm
  have hl0 := k0.len; have hl1 := k1.len
  have HP := Lib.hid (put_may (l := l1) hm)
  have HT := Lib.hid (take_may (i := a2) hm)
  have HC := Lib.hid (copy_may (i := a2) hm)
  have HI := Lib.hid (put_any A0 n0 c0 l0 A1 n1 c1 l1)
  have HJ := Lib.hid (take_any A0 n0 c0 l0 a2)
  have HK := Lib.hid (copy_any A0 n0 c0 l0 a2)
  rw [put_err hd] at HI HP
  have hd2 : (putE l0 l1 == 0) = false := by simp [hd]
  obtain ⟨i0, i1⟩ := hasM_iff.1 hh
  rw [hl0] at i1
  rw [(tk_ok hh).1, (tk_ok hh).2] at HJ
  rw [(tk_ok hh).1] at HT
  rw [(cp_ok hc).1, hc] at HK
  rw [(cp_ok hc).1] at HC
  clear hc
  clear hf hm hh w2
  have hl9 := Lib.hid hl0; clear hl0 hl1
  have K0_0 := Lib.hid k0
  have K1_0 := Lib.hid k1
  clear k0 k1
  generalize putE l0 l1 = er at *
  generalize tkM l0 a2 = tm at *
  go_enter Try.func10, Try.ntmps10
  go_wp2_with fail
  refine (few_msg A0 A1 n0 c0 n1 c1 _).mono ?_; rintro e w' ⟨rfl, rfl⟩
  rw [HF.out]
  go_wp2_with fail
  refine (bmay_any A0 n0 c0 l0 _ K0_0.out).mono ?_; rintro e w1 ⟨rfl, hb⟩
  rw [HM.out]
  have S_1 := Lib.hid hb; clear hb
  have K0_2 := Lib.hid (K0_0.out.keep S_1.out)
  have K1_3 := Lib.hid (K1_0.out.keep S_1.out)
  have B_4 := Lib.hid (S_1.out)
  clear K0_0 K1_0
  clear S_1
  go_wp2_with fail
  refine (HI.out _ K0_2.out K1_3.out (by omega) (by omega)).mono ?_; rintro e w2 ⟨P1, p1, q1, rfl, h, hb⟩
  have S_5 := Lib.hid hb; clear hb
  have K0_6 := Lib.hid (K0_2.out.keep S_5.out)
  have K1_7 := Lib.hid (K1_3.out.keep S_5.out)
  have B_8 := Lib.hid (then_ B_4.out S_5.out)
  clear K0_2 K1_3 B_4
  clear S_5
  have P_9 := Lib.hid (h)
  clear h
  go_wp2_with fail
  refine (HJ.out _ K0_6.out (by omega)).mono ?_; rintro e w3 ⟨P2, p2, q2, rfl, h, hb⟩
  have S_10 := Lib.hid hb; clear hb
  have K0_11 := Lib.hid (K0_6.out.keep S_10.out)
  have K1_12 := Lib.hid (K1_7.out.keep S_10.out)
  have P_13 := Lib.hid (P_9.out.keep S_10.out)
  have B_14 := Lib.hid (then_ B_8.out S_10.out)
  clear K0_6 K1_7 P_9 B_8
  clear S_10
  have T_15 := Lib.hid (h)
  clear h
  have K0_16 := Lib.hid (K0_11.out.keep (new1 w3 (.cells #[.int .i64 tm.frm, .int .i64 tm.dst, .string tm.body] 42)))
  have K1_17 := Lib.hid (K1_12.out.keep (new1 w3 (.cells #[.int .i64 tm.frm, .int .i64 tm.dst, .string tm.body] 42)))
  have P_18 := Lib.hid (P_13.out.keep (new1 w3 (.cells #[.int .i64 tm.frm, .int .i64 tm.dst, .string tm.body] 42)))
  have T_19 := Lib.hid (T_15.out.keep (new1 w3 (.cells #[.int .i64 tm.frm, .int .i64 tm.dst, .string tm.body] 42)))
  have B_20 := Lib.hid (then_ B_14.out (new1 w3 (.cells #[.int .i64 tm.frm, .int .i64 tm.dst, .string tm.body] 42)))
  clear K0_11 K1_12 P_13 T_15 B_14
  have M_21 := Lib.hid (own_new w3 #[.int .i64 tm.frm, .int .i64 tm.dst, .string tm.body] 42)
  go_wp2_with fail
  refine (HK.out _ K0_16.out (by omega)).mono ?_; rintro e w4 ⟨P3, p3, q3, rfl, h, hb⟩
  have S_22 := Lib.hid hb; clear hb
  have K0_23 := Lib.hid (K0_16.out.keep S_22.out)
  have K1_24 := Lib.hid (K1_17.out.keep S_22.out)
  have P_25 := Lib.hid (P_18.out.keep S_22.out)
  have T_26 := Lib.hid (T_19.out.keep S_22.out)
  have M_27 := Lib.hid (M_21.out.below S_22.out)
  have B_28 := Lib.hid (then_ B_20.out S_22.out)
  clear K0_16 K1_17 P_18 T_19 M_21 B_20
  clear S_22
  have C_29 := Lib.hid (h)
  clear h
  go_wp2_with fail
  refine (bmay_any P1 _ q1 _ _ P_25.out).mono ?_; rintro e w5 ⟨rfl, hb⟩
  rw [HP.out]
  have S_30 := Lib.hid hb; clear hb
  have K0_31 := Lib.hid (K0_23.out.keep S_30.out)
  have K1_32 := Lib.hid (K1_24.out.keep S_30.out)
  have P_33 := Lib.hid (P_25.out.keep S_30.out)
  have T_34 := Lib.hid (T_26.out.keep S_30.out)
  have M_35 := Lib.hid (M_27.out.below S_30.out)
  have C_36 := Lib.hid (C_29.out.keep S_30.out)
  have B_37 := Lib.hid (then_ B_28.out S_30.out)
  clear K0_23 K1_24 P_25 T_26 M_27 C_29 B_28
  clear S_30
  go_wp2_with fail
  refine (bmay_any P2 p2 q2 _ _ T_34.out).mono ?_; rintro e w6 ⟨rfl, hb⟩
  rw [HT.out]
  have S_38 := Lib.hid hb; clear hb
  have K0_39 := Lib.hid (K0_31.out.keep S_38.out)
  have K1_40 := Lib.hid (K1_32.out.keep S_38.out)
  have P_41 := Lib.hid (P_33.out.keep S_38.out)
  have T_42 := Lib.hid (T_34.out.keep S_38.out)
  have M_43 := Lib.hid (M_35.out.below S_38.out)
  have C_44 := Lib.hid (C_36.out.keep S_38.out)
  have B_45 := Lib.hid (then_ B_37.out S_38.out)
  clear K0_31 K1_32 P_33 T_34 M_35 C_36 B_37
  clear S_38
  go_wp2_with fail
  refine (bmay_any P3 p3 q3 _ _ C_44.out).mono ?_; rintro e w7 ⟨rfl, hb⟩
  rw [HC.out]
  have S_46 := Lib.hid hb; clear hb
  have K0_47 := Lib.hid (K0_39.out.keep S_46.out)
  have K1_48 := Lib.hid (K1_40.out.keep S_46.out)
  have P_49 := Lib.hid (P_41.out.keep S_46.out)
  have T_50 := Lib.hid (T_42.out.keep S_46.out)
  have M_51 := Lib.hid (M_43.out.below S_46.out)
  have C_52 := Lib.hid (C_44.out.keep S_46.out)
  have B_53 := Lib.hid (then_ B_45.out S_46.out)
  clear K0_39 K1_40 P_41 T_42 M_43 C_44 B_45
  clear S_46
  go_wp2_with fail
  refine (same_self P1 A0 p1 q1 n0 c0 l0 _ P_49.out K0_47.out (by have h1 := P_49.out.len; have h2 := hl9.out; omega)).mono ?_; rintro e w8 ⟨rfl, hb⟩
  have S_54 := Lib.hid hb; clear hb
  have K0_55 := Lib.hid (K0_47.out.keep S_54.out)
  have K1_56 := Lib.hid (K1_48.out.keep S_54.out)
  have P_57 := Lib.hid (P_49.out.keep S_54.out)
  have T_58 := Lib.hid (T_50.out.keep S_54.out)
  have M_59 := Lib.hid (M_51.out.below S_54.out)
  have C_60 := Lib.hid (C_52.out.keep S_54.out)
  have B_61 := Lib.hid (then_ B_53.out S_54.out)
  clear K0_47 K1_48 P_49 T_50 M_51 C_52 B_53
  clear S_54
  go_wp2_with fail
  refine (live_any _).mono ?_; rintro e w9 ⟨rfl, hb⟩
  have S_62 := Lib.hid hb; clear hb
  have K0_63 := Lib.hid (K0_55.out.keep S_62.out)
  have K1_64 := Lib.hid (K1_56.out.keep S_62.out)
  have P_65 := Lib.hid (P_57.out.keep S_62.out)
  have T_66 := Lib.hid (T_58.out.keep S_62.out)
  have M_67 := Lib.hid (M_59.out.below S_62.out)
  have C_68 := Lib.hid (C_60.out.keep S_62.out)
  have B_69 := Lib.hid (then_ B_61.out S_62.out)
  clear K0_55 K1_56 P_57 T_58 M_59 C_60 B_61
  clear S_62
  go_wp2
  go_ret
  exact ⟨rfl, B_69.out⟩
theorem fine01 (w : World) (A0 : Option Addr) (n0 c0 : Nat) (l0 : List Msg) (A1 : Option Addr) (n1 c1 : Nat) (l1 : List Msg) (a2 : Int) (k0 : Ms w A0 n0 c0 l0) (k1 : Ms w A1 n1 c1 l1) (w2 : (Lit.int .i64 a2).wf = true) (hf : fewB2 n0 n1 = true) (hm : bagB l0 = true) (hd : putE l0 l1 ≠ 0) (hh : hasM l0 a2 = true) (hc : cpE l0 a2 ≠ 0) :
    Calls Try.prog 10 #[.slice A0 n0 c0, .slice A1 n1 c1, .int .i64 a2] w fun e w' => e = .returned (.bool true) ∧ Below w.heap.size w w' := by
  obtain ⟨h0, h1⟩ := few_iff.1 hf
  have HF := Lib.hid hf; have HM := Lib.hid hm
  have hl0 := k0.len; have hl1 := k1.len
  have HP := Lib.hid (put_may (l := l1) hm)
  have HT := Lib.hid (take_may (i := a2) hm)
  have HC := Lib.hid (copy_may (i := a2) hm)
  have HI := Lib.hid (put_any A0 n0 c0 l0 A1 n1 c1 l1)
  have HJ := Lib.hid (take_any A0 n0 c0 l0 a2)
  have HK := Lib.hid (copy_any A0 n0 c0 l0 a2)
  rw [put_err hd] at HI HP
  have hd2 : (putE l0 l1 == 0) = false := by simp [hd]
  obtain ⟨i0, i1⟩ := hasM_iff.1 hh
  rw [hl0] at i1
  rw [(tk_ok hh).1, (tk_ok hh).2] at HJ
  rw [(tk_ok hh).1] at HT
  have hc4 : cpE l0 a2 = 4 := by unfold cpE at hc ⊢; rw [if_pos hh] at hc ⊢; split at hc <;> simp_all
  rw [cp_err hc, hc4] at HK
  rw [cp_err hc] at HC
  clear hc
  clear hf hm hh w2
  have hl9 := Lib.hid hl0; clear hl0 hl1
  have K0_0 := Lib.hid k0
  have K1_0 := Lib.hid k1
  clear k0 k1
  generalize putE l0 l1 = er at *
  generalize tkM l0 a2 = tm at *
  go_enter Try.func10, Try.ntmps10
  go_wp2_with fail
  refine (few_msg A0 A1 n0 c0 n1 c1 _).mono ?_; rintro e w' ⟨rfl, rfl⟩
  rw [HF.out]
  go_wp2_with fail
  refine (bmay_any A0 n0 c0 l0 _ K0_0.out).mono ?_; rintro e w1 ⟨rfl, hb⟩
  rw [HM.out]
  have S_1 := Lib.hid hb; clear hb
  have K0_2 := Lib.hid (K0_0.out.keep S_1.out)
  have K1_3 := Lib.hid (K1_0.out.keep S_1.out)
  have B_4 := Lib.hid (S_1.out)
  clear K0_0 K1_0
  clear S_1
  go_wp2_with fail
  refine (HI.out _ K0_2.out K1_3.out (by omega) (by omega)).mono ?_; rintro e w2 ⟨P1, p1, q1, rfl, h, hb⟩
  have S_5 := Lib.hid hb; clear hb
  have K0_6 := Lib.hid (K0_2.out.keep S_5.out)
  have K1_7 := Lib.hid (K1_3.out.keep S_5.out)
  have B_8 := Lib.hid (then_ B_4.out S_5.out)
  clear K0_2 K1_3 B_4
  clear S_5
  have P_9 := Lib.hid (h)
  clear h
  go_wp2_with fail
  refine (HJ.out _ K0_6.out (by omega)).mono ?_; rintro e w3 ⟨P2, p2, q2, rfl, h, hb⟩
  have S_10 := Lib.hid hb; clear hb
  have K0_11 := Lib.hid (K0_6.out.keep S_10.out)
  have K1_12 := Lib.hid (K1_7.out.keep S_10.out)
  have P_13 := Lib.hid (P_9.out.keep S_10.out)
  have B_14 := Lib.hid (then_ B_8.out S_10.out)
  clear K0_6 K1_7 P_9 B_8
  clear S_10
  have T_15 := Lib.hid (h)
  clear h
  have K0_16 := Lib.hid (K0_11.out.keep (new1 w3 (.cells #[.int .i64 tm.frm, .int .i64 tm.dst, .string tm.body] 42)))
  have K1_17 := Lib.hid (K1_12.out.keep (new1 w3 (.cells #[.int .i64 tm.frm, .int .i64 tm.dst, .string tm.body] 42)))
  have P_18 := Lib.hid (P_13.out.keep (new1 w3 (.cells #[.int .i64 tm.frm, .int .i64 tm.dst, .string tm.body] 42)))
  have T_19 := Lib.hid (T_15.out.keep (new1 w3 (.cells #[.int .i64 tm.frm, .int .i64 tm.dst, .string tm.body] 42)))
  have B_20 := Lib.hid (then_ B_14.out (new1 w3 (.cells #[.int .i64 tm.frm, .int .i64 tm.dst, .string tm.body] 42)))
  clear K0_11 K1_12 P_13 T_15 B_14
  have M_21 := Lib.hid (own_new w3 #[.int .i64 tm.frm, .int .i64 tm.dst, .string tm.body] 42)
  go_wp2_with fail
  refine (HK.out _ K0_16.out (by omega)).mono ?_; rintro e w4 ⟨P3, p3, q3, rfl, h, hb⟩
  have S_22 := Lib.hid hb; clear hb
  have K0_23 := Lib.hid (K0_16.out.keep S_22.out)
  have K1_24 := Lib.hid (K1_17.out.keep S_22.out)
  have P_25 := Lib.hid (P_18.out.keep S_22.out)
  have T_26 := Lib.hid (T_19.out.keep S_22.out)
  have M_27 := Lib.hid (M_21.out.below S_22.out)
  have B_28 := Lib.hid (then_ B_20.out S_22.out)
  clear K0_16 K1_17 P_18 T_19 M_21 B_20
  clear S_22
  have C_29 := Lib.hid (h)
  clear h
  go_wp2_with fail
  refine (bmay_any P1 _ q1 _ _ P_25.out).mono ?_; rintro e w5 ⟨rfl, hb⟩
  rw [HP.out]
  have S_30 := Lib.hid hb; clear hb
  have K0_31 := Lib.hid (K0_23.out.keep S_30.out)
  have K1_32 := Lib.hid (K1_24.out.keep S_30.out)
  have P_33 := Lib.hid (P_25.out.keep S_30.out)
  have T_34 := Lib.hid (T_26.out.keep S_30.out)
  have M_35 := Lib.hid (M_27.out.below S_30.out)
  have C_36 := Lib.hid (C_29.out.keep S_30.out)
  have B_37 := Lib.hid (then_ B_28.out S_30.out)
  clear K0_23 K1_24 P_25 T_26 M_27 C_29 B_28
  clear S_30
  go_wp2_with fail
  refine (bmay_any P2 p2 q2 _ _ T_34.out).mono ?_; rintro e w6 ⟨rfl, hb⟩
  rw [HT.out]
  have S_38 := Lib.hid hb; clear hb
  have K0_39 := Lib.hid (K0_31.out.keep S_38.out)
  have K1_40 := Lib.hid (K1_32.out.keep S_38.out)
  have P_41 := Lib.hid (P_33.out.keep S_38.out)
  have T_42 := Lib.hid (T_34.out.keep S_38.out)
  have M_43 := Lib.hid (M_35.out.below S_38.out)
  have C_44 := Lib.hid (C_36.out.keep S_38.out)
  have B_45 := Lib.hid (then_ B_37.out S_38.out)
  clear K0_31 K1_32 P_33 T_34 M_35 C_36 B_37
  clear S_38
  go_wp2_with fail
  refine (bmay_any P3 p3 q3 _ _ C_44.out).mono ?_; rintro e w7 ⟨rfl, hb⟩
  rw [HC.out]
  have S_46 := Lib.hid hb; clear hb
  have K0_47 := Lib.hid (K0_39.out.keep S_46.out)
  have K1_48 := Lib.hid (K1_40.out.keep S_46.out)
  have P_49 := Lib.hid (P_41.out.keep S_46.out)
  have T_50 := Lib.hid (T_42.out.keep S_46.out)
  have M_51 := Lib.hid (M_43.out.below S_46.out)
  have C_52 := Lib.hid (C_44.out.keep S_46.out)
  have B_53 := Lib.hid (then_ B_45.out S_46.out)
  clear K0_39 K1_40 P_41 T_42 M_43 C_44 B_45
  clear S_46
  go_wp2_with fail
  refine (same_self P1 A0 p1 q1 n0 c0 l0 _ P_49.out K0_47.out (by have h1 := P_49.out.len; have h2 := hl9.out; omega)).mono ?_; rintro e w8 ⟨rfl, hb⟩
  have S_54 := Lib.hid hb; clear hb
  have K0_55 := Lib.hid (K0_47.out.keep S_54.out)
  have K1_56 := Lib.hid (K1_48.out.keep S_54.out)
  have P_57 := Lib.hid (P_49.out.keep S_54.out)
  have T_58 := Lib.hid (T_50.out.keep S_54.out)
  have M_59 := Lib.hid (M_51.out.below S_54.out)
  have C_60 := Lib.hid (C_52.out.keep S_54.out)
  have B_61 := Lib.hid (then_ B_53.out S_54.out)
  clear K0_47 K1_48 P_49 T_50 M_51 C_52 B_53
  clear S_54
  go_wp2_with fail
  refine (same_self P3 A0 p3 q3 n0 c0 l0 _ C_60.out K0_55.out (by have h1 := C_60.out.len; have h2 := hl9.out; omega)).mono ?_; rintro e w9 ⟨rfl, hb⟩
  have S_62 := Lib.hid hb; clear hb
  have K0_63 := Lib.hid (K0_55.out.keep S_62.out)
  have K1_64 := Lib.hid (K1_56.out.keep S_62.out)
  have P_65 := Lib.hid (P_57.out.keep S_62.out)
  have T_66 := Lib.hid (T_58.out.keep S_62.out)
  have M_67 := Lib.hid (M_59.out.below S_62.out)
  have C_68 := Lib.hid (C_60.out.keep S_62.out)
  have B_69 := Lib.hid (then_ B_61.out S_62.out)
  clear K0_55 K1_56 P_57 T_58 M_59 C_60 B_61
  clear S_62
  go_wp2_with fail
  refine (live_any _).mono ?_; rintro e w10 ⟨rfl, hb⟩
  have S_70 := Lib.hid hb; clear hb
  have K0_71 := Lib.hid (K0_63.out.keep S_70.out)
  have K1_72 := Lib.hid (K1_64.out.keep S_70.out)
  have P_73 := Lib.hid (P_65.out.keep S_70.out)
  have T_74 := Lib.hid (T_66.out.keep S_70.out)
  have M_75 := Lib.hid (M_67.out.below S_70.out)
  have C_76 := Lib.hid (C_68.out.keep S_70.out)
  have B_77 := Lib.hid (then_ B_69.out S_70.out)
  clear K0_63 K1_64 P_65 T_66 M_67 C_68 B_69
  clear S_70
  go_wp2
  go_ret
  exact ⟨rfl, B_77.out⟩
theorem fine02 (w : World) (A0 : Option Addr) (n0 c0 : Nat) (l0 : List Msg) (A1 : Option Addr) (n1 c1 : Nat) (l1 : List Msg) (a2 : Int) (k0 : Ms w A0 n0 c0 l0) (k1 : Ms w A1 n1 c1 l1) (w2 : (Lit.int .i64 a2).wf = true) (hf : fewB2 n0 n1 = true) (hm : bagB l0 = true) (hd : putE l0 l1 ≠ 0) (hh : hasM l0 a2 = false) (hn : a2 < 0) :
    Calls Try.prog 10 #[.slice A0 n0 c0, .slice A1 n1 c1, .int .i64 a2] w fun e w' => e = .returned (.bool true) ∧ Below w.heap.size w w' := by
  obtain ⟨h0, h1⟩ := few_iff.1 hf
  have HF := Lib.hid hf; have HM := Lib.hid hm
  have hl0 := k0.len; have hl1 := k1.len
  have HP := Lib.hid (put_may (l := l1) hm)
  have HT := Lib.hid (take_may (i := a2) hm)
  have HC := Lib.hid (copy_may (i := a2) hm)
  have HI := Lib.hid (put_any A0 n0 c0 l0 A1 n1 c1 l1)
  have HJ := Lib.hid (take_any A0 n0 c0 l0 a2)
  have HK := Lib.hid (copy_any A0 n0 c0 l0 a2)
  rw [put_err hd] at HI HP
  have hd2 : (putE l0 l1 == 0) = false := by simp [hd]
  have hno := taken_no hl0 hh
  rw [(tk_err hh).1, (tk_err hh).2.2] at HJ
  rw [(tk_err hh).1] at HT
  have hc5 : cpE l0 a2 = 5 := by unfold cpE; rw [hh]; rfl
  rw [cp_err (by rw [hc5]; decide), hc5] at HK
  rw [cp_err (by rw [hc5]; decide)] at HC
  clear hno hc5
  clear hf hm hh w2
  have hl9 := Lib.hid hl0; clear hl0 hl1
  have K0_0 := Lib.hid k0
  have K1_0 := Lib.hid k1
  clear k0 k1
  generalize putE l0 l1 = er at *
  generalize tkM l0 a2 = tm at *
  go_enter Try.func10, Try.ntmps10
  go_wp2_with fail
  refine (few_msg A0 A1 n0 c0 n1 c1 _).mono ?_; rintro e w' ⟨rfl, rfl⟩
  rw [HF.out]
  go_wp2_with fail
  refine (bmay_any A0 n0 c0 l0 _ K0_0.out).mono ?_; rintro e w1 ⟨rfl, hb⟩
  rw [HM.out]
  have S_1 := Lib.hid hb; clear hb
  have K0_2 := Lib.hid (K0_0.out.keep S_1.out)
  have K1_3 := Lib.hid (K1_0.out.keep S_1.out)
  have B_4 := Lib.hid (S_1.out)
  clear K0_0 K1_0
  clear S_1
  go_wp2_with fail
  refine (HI.out _ K0_2.out K1_3.out (by omega) (by omega)).mono ?_; rintro e w2 ⟨P1, p1, q1, rfl, h, hb⟩
  have S_5 := Lib.hid hb; clear hb
  have K0_6 := Lib.hid (K0_2.out.keep S_5.out)
  have K1_7 := Lib.hid (K1_3.out.keep S_5.out)
  have B_8 := Lib.hid (then_ B_4.out S_5.out)
  clear K0_2 K1_3 B_4
  clear S_5
  have P_9 := Lib.hid (h)
  clear h
  go_wp2_with fail
  refine (HJ.out _ K0_6.out (by omega)).mono ?_; rintro e w3 ⟨P2, p2, q2, rfl, h, hb⟩
  have S_10 := Lib.hid hb; clear hb
  have K0_11 := Lib.hid (K0_6.out.keep S_10.out)
  have K1_12 := Lib.hid (K1_7.out.keep S_10.out)
  have P_13 := Lib.hid (P_9.out.keep S_10.out)
  have B_14 := Lib.hid (then_ B_8.out S_10.out)
  clear K0_6 K1_7 P_9 B_8
  clear S_10
  have T_15 := Lib.hid (h)
  clear h
  have K0_16 := Lib.hid (K0_11.out.keep (new1 w3 (.cells #[.int .i64 tm.frm, .int .i64 tm.dst, .string tm.body] 42)))
  have K1_17 := Lib.hid (K1_12.out.keep (new1 w3 (.cells #[.int .i64 tm.frm, .int .i64 tm.dst, .string tm.body] 42)))
  have P_18 := Lib.hid (P_13.out.keep (new1 w3 (.cells #[.int .i64 tm.frm, .int .i64 tm.dst, .string tm.body] 42)))
  have T_19 := Lib.hid (T_15.out.keep (new1 w3 (.cells #[.int .i64 tm.frm, .int .i64 tm.dst, .string tm.body] 42)))
  have B_20 := Lib.hid (then_ B_14.out (new1 w3 (.cells #[.int .i64 tm.frm, .int .i64 tm.dst, .string tm.body] 42)))
  clear K0_11 K1_12 P_13 T_15 B_14
  have M_21 := Lib.hid (own_new w3 #[.int .i64 tm.frm, .int .i64 tm.dst, .string tm.body] 42)
  go_wp2_with fail
  refine (HK.out _ K0_16.out (by omega)).mono ?_; rintro e w4 ⟨P3, p3, q3, rfl, h, hb⟩
  have S_22 := Lib.hid hb; clear hb
  have K0_23 := Lib.hid (K0_16.out.keep S_22.out)
  have K1_24 := Lib.hid (K1_17.out.keep S_22.out)
  have P_25 := Lib.hid (P_18.out.keep S_22.out)
  have T_26 := Lib.hid (T_19.out.keep S_22.out)
  have M_27 := Lib.hid (M_21.out.below S_22.out)
  have B_28 := Lib.hid (then_ B_20.out S_22.out)
  clear K0_16 K1_17 P_18 T_19 M_21 B_20
  clear S_22
  have C_29 := Lib.hid (h)
  clear h
  go_wp2_with fail
  refine (bmay_any P1 _ q1 _ _ P_25.out).mono ?_; rintro e w5 ⟨rfl, hb⟩
  rw [HP.out]
  have S_30 := Lib.hid hb; clear hb
  have K0_31 := Lib.hid (K0_23.out.keep S_30.out)
  have K1_32 := Lib.hid (K1_24.out.keep S_30.out)
  have P_33 := Lib.hid (P_25.out.keep S_30.out)
  have T_34 := Lib.hid (T_26.out.keep S_30.out)
  have M_35 := Lib.hid (M_27.out.below S_30.out)
  have C_36 := Lib.hid (C_29.out.keep S_30.out)
  have B_37 := Lib.hid (then_ B_28.out S_30.out)
  clear K0_23 K1_24 P_25 T_26 M_27 C_29 B_28
  clear S_30
  go_wp2_with fail
  refine (bmay_any P2 p2 q2 _ _ T_34.out).mono ?_; rintro e w6 ⟨rfl, hb⟩
  rw [HT.out]
  have S_38 := Lib.hid hb; clear hb
  have K0_39 := Lib.hid (K0_31.out.keep S_38.out)
  have K1_40 := Lib.hid (K1_32.out.keep S_38.out)
  have P_41 := Lib.hid (P_33.out.keep S_38.out)
  have T_42 := Lib.hid (T_34.out.keep S_38.out)
  have M_43 := Lib.hid (M_35.out.below S_38.out)
  have C_44 := Lib.hid (C_36.out.keep S_38.out)
  have B_45 := Lib.hid (then_ B_37.out S_38.out)
  clear K0_31 K1_32 P_33 T_34 M_35 C_36 B_37
  clear S_38
  go_wp2_with fail
  refine (bmay_any P3 p3 q3 _ _ C_44.out).mono ?_; rintro e w7 ⟨rfl, hb⟩
  rw [HC.out]
  have S_46 := Lib.hid hb; clear hb
  have K0_47 := Lib.hid (K0_39.out.keep S_46.out)
  have K1_48 := Lib.hid (K1_40.out.keep S_46.out)
  have P_49 := Lib.hid (P_41.out.keep S_46.out)
  have T_50 := Lib.hid (T_42.out.keep S_46.out)
  have M_51 := Lib.hid (M_43.out.below S_46.out)
  have C_52 := Lib.hid (C_44.out.keep S_46.out)
  have B_53 := Lib.hid (then_ B_45.out S_46.out)
  clear K0_39 K1_40 P_41 T_42 M_43 C_44 B_45
  clear S_46
  go_wp2_with fail
  refine (same_self P1 A0 p1 q1 n0 c0 l0 _ P_49.out K0_47.out (by have h1 := P_49.out.len; have h2 := hl9.out; omega)).mono ?_; rintro e w8 ⟨rfl, hb⟩
  have S_54 := Lib.hid hb; clear hb
  have K0_55 := Lib.hid (K0_47.out.keep S_54.out)
  have K1_56 := Lib.hid (K1_48.out.keep S_54.out)
  have P_57 := Lib.hid (P_49.out.keep S_54.out)
  have T_58 := Lib.hid (T_50.out.keep S_54.out)
  have M_59 := Lib.hid (M_51.out.below S_54.out)
  have C_60 := Lib.hid (C_52.out.keep S_54.out)
  have B_61 := Lib.hid (then_ B_53.out S_54.out)
  clear K0_47 K1_48 P_49 T_50 M_51 C_52 B_53
  clear S_54
  go_wp2_with fail
  refine (same_self P2 A0 p2 q2 n0 c0 l0 _ T_58.out K0_55.out (by have h1 := T_58.out.len; have h2 := hl9.out; omega)).mono ?_; rintro e w9 ⟨rfl, hb⟩
  have S_62 := Lib.hid hb; clear hb
  have K0_63 := Lib.hid (K0_55.out.keep S_62.out)
  have K1_64 := Lib.hid (K1_56.out.keep S_62.out)
  have P_65 := Lib.hid (P_57.out.keep S_62.out)
  have T_66 := Lib.hid (T_58.out.keep S_62.out)
  have M_67 := Lib.hid (M_59.out.below S_62.out)
  have C_68 := Lib.hid (C_60.out.keep S_62.out)
  have B_69 := Lib.hid (then_ B_61.out S_62.out)
  clear K0_55 K1_56 P_57 T_58 M_59 C_60 B_61
  clear S_62
  go_wp2_with fail
  refine (same_self P3 A0 p3 q3 n0 c0 l0 _ C_68.out K0_63.out (by have h1 := C_68.out.len; have h2 := hl9.out; omega)).mono ?_; rintro e w10 ⟨rfl, hb⟩
  have S_70 := Lib.hid hb; clear hb
  have K0_71 := Lib.hid (K0_63.out.keep S_70.out)
  have K1_72 := Lib.hid (K1_64.out.keep S_70.out)
  have P_73 := Lib.hid (P_65.out.keep S_70.out)
  have T_74 := Lib.hid (T_66.out.keep S_70.out)
  have M_75 := Lib.hid (M_67.out.below S_70.out)
  have C_76 := Lib.hid (C_68.out.keep S_70.out)
  have B_77 := Lib.hid (then_ B_69.out S_70.out)
  clear K0_63 K1_64 P_65 T_66 M_67 C_68 B_69
  clear S_70
  go_wp2_with fail
  refine (live_any _).mono ?_; rintro e w11 ⟨rfl, hb⟩
  have S_78 := Lib.hid hb; clear hb
  have K0_79 := Lib.hid (K0_71.out.keep S_78.out)
  have K1_80 := Lib.hid (K1_72.out.keep S_78.out)
  have P_81 := Lib.hid (P_73.out.keep S_78.out)
  have T_82 := Lib.hid (T_74.out.keep S_78.out)
  have M_83 := Lib.hid (M_75.out.below S_78.out)
  have C_84 := Lib.hid (C_76.out.keep S_78.out)
  have B_85 := Lib.hid (then_ B_77.out S_78.out)
  clear K0_71 K1_72 P_73 T_74 M_75 C_76 B_77
  clear S_78
  go_wp2
  go_ret
  exact ⟨rfl, B_85.out⟩
theorem fine03 (w : World) (A0 : Option Addr) (n0 c0 : Nat) (l0 : List Msg) (A1 : Option Addr) (n1 c1 : Nat) (l1 : List Msg) (a2 : Int) (k0 : Ms w A0 n0 c0 l0) (k1 : Ms w A1 n1 c1 l1) (w2 : (Lit.int .i64 a2).wf = true) (hf : fewB2 n0 n1 = true) (hm : bagB l0 = true) (hd : putE l0 l1 ≠ 0) (hh : hasM l0 a2 = false) (hn : ¬ a2 < 0) :
    Calls Try.prog 10 #[.slice A0 n0 c0, .slice A1 n1 c1, .int .i64 a2] w fun e w' => e = .returned (.bool true) ∧ Below w.heap.size w w' := by
  obtain ⟨h0, h1⟩ := few_iff.1 hf
  have HF := Lib.hid hf; have HM := Lib.hid hm
  have hl0 := k0.len; have hl1 := k1.len
  have HP := Lib.hid (put_may (l := l1) hm)
  have HT := Lib.hid (take_may (i := a2) hm)
  have HC := Lib.hid (copy_may (i := a2) hm)
  have HI := Lib.hid (put_any A0 n0 c0 l0 A1 n1 c1 l1)
  have HJ := Lib.hid (take_any A0 n0 c0 l0 a2)
  have HK := Lib.hid (copy_any A0 n0 c0 l0 a2)
  rw [put_err hd] at HI HP
  have hd2 : (putE l0 l1 == 0) = false := by simp [hd]
  have hno := taken_no hl0 hh
  rw [(tk_err hh).1, (tk_err hh).2.2] at HJ
  rw [(tk_err hh).1] at HT
  have hc5 : cpE l0 a2 = 5 := by unfold cpE; rw [hh]; rfl
  rw [cp_err (by rw [hc5]; decide), hc5] at HK
  rw [cp_err (by rw [hc5]; decide)] at HC
  have hn3 : 0 ≤ a2 := by omega
  have hn5 : ¬ (a2 < (n0 : Int)) := by omega
  have hn4 : decide (a2 < (n0 : Int)) = false := decide_eq_false hn5
  clear hno hc5
  clear hf hm hh w2
  have hl9 := Lib.hid hl0; clear hl0 hl1
  have K0_0 := Lib.hid k0
  have K1_0 := Lib.hid k1
  clear k0 k1
  generalize putE l0 l1 = er at *
  generalize tkM l0 a2 = tm at *
  go_enter Try.func10, Try.ntmps10
  go_wp2_with fail
  refine (few_msg A0 A1 n0 c0 n1 c1 _).mono ?_; rintro e w' ⟨rfl, rfl⟩
  rw [HF.out]
  go_wp2_with fail
  refine (bmay_any A0 n0 c0 l0 _ K0_0.out).mono ?_; rintro e w1 ⟨rfl, hb⟩
  rw [HM.out]
  have S_1 := Lib.hid hb; clear hb
  have K0_2 := Lib.hid (K0_0.out.keep S_1.out)
  have K1_3 := Lib.hid (K1_0.out.keep S_1.out)
  have B_4 := Lib.hid (S_1.out)
  clear K0_0 K1_0
  clear S_1
  go_wp2_with fail
  refine (HI.out _ K0_2.out K1_3.out (by omega) (by omega)).mono ?_; rintro e w2 ⟨P1, p1, q1, rfl, h, hb⟩
  have S_5 := Lib.hid hb; clear hb
  have K0_6 := Lib.hid (K0_2.out.keep S_5.out)
  have K1_7 := Lib.hid (K1_3.out.keep S_5.out)
  have B_8 := Lib.hid (then_ B_4.out S_5.out)
  clear K0_2 K1_3 B_4
  clear S_5
  have P_9 := Lib.hid (h)
  clear h
  go_wp2_with fail
  refine (HJ.out _ K0_6.out (by omega)).mono ?_; rintro e w3 ⟨P2, p2, q2, rfl, h, hb⟩
  have S_10 := Lib.hid hb; clear hb
  have K0_11 := Lib.hid (K0_6.out.keep S_10.out)
  have K1_12 := Lib.hid (K1_7.out.keep S_10.out)
  have P_13 := Lib.hid (P_9.out.keep S_10.out)
  have B_14 := Lib.hid (then_ B_8.out S_10.out)
  clear K0_6 K1_7 P_9 B_8
  clear S_10
  have T_15 := Lib.hid (h)
  clear h
  have K0_16 := Lib.hid (K0_11.out.keep (new1 w3 (.cells #[.int .i64 tm.frm, .int .i64 tm.dst, .string tm.body] 42)))
  have K1_17 := Lib.hid (K1_12.out.keep (new1 w3 (.cells #[.int .i64 tm.frm, .int .i64 tm.dst, .string tm.body] 42)))
  have P_18 := Lib.hid (P_13.out.keep (new1 w3 (.cells #[.int .i64 tm.frm, .int .i64 tm.dst, .string tm.body] 42)))
  have T_19 := Lib.hid (T_15.out.keep (new1 w3 (.cells #[.int .i64 tm.frm, .int .i64 tm.dst, .string tm.body] 42)))
  have B_20 := Lib.hid (then_ B_14.out (new1 w3 (.cells #[.int .i64 tm.frm, .int .i64 tm.dst, .string tm.body] 42)))
  clear K0_11 K1_12 P_13 T_15 B_14
  have M_21 := Lib.hid (own_new w3 #[.int .i64 tm.frm, .int .i64 tm.dst, .string tm.body] 42)
  go_wp2_with fail
  refine (HK.out _ K0_16.out (by omega)).mono ?_; rintro e w4 ⟨P3, p3, q3, rfl, h, hb⟩
  have S_22 := Lib.hid hb; clear hb
  have K0_23 := Lib.hid (K0_16.out.keep S_22.out)
  have K1_24 := Lib.hid (K1_17.out.keep S_22.out)
  have P_25 := Lib.hid (P_18.out.keep S_22.out)
  have T_26 := Lib.hid (T_19.out.keep S_22.out)
  have M_27 := Lib.hid (M_21.out.below S_22.out)
  have B_28 := Lib.hid (then_ B_20.out S_22.out)
  clear K0_16 K1_17 P_18 T_19 M_21 B_20
  clear S_22
  have C_29 := Lib.hid (h)
  clear h
  go_wp2_with fail
  refine (bmay_any P1 _ q1 _ _ P_25.out).mono ?_; rintro e w5 ⟨rfl, hb⟩
  rw [HP.out]
  have S_30 := Lib.hid hb; clear hb
  have K0_31 := Lib.hid (K0_23.out.keep S_30.out)
  have K1_32 := Lib.hid (K1_24.out.keep S_30.out)
  have P_33 := Lib.hid (P_25.out.keep S_30.out)
  have T_34 := Lib.hid (T_26.out.keep S_30.out)
  have M_35 := Lib.hid (M_27.out.below S_30.out)
  have C_36 := Lib.hid (C_29.out.keep S_30.out)
  have B_37 := Lib.hid (then_ B_28.out S_30.out)
  clear K0_23 K1_24 P_25 T_26 M_27 C_29 B_28
  clear S_30
  go_wp2_with fail
  refine (bmay_any P2 p2 q2 _ _ T_34.out).mono ?_; rintro e w6 ⟨rfl, hb⟩
  rw [HT.out]
  have S_38 := Lib.hid hb; clear hb
  have K0_39 := Lib.hid (K0_31.out.keep S_38.out)
  have K1_40 := Lib.hid (K1_32.out.keep S_38.out)
  have P_41 := Lib.hid (P_33.out.keep S_38.out)
  have T_42 := Lib.hid (T_34.out.keep S_38.out)
  have M_43 := Lib.hid (M_35.out.below S_38.out)
  have C_44 := Lib.hid (C_36.out.keep S_38.out)
  have B_45 := Lib.hid (then_ B_37.out S_38.out)
  clear K0_31 K1_32 P_33 T_34 M_35 C_36 B_37
  clear S_38
  go_wp2_with fail
  refine (bmay_any P3 p3 q3 _ _ C_44.out).mono ?_; rintro e w7 ⟨rfl, hb⟩
  rw [HC.out]
  have S_46 := Lib.hid hb; clear hb
  have K0_47 := Lib.hid (K0_39.out.keep S_46.out)
  have K1_48 := Lib.hid (K1_40.out.keep S_46.out)
  have P_49 := Lib.hid (P_41.out.keep S_46.out)
  have T_50 := Lib.hid (T_42.out.keep S_46.out)
  have M_51 := Lib.hid (M_43.out.below S_46.out)
  have C_52 := Lib.hid (C_44.out.keep S_46.out)
  have B_53 := Lib.hid (then_ B_45.out S_46.out)
  clear K0_39 K1_40 P_41 T_42 M_43 C_44 B_45
  clear S_46
  go_wp2_with fail
  refine (same_self P1 A0 p1 q1 n0 c0 l0 _ P_49.out K0_47.out (by have h1 := P_49.out.len; have h2 := hl9.out; omega)).mono ?_; rintro e w8 ⟨rfl, hb⟩
  have S_54 := Lib.hid hb; clear hb
  have K0_55 := Lib.hid (K0_47.out.keep S_54.out)
  have K1_56 := Lib.hid (K1_48.out.keep S_54.out)
  have P_57 := Lib.hid (P_49.out.keep S_54.out)
  have T_58 := Lib.hid (T_50.out.keep S_54.out)
  have M_59 := Lib.hid (M_51.out.below S_54.out)
  have C_60 := Lib.hid (C_52.out.keep S_54.out)
  have B_61 := Lib.hid (then_ B_53.out S_54.out)
  clear K0_47 K1_48 P_49 T_50 M_51 C_52 B_53
  clear S_54
  go_wp2_with fail
  refine (same_self P2 A0 p2 q2 n0 c0 l0 _ T_58.out K0_55.out (by have h1 := T_58.out.len; have h2 := hl9.out; omega)).mono ?_; rintro e w9 ⟨rfl, hb⟩
  have S_62 := Lib.hid hb; clear hb
  have K0_63 := Lib.hid (K0_55.out.keep S_62.out)
  have K1_64 := Lib.hid (K1_56.out.keep S_62.out)
  have P_65 := Lib.hid (P_57.out.keep S_62.out)
  have T_66 := Lib.hid (T_58.out.keep S_62.out)
  have M_67 := Lib.hid (M_59.out.below S_62.out)
  have C_68 := Lib.hid (C_60.out.keep S_62.out)
  have B_69 := Lib.hid (then_ B_61.out S_62.out)
  clear K0_55 K1_56 P_57 T_58 M_59 C_60 B_61
  clear S_62
  go_wp2_with fail
  refine (same_self P3 A0 p3 q3 n0 c0 l0 _ C_68.out K0_63.out (by have h1 := C_68.out.len; have h2 := hl9.out; omega)).mono ?_; rintro e w10 ⟨rfl, hb⟩
  have S_70 := Lib.hid hb; clear hb
  have K0_71 := Lib.hid (K0_63.out.keep S_70.out)
  have K1_72 := Lib.hid (K1_64.out.keep S_70.out)
  have P_73 := Lib.hid (P_65.out.keep S_70.out)
  have T_74 := Lib.hid (T_66.out.keep S_70.out)
  have M_75 := Lib.hid (M_67.out.below S_70.out)
  have C_76 := Lib.hid (C_68.out.keep S_70.out)
  have B_77 := Lib.hid (then_ B_69.out S_70.out)
  clear K0_63 K1_64 P_65 T_66 M_67 C_68 B_69
  clear S_70
  go_wp2_with fail
  refine (live_any _).mono ?_; rintro e w11 ⟨rfl, hb⟩
  have S_78 := Lib.hid hb; clear hb
  have K0_79 := Lib.hid (K0_71.out.keep S_78.out)
  have K1_80 := Lib.hid (K1_72.out.keep S_78.out)
  have P_81 := Lib.hid (P_73.out.keep S_78.out)
  have T_82 := Lib.hid (T_74.out.keep S_78.out)
  have M_83 := Lib.hid (M_75.out.below S_78.out)
  have C_84 := Lib.hid (C_76.out.keep S_78.out)
  have B_85 := Lib.hid (then_ B_77.out S_78.out)
  clear K0_71 K1_72 P_73 T_74 M_75 C_76 B_77
  clear S_78
  go_wp2
  go_ret
  exact ⟨rfl, B_85.out⟩
theorem walk (w : World) (A0 : Option Addr) (n0 c0 : Nat) (l0 : List Msg) (A1 : Option Addr) (n1 c1 : Nat) (l1 : List Msg) (a2 : Int) (k0 : Ms w A0 n0 c0 l0) (k1 : Ms w A1 n1 c1 l1) (w2 : (Lit.int .i64 a2).wf = true) :
    Calls Try.prog 10 #[.slice A0 n0 c0, .slice A1 n1 c1, .int .i64 a2] w fun e w' => e = .returned (.bool true) ∧ Below w.heap.size w w' := by
  cases hf : fewB2 n0 n1 with
  | false => exact no_few w A0 n0 c0 l0 A1 n1 c1 l1 a2 k0 k1 w2 hf
  | true =>
    cases hm : bagB l0 with
    | false => exact no_may w A0 n0 c0 l0 A1 n1 c1 l1 a2 k0 k1 w2 hf hm
    | true =>
      by_cases hd : putE l0 l1 = 0
      · cases hh : hasM l0 a2 with
        | true =>
          by_cases hc : cpE l0 a2 = 0
          · exact fine10 w A0 n0 c0 l0 A1 n1 c1 l1 a2 k0 k1 w2 hf hm hd hh hc
          · exact fine11 w A0 n0 c0 l0 A1 n1 c1 l1 a2 k0 k1 w2 hf hm hd hh hc
        | false =>
          by_cases hn : a2 < 0
          · exact fine12 w A0 n0 c0 l0 A1 n1 c1 l1 a2 k0 k1 w2 hf hm hd hh hn
          · exact fine13 w A0 n0 c0 l0 A1 n1 c1 l1 a2 k0 k1 w2 hf hm hd hh hn
      · cases hh : hasM l0 a2 with
        | true =>
          by_cases hc : cpE l0 a2 = 0
          · exact fine00 w A0 n0 c0 l0 A1 n1 c1 l1 a2 k0 k1 w2 hf hm hd hh hc
          · exact fine01 w A0 n0 c0 l0 A1 n1 c1 l1 a2 k0 k1 w2 hf hm hd hh hc
        | false =>
          by_cases hn : a2 < 0
          · exact fine02 w A0 n0 c0 l0 A1 n1 c1 l1 a2 k0 k1 w2 hf hm hd hh hn
          · exact fine03 w A0 n0 c0 l0 A1 n1 c1 l1 a2 k0 k1 w2 hf hm hd hh hn

theorem own : ownKnob Try.prog.godebug = none := by kernel_rfl
theorem laidOut : laidOutB Try.prog = true := by kernel_rfl

set_option maxRecDepth 100000 in
theorem lifted (os : Os) (started : os.Started) (H : Type) (enc : TypeId × Value → H) :
    ReturnsInHanded {} Try.checked os 10 .any (Rows.bagMaySpec.pre6 enc Try.prog Try.f10 Rows.bagMayRow.domain false) (Rows.bagMaySpec.post enc Try.prog Try.f10 false true false false) := by
  refine returnsInHanded_of_change (C := Try.checked) own started (by kernel_rfl) Try.func10
    (ChangeSpec.witness6 (enc := enc) (C := Try.checked) false ⟨#[], #[.slice none 0 0, .slice none 0 0, (.int .i64 0)], []⟩ 8 (by kernel_rfl) (by kernel_rfl) (by kernel_rfl) (by kernel_rfl)) ?_
  intro W base args ds gs before hval0 hW hcnd _
  have hval : ∀ (j : Nat) t v, Try.f10.params[j]? = some t → args[j]? = some v → Value.okWide Try.prog W .any base t v := hval0
  have hW' := hW
  obtain ⟨p, q, hA0, hV, rfl, hfz, hnd⟩ := hW
  have hA : DataW.TrodAll enc Try.prog W 0 (fun _ => true) true Try.f10.params.toList args.toList ds p := hA0
  rw [Try.params10] at hA hval
  obtain ⟨v0, vs0, d0, ds0, p0, q0, hargs, rfl, rfl, h0, r0⟩ := trodAll_cons hA
  obtain ⟨v1, vs1, d1, ds1, p1, q1, rfl, rfl, rfl, h1, r1⟩ := trodAll_cons r0
  obtain ⟨v2, vs2, d2, ds2, p2, q2, rfl, rfl, rfl, h2, r2⟩ := trodAll_cons r1
  obtain ⟨rfl, rfl, rfl⟩ := trodAll_nil r2
  obtain rfl : args = #[v0, v1, v2] := by cases args; simp_all
  obtain ⟨rfl, rfl⟩ := trodVars_none hV
  obtain ⟨A0, n0, c0, l0, rfl, k0⟩ := open_msgs (hval 0 35 v0 rfl rfl) h0
  obtain ⟨A1, n1, c1, l1, rfl, k1⟩ := open_msgs (hval 1 35 v1 rfl rfl) h1
  obtain ⟨a2, rfl, rfl, rfl, w2⟩ := open_int Try.underlying3 (hval 2 3 v2 rfl rfl) h2
  clear hA0 hval0
  refine (walk W A0 n0 c0 l0 A1 n1 c1 l1 a2 k0 k1 w2).mono fun e W' ⟨he, bel⟩ => ?_
  subst he
  exact ⟨_, rfl, _, _, _, [], _, [], hW', trodAll_mk1 (shut_bool Try.underlying4 _), (trodAll_cons_mk (Below.trod laidOut (by kernel_rfl) (of_decide_eq_true (by kernel_rfl)) h0 bel (fun x hx => hW'.lt x (by simp [hx]))) (trodAll_cons_mk (Below.trod laidOut (by kernel_rfl) (of_decide_eq_true (by kernel_rfl)) h1 bel (fun x hx => hW'.lt x (by simp [hx]))) (trodAll_cons_mk (shut_int Try.underlying3 w2) trodAll_mk0))), rfl, bel.frame _, fun h => by cases h⟩

theorem over : Rows.bagMayRow.holds Try.pinned (OpenSpec.ofChange Rows.bagMaySpec) :=
  OpenClaim.holds_of_wide 10 Try.f10 rfl rfl rfl rfl rfl rfl rfl ⟨rfl, rfl, rfl, rfl, rfl⟩ rfl rfl rfl rfl rfl (by kernel_rfl) Try.func10 (by kernel_rfl)
    (of_decide_eq_true (by kernel_rfl)) (by unfold Func.isWrapper; first | (rw [if_pos (by decide +kernel)]; kernel_rfl) | (rw [if_neg (by decide +kernel)]; exact ⟨rfl, rfl⟩))
    (fun os started H enc _ => lifted os started H enc)

theorem proved : Rows.BagMaySaid := over
#print axioms proved
end Go.Proofs.Ytdmhpnobdflkfaa.bagMay
