/- For every store that may be and every deed the law TxnDoes answers true: Do answers what the document asks, events, errors and all. No condition. -/
import Derived.Test.YtlffhehpeeiogaaTxLive
import Derived.Test.YtlffhehpeeiogaaTxShort
import Derived.Test.YtlffhehpeeiogaaTxOpen
import Derived.Test.YtlffhehpeeiogaaTxDoR
import Derived.Test.YtlffhehpeeiogaaMvRefMay
import Derived.Test.YtlffhehpeeiogaaRows
namespace Go.Proofs.Ytlffhehpeeiogaa.txnDoes
open Go.ChangeShapes Go.WideShapes Go.ChangeAt Go.RowKit Go.Proofs.Ytlffhehpeeiogaa.P
open Go.ChangeMaps (open_string shut_string)
set_option linter.unusedVariables false
set_option linter.unusedSimpArgs false
set_option maxHeartbeats 2000000
set_option maxRecDepth 100000

theorem ev_len {s : St} (h : MaySt s) (ms : List Mu) : (applyEv s ms).length ≤ 1000 := by
  unfold applyEv
  split
  · rename_i ha
    have := (applied_iff ha).2.2.2
    omega
  · simp
theorem dov_len {s : St} (h : MaySt s) (t : Tx) : (doV s t).length ≤ 1000 := by
  unfold doV
  split
  · exact ev_len h _
  · simp
theorem no_few (w : World) (s0 : St) (A0 : Option Addr) (n0 c0 : Nat) (B0 : Option Addr) (m0 d0 : Nat) (t1 : Tx) (A1 : Option Addr) (n1 c1 : Nat) (B1 : Option Addr) (m1 d1 : Nat) (C1 : Option Addr) (o1 e1 : Nat) (k0 : StAt w s0 A0 n0 c0 B0 m0 d0) (k1 : TxAt w t1 A1 n1 c1 B1 m1 d1 C1 o1 e1) (hf : fewS s0 = false) :
    Calls Try.prog 10 #[s0.agg A0 n0 c0 B0 m0 d0, t1.agg A1 n1 c1 B1 m1 d1 C1 o1 e1] w fun e w' => e = .returned (.bool true) ∧ Below w.heap.size w w' := by
  have HF := Lib.hid hf; clear hf
  have bb := then_ (new1 w (.cells (stCells s0 A0 n0 c0 B0 m0 d0) 25)) (new1 _ (.cells (txCells A1 n1 c1 B1 m1 d1 C1 o1 e1) 57))
  have K_0 := Lib.hid (k0.keep bb)
  have G_0 := Lib.hid (k1.keep bb)
  have X_0 := Lib.hid ((own_new w (stCells s0 A0 n0 c0 B0 m0 d0) 25).alloc (.cells (txCells A1 n1 c1 B1 m1 d1 C1 o1 e1) 57))
  have T_0 := Lib.hid (own_new2 w (.cells (stCells s0 A0 n0 c0 B0 m0 d0) 25) (txCells A1 n1 c1 B1 m1 d1 C1 o1 e1) 57)
  have B_0 := Lib.hid bb
  clear bb k0 k1
  go_enter Try.func10, Try.ntmps10
  have x0 := X_0.out.cell 0 _ rfl
  have x1 := X_0.out.cell 1 _ rfl
  have x2 := X_0.out.cell 2 _ rfl
  have x3 := X_0.out.cell 3 _ rfl
  go_wp2_with fail
  refine (few_st s0 A0 n0 c0 B0 m0 d0 _ K_0.out).mono ?_; rintro e w1 ⟨rfl, hb⟩
  rw [HF.out]
  have S_1 := Lib.hid hb; clear hb
  have K_2 := Lib.hid (K_0.out.keep S_1.out)
  have G_3 := Lib.hid (G_0.out.keep S_1.out)
  have X_4 := Lib.hid (X_0.out.below S_1.out)
  have T_5 := Lib.hid (T_0.out.below S_1.out)
  have B_6 := Lib.hid (then_ B_0.out S_1.out)
  clear K_0 G_0 X_0 T_0 B_0
  clear S_1
  clear x0 x1 x2 x3
  go_wp2_with fail
  refine (live_any _).mono ?_; rintro e w2 ⟨rfl, hb⟩
  have S_7 := Lib.hid hb; clear hb
  have K_8 := Lib.hid (K_2.out.keep S_7.out)
  have G_9 := Lib.hid (G_3.out.keep S_7.out)
  have X_10 := Lib.hid (X_4.out.below S_7.out)
  have T_11 := Lib.hid (T_5.out.below S_7.out)
  have B_12 := Lib.hid (then_ B_6.out S_7.out)
  clear K_2 G_3 X_4 T_5 B_6
  clear S_7
  go_wp2
  go_ret
  exact ⟨rfl, B_12.out⟩
theorem no_may (w : World) (s0 : St) (A0 : Option Addr) (n0 c0 : Nat) (B0 : Option Addr) (m0 d0 : Nat) (t1 : Tx) (A1 : Option Addr) (n1 c1 : Nat) (B1 : Option Addr) (m1 d1 : Nat) (C1 : Option Addr) (o1 e1 : Nat) (k0 : StAt w s0 A0 n0 c0 B0 m0 d0) (k1 : TxAt w t1 A1 n1 c1 B1 m1 d1 C1 o1 e1) (hf : fewS s0 = true) (hm : mayB s0 = false) :
    Calls Try.prog 10 #[s0.agg A0 n0 c0 B0 m0 d0, t1.agg A1 n1 c1 B1 m1 d1 C1 o1 e1] w fun e w' => e = .returned (.bool true) ∧ Below w.heap.size w w' := by
  have HF := Lib.hid hf; clear hf
  have HM := Lib.hid hm; clear hm
  have hb0 := k0.kv.len; have hb1 := k0.ev.len
  have hn : n0 ≤ 40 ∧ m0 ≤ 70 := by have hf := HF.out; unfold fewS fewB fewE at hf; simp only [Bool.and_eq_true, decide_eq_true_eq] at hf; omega
  clear hb0 hb1
  have bb := then_ (new1 w (.cells (stCells s0 A0 n0 c0 B0 m0 d0) 25)) (new1 _ (.cells (txCells A1 n1 c1 B1 m1 d1 C1 o1 e1) 57))
  have K_0 := Lib.hid (k0.keep bb)
  have G_0 := Lib.hid (k1.keep bb)
  have X_0 := Lib.hid ((own_new w (stCells s0 A0 n0 c0 B0 m0 d0) 25).alloc (.cells (txCells A1 n1 c1 B1 m1 d1 C1 o1 e1) 57))
  have T_0 := Lib.hid (own_new2 w (.cells (stCells s0 A0 n0 c0 B0 m0 d0) 25) (txCells A1 n1 c1 B1 m1 d1 C1 o1 e1) 57)
  have B_0 := Lib.hid bb
  clear bb k0 k1
  go_enter Try.func10, Try.ntmps10
  have x0 := X_0.out.cell 0 _ rfl
  have x1 := X_0.out.cell 1 _ rfl
  have x2 := X_0.out.cell 2 _ rfl
  have x3 := X_0.out.cell 3 _ rfl
  go_wp2_with fail
  refine (few_st s0 A0 n0 c0 B0 m0 d0 _ K_0.out).mono ?_; rintro e w1 ⟨rfl, hb⟩
  rw [HF.out]
  have S_1 := Lib.hid hb; clear hb
  have K_2 := Lib.hid (K_0.out.keep S_1.out)
  have G_3 := Lib.hid (G_0.out.keep S_1.out)
  have X_4 := Lib.hid (X_0.out.below S_1.out)
  have T_5 := Lib.hid (T_0.out.below S_1.out)
  have B_6 := Lib.hid (then_ B_0.out S_1.out)
  clear K_0 G_0 X_0 T_0 B_0
  clear S_1
  clear x0 x1 x2 x3
  have x0 := X_4.out.cell 0 _ rfl
  have x1 := X_4.out.cell 1 _ rfl
  have x2 := X_4.out.cell 2 _ rfl
  have x3 := X_4.out.cell 3 _ rfl
  go_wp2_with fail
  refine (mvmay_ref s0 A0 n0 c0 B0 m0 d0 _ K_2.out (by omega)).mono ?_; rintro e w2 ⟨rfl, hb⟩
  rw [HM.out]
  have S_7 := Lib.hid hb; clear hb
  have K_8 := Lib.hid (K_2.out.keep S_7.out)
  have G_9 := Lib.hid (G_3.out.keep S_7.out)
  have X_10 := Lib.hid (X_4.out.below S_7.out)
  have T_11 := Lib.hid (T_5.out.below S_7.out)
  have B_12 := Lib.hid (then_ B_6.out S_7.out)
  clear K_2 G_3 X_4 T_5 B_6
  clear S_7
  clear x0 x1 x2 x3
  go_wp2_with fail
  refine (live_any _).mono ?_; rintro e w3 ⟨rfl, hb⟩
  have S_13 := Lib.hid hb; clear hb
  have K_14 := Lib.hid (K_8.out.keep S_13.out)
  have G_15 := Lib.hid (G_9.out.keep S_13.out)
  have X_16 := Lib.hid (X_10.out.below S_13.out)
  have T_17 := Lib.hid (T_11.out.below S_13.out)
  have B_18 := Lib.hid (then_ B_12.out S_13.out)
  clear K_8 G_9 X_10 T_11 B_12
  clear S_13
  go_wp2
  go_ret
  exact ⟨rfl, B_18.out⟩
theorem fine (w : World) (s0 : St) (A0 : Option Addr) (n0 c0 : Nat) (B0 : Option Addr) (m0 d0 : Nat) (t1 : Tx) (A1 : Option Addr) (n1 c1 : Nat) (B1 : Option Addr) (m1 d1 : Nat) (C1 : Option Addr) (o1 e1 : Nat) (k0 : StAt w s0 A0 n0 c0 B0 m0 d0) (k1 : TxAt w t1 A1 n1 c1 B1 m1 d1 C1 o1 e1) (hf : fewS s0 = true) (hm : mayB s0 = true) :
    Calls Try.prog 10 #[s0.agg A0 n0 c0 B0 m0 d0, t1.agg A1 n1 c1 B1 m1 d1 C1 o1 e1] w fun e w' => e = .returned (.bool true) ∧ Below w.heap.size w w' := by
  have HF := Lib.hid hf; have HM := Lib.hid hm; have MS := Lib.hid (may_st.1 hm)
  have hb0 := k0.kv.len; have hb1 := k0.ev.len; have hb2 := MS.out.good.len; have hb3 := MS.out.len
  have hn : n0 ≤ 90000 ∧ m0 ≤ 90000 := by omega
  have MA := Lib.hid (do_may MS.out t1)
  have ha2 := MA.out.good.len; have ha3 := MA.out.len
  have EL : Hid ((doV s0 t1).length ≤ 1000) := Lib.hid (dov_len MS.out _)
  have e5 : (doY s0 t1 == doY s0 t1) = true := by simp
  have e6 : (doE s0 t1 == doE s0 t1) = true := by simp
  clear hf hm hb0 hb1 hb2 hb3
  have bb := then_ (new1 w (.cells (stCells s0 A0 n0 c0 B0 m0 d0) 25)) (new1 _ (.cells (txCells A1 n1 c1 B1 m1 d1 C1 o1 e1) 57))
  have K_0 := Lib.hid (k0.keep bb)
  have G_0 := Lib.hid (k1.keep bb)
  have X_0 := Lib.hid ((own_new w (stCells s0 A0 n0 c0 B0 m0 d0) 25).alloc (.cells (txCells A1 n1 c1 B1 m1 d1 C1 o1 e1) 57))
  have T_0 := Lib.hid (own_new2 w (.cells (stCells s0 A0 n0 c0 B0 m0 d0) 25) (txCells A1 n1 c1 B1 m1 d1 C1 o1 e1) 57)
  have B_0 := Lib.hid bb
  clear bb k0 k1
  go_enter Try.func10, Try.ntmps10
  have x0 := X_0.out.cell 0 _ rfl
  have x1 := X_0.out.cell 1 _ rfl
  have x2 := X_0.out.cell 2 _ rfl
  have x3 := X_0.out.cell 3 _ rfl
  go_wp2_with fail
  refine (few_st s0 A0 n0 c0 B0 m0 d0 _ K_0.out).mono ?_; rintro e w1 ⟨rfl, hb⟩
  rw [HF.out]
  have S_1 := Lib.hid hb; clear hb
  have K_2 := Lib.hid (K_0.out.keep S_1.out)
  have G_3 := Lib.hid (G_0.out.keep S_1.out)
  have X_4 := Lib.hid (X_0.out.below S_1.out)
  have T_5 := Lib.hid (T_0.out.below S_1.out)
  have B_6 := Lib.hid (then_ B_0.out S_1.out)
  clear K_0 G_0 X_0 T_0 B_0
  clear S_1
  clear x0 x1 x2 x3
  have x0 := X_4.out.cell 0 _ rfl
  have x1 := X_4.out.cell 1 _ rfl
  have x2 := X_4.out.cell 2 _ rfl
  have x3 := X_4.out.cell 3 _ rfl
  go_wp2_with fail
  refine (mvmay_ref s0 A0 n0 c0 B0 m0 d0 _ K_2.out (by omega)).mono ?_; rintro e w2 ⟨rfl, hb⟩
  rw [HM.out]
  have S_7 := Lib.hid hb; clear hb
  have K_8 := Lib.hid (K_2.out.keep S_7.out)
  have G_9 := Lib.hid (G_3.out.keep S_7.out)
  have X_10 := Lib.hid (X_4.out.below S_7.out)
  have T_11 := Lib.hid (T_5.out.below S_7.out)
  have B_12 := Lib.hid (then_ B_6.out S_7.out)
  clear K_2 G_3 X_4 T_5 B_6
  clear S_7
  clear x0 x1 x2 x3
  have tc0 := T_11.out.cell 0 _ rfl
  have tc1 := T_11.out.cell 1 _ rfl
  have tc2 := T_11.out.cell 2 _ rfl
  go_wp2_with fail
  refine (rshort_any t1 A1 n1 c1 B1 m1 d1 C1 o1 e1 _ G_9.out).mono ?_; rintro e w3 ⟨⟨b, rfl⟩, hb⟩
  have S_13 := Lib.hid hb; clear hb
  have K_14 := Lib.hid (K_8.out.keep S_13.out)
  have G_15 := Lib.hid (G_9.out.keep S_13.out)
  have X_16 := Lib.hid (X_10.out.below S_13.out)
  have T_17 := Lib.hid (T_11.out.below S_13.out)
  have B_18 := Lib.hid (then_ B_12.out S_13.out)
  clear K_8 G_9 X_10 T_11 B_12
  clear S_13
  clear tc0 tc1 tc2
  cases b with
  | false =>
    go_wp2_with fail
    refine (live_any _).mono ?_; rintro e w4 ⟨rfl, hb⟩
    have S_19 := Lib.hid hb; clear hb
    have K_20 := Lib.hid (K_14.out.keep S_19.out)
    have G_21 := Lib.hid (G_15.out.keep S_19.out)
    have X_22 := Lib.hid (X_16.out.below S_19.out)
    have T_23 := Lib.hid (T_17.out.below S_19.out)
    have B_24 := Lib.hid (then_ B_18.out S_19.out)
    clear K_14 G_15 X_16 T_17 B_18
    clear S_19
    go_wp2
    go_ret
    exact ⟨rfl, B_24.out⟩
  | true =>
    have x0 := X_16.out.cell 0 _ rfl
    have x1 := X_16.out.cell 1 _ rfl
    have x2 := X_16.out.cell 2 _ rfl
    have x3 := X_16.out.cell 3 _ rfl
    have tc0 := T_17.out.cell 0 _ rfl
    have tc1 := T_17.out.cell 1 _ rfl
    have tc2 := T_17.out.cell 2 _ rfl
    go_wp2_with fail
    refine (do_any s0 A0 n0 c0 B0 m0 d0 t1 A1 n1 c1 B1 m1 d1 C1 o1 e1 _ K_14.out G_15.out MS.out).mono ?_; rintro e w4 ⟨P1, p1, q1, Q1, u1, v1, E1, en1, ec1, rfl, h1, g1, hb⟩
    have S_25 := Lib.hid hb; clear hb
    have K_26 := Lib.hid (K_14.out.keep S_25.out)
    have G_27 := Lib.hid (G_15.out.keep S_25.out)
    have X_28 := Lib.hid (X_16.out.below S_25.out)
    have T_29 := Lib.hid (T_17.out.below S_25.out)
    have B_30 := Lib.hid (then_ B_18.out S_25.out)
    clear K_14 G_15 X_16 T_17 B_18
    clear S_25
    clear x0 x1 x2 x3
    clear tc0 tc1 tc2
    have L1_31 := Lib.hid (h1)
    have V1_32 := Lib.hid (g1)
    clear h1 g1
    have K_33 := Lib.hid (K_26.out.keep (new1 w4 (.cells (#[.int .i64 (doS s0 t1).rev, .int .i64 (doS s0 t1).low, .slice P1 p1 q1, .slice Q1 u1 v1]) 25)))
    have G_34 := Lib.hid (G_27.out.keep (new1 w4 (.cells (#[.int .i64 (doS s0 t1).rev, .int .i64 (doS s0 t1).low, .slice P1 p1 q1, .slice Q1 u1 v1]) 25)))
    have X_35 := Lib.hid (X_28.out.below (new1 w4 (.cells (#[.int .i64 (doS s0 t1).rev, .int .i64 (doS s0 t1).low, .slice P1 p1 q1, .slice Q1 u1 v1]) 25)))
    have T_36 := Lib.hid (T_29.out.below (new1 w4 (.cells (#[.int .i64 (doS s0 t1).rev, .int .i64 (doS s0 t1).low, .slice P1 p1 q1, .slice Q1 u1 v1]) 25)))
    have L1_37 := Lib.hid (L1_31.out.keep (new1 w4 (.cells (#[.int .i64 (doS s0 t1).rev, .int .i64 (doS s0 t1).low, .slice P1 p1 q1, .slice Q1 u1 v1]) 25)))
    have V1_38 := Lib.hid (V1_32.out.keep (new1 w4 (.cells (#[.int .i64 (doS s0 t1).rev, .int .i64 (doS s0 t1).low, .slice P1 p1 q1, .slice Q1 u1 v1]) 25)))
    have B_39 := Lib.hid (then_ B_30.out (new1 w4 (.cells (#[.int .i64 (doS s0 t1).rev, .int .i64 (doS s0 t1).low, .slice P1 p1 q1, .slice Q1 u1 v1]) 25)))
    clear K_26 G_27 X_28 T_29 L1_31 V1_32 B_30
    have R1_40 := Lib.hid (own_new w4 (#[.int .i64 (doS s0 t1).rev, .int .i64 (doS s0 t1).low, .slice P1 p1 q1, .slice Q1 u1 v1]) 25)
    have x0 := X_35.out.cell 0 _ rfl
    have x1 := X_35.out.cell 1 _ rfl
    have x2 := X_35.out.cell 2 _ rfl
    have x3 := X_35.out.cell 3 _ rfl
    have tc0 := T_36.out.cell 0 _ rfl
    have tc1 := T_36.out.cell 1 _ rfl
    have tc2 := T_36.out.cell 2 _ rfl
    go_wp2_with fail
    refine (dor_any s0 A0 n0 c0 B0 m0 d0 t1 A1 n1 c1 B1 m1 d1 C1 o1 e1 _ K_33.out G_34.out MS.out).mono ?_; rintro e w5 ⟨P2, p2, q2, Q2, u2, v2, E2, en2, ec2, rfl, h2, g2, hb⟩
    have S_41 := Lib.hid hb; clear hb
    have K_42 := Lib.hid (K_33.out.keep S_41.out)
    have G_43 := Lib.hid (G_34.out.keep S_41.out)
    have X_44 := Lib.hid (X_35.out.below S_41.out)
    have T_45 := Lib.hid (T_36.out.below S_41.out)
    have L1_46 := Lib.hid (L1_37.out.keep S_41.out)
    have V1_47 := Lib.hid (V1_38.out.keep S_41.out)
    have R1_48 := Lib.hid (R1_40.out.below S_41.out)
    have B_49 := Lib.hid (then_ B_39.out S_41.out)
    clear K_33 G_34 X_35 T_36 L1_37 V1_38 R1_40 B_39
    clear S_41
    clear x0 x1 x2 x3
    clear tc0 tc1 tc2
    have L2_50 := Lib.hid (h2)
    have V2_51 := Lib.hid (g2)
    clear h2 g2
    have K_52 := Lib.hid (K_42.out.keep (new1 w5 (.cells (#[.int .i64 (doS s0 t1).rev, .int .i64 (doS s0 t1).low, .slice P2 p2 q2, .slice Q2 u2 v2]) 25)))
    have G_53 := Lib.hid (G_43.out.keep (new1 w5 (.cells (#[.int .i64 (doS s0 t1).rev, .int .i64 (doS s0 t1).low, .slice P2 p2 q2, .slice Q2 u2 v2]) 25)))
    have X_54 := Lib.hid (X_44.out.below (new1 w5 (.cells (#[.int .i64 (doS s0 t1).rev, .int .i64 (doS s0 t1).low, .slice P2 p2 q2, .slice Q2 u2 v2]) 25)))
    have T_55 := Lib.hid (T_45.out.below (new1 w5 (.cells (#[.int .i64 (doS s0 t1).rev, .int .i64 (doS s0 t1).low, .slice P2 p2 q2, .slice Q2 u2 v2]) 25)))
    have L1_56 := Lib.hid (L1_46.out.keep (new1 w5 (.cells (#[.int .i64 (doS s0 t1).rev, .int .i64 (doS s0 t1).low, .slice P2 p2 q2, .slice Q2 u2 v2]) 25)))
    have V1_57 := Lib.hid (V1_47.out.keep (new1 w5 (.cells (#[.int .i64 (doS s0 t1).rev, .int .i64 (doS s0 t1).low, .slice P2 p2 q2, .slice Q2 u2 v2]) 25)))
    have R1_58 := Lib.hid (R1_48.out.below (new1 w5 (.cells (#[.int .i64 (doS s0 t1).rev, .int .i64 (doS s0 t1).low, .slice P2 p2 q2, .slice Q2 u2 v2]) 25)))
    have L2_59 := Lib.hid (L2_50.out.keep (new1 w5 (.cells (#[.int .i64 (doS s0 t1).rev, .int .i64 (doS s0 t1).low, .slice P2 p2 q2, .slice Q2 u2 v2]) 25)))
    have V2_60 := Lib.hid (V2_51.out.keep (new1 w5 (.cells (#[.int .i64 (doS s0 t1).rev, .int .i64 (doS s0 t1).low, .slice P2 p2 q2, .slice Q2 u2 v2]) 25)))
    have B_61 := Lib.hid (then_ B_49.out (new1 w5 (.cells (#[.int .i64 (doS s0 t1).rev, .int .i64 (doS s0 t1).low, .slice P2 p2 q2, .slice Q2 u2 v2]) 25)))
    clear K_42 G_43 X_44 T_45 L1_46 V1_47 R1_48 L2_50 V2_51 B_49
    have R2_62 := Lib.hid (own_new w5 (#[.int .i64 (doS s0 t1).rev, .int .i64 (doS s0 t1).low, .slice P2 p2 q2, .slice Q2 u2 v2]) 25)
    obtain rfl : p1 = p2 := L1_56.out.kv.len.symm.trans L2_59.out.kv.len
    obtain rfl : u1 = u2 := L1_56.out.ev.len.symm.trans L2_59.out.ev.len
    obtain rfl : en1 = en2 := V1_57.out.len.symm.trans V2_60.out.len
    have hp1 := L1_56.out.kv.len; have hp2 := L1_56.out.ev.len; have hp5 := V1_57.out.len
    have HP : Hid (p1 ≤ 1000000 ∧ u1 ≤ 1000000 ∧ en1 ≤ 1000000) := Lib.hid (by have h2 := EL.out; omega)
    clear hp1 hp2 hp5 ha2 ha3
    have x0 := R1_58.out.cell 0 _ rfl
    have x1 := R1_58.out.cell 1 _ rfl
    have x2 := R1_58.out.cell 2 _ rfl
    have x3 := R1_58.out.cell 3 _ rfl
    have y0 := R2_62.out.cell 0 _ rfl
    have y1 := R2_62.out.cell 1 _ rfl
    have y2 := R2_62.out.cell 2 _ rfl
    have y3 := R2_62.out.cell 3 _ rfl
    go_wp2_with fail
    refine (st_same (doS s0 t1) P1 P2 p1 q1 q2 Q1 Q2 u1 v1 v2 _ L1_56.out L2_59.out HP.out.1 HP.out.2.1).mono ?_; rintro e w6 ⟨rfl, hb⟩
    have S_63 := Lib.hid hb; clear hb
    have K_64 := Lib.hid (K_52.out.keep S_63.out)
    have G_65 := Lib.hid (G_53.out.keep S_63.out)
    have X_66 := Lib.hid (X_54.out.below S_63.out)
    have T_67 := Lib.hid (T_55.out.below S_63.out)
    have L1_68 := Lib.hid (L1_56.out.keep S_63.out)
    have V1_69 := Lib.hid (V1_57.out.keep S_63.out)
    have R1_70 := Lib.hid (R1_58.out.below S_63.out)
    have L2_71 := Lib.hid (L2_59.out.keep S_63.out)
    have V2_72 := Lib.hid (V2_60.out.keep S_63.out)
    have R2_73 := Lib.hid (R2_62.out.below S_63.out)
    have B_74 := Lib.hid (then_ B_61.out S_63.out)
    clear K_52 G_53 X_54 T_55 L1_56 V1_57 R1_58 L2_59 V2_60 R2_62 B_61
    clear S_63
    clear x0 x1 x2 x3
    clear y0 y1 y2 y3
    go_wp2_with fail
    refine (evs_same E1 E2 en1 ec1 ec2 (doV s0 t1) _ V1_69.out V2_72.out HP.out.2.2).mono ?_; rintro e w7 ⟨rfl, hb⟩
    have S_75 := Lib.hid hb; clear hb
    have K_76 := Lib.hid (K_64.out.keep S_75.out)
    have G_77 := Lib.hid (G_65.out.keep S_75.out)
    have X_78 := Lib.hid (X_66.out.below S_75.out)
    have T_79 := Lib.hid (T_67.out.below S_75.out)
    have L1_80 := Lib.hid (L1_68.out.keep S_75.out)
    have V1_81 := Lib.hid (V1_69.out.keep S_75.out)
    have R1_82 := Lib.hid (R1_70.out.below S_75.out)
    have L2_83 := Lib.hid (L2_71.out.keep S_75.out)
    have V2_84 := Lib.hid (V2_72.out.keep S_75.out)
    have R2_85 := Lib.hid (R2_73.out.below S_75.out)
    have B_86 := Lib.hid (then_ B_74.out S_75.out)
    clear K_64 G_65 X_66 T_67 L1_68 V1_69 R1_70 L2_71 V2_72 R2_73 B_74
    clear S_75
    go_wp2_with fail
    refine (live_any _).mono ?_; rintro e w8 ⟨rfl, hb⟩
    have S_87 := Lib.hid hb; clear hb
    have K_88 := Lib.hid (K_76.out.keep S_87.out)
    have G_89 := Lib.hid (G_77.out.keep S_87.out)
    have X_90 := Lib.hid (X_78.out.below S_87.out)
    have T_91 := Lib.hid (T_79.out.below S_87.out)
    have L1_92 := Lib.hid (L1_80.out.keep S_87.out)
    have V1_93 := Lib.hid (V1_81.out.keep S_87.out)
    have R1_94 := Lib.hid (R1_82.out.below S_87.out)
    have L2_95 := Lib.hid (L2_83.out.keep S_87.out)
    have V2_96 := Lib.hid (V2_84.out.keep S_87.out)
    have R2_97 := Lib.hid (R2_85.out.below S_87.out)
    have B_98 := Lib.hid (then_ B_86.out S_87.out)
    clear K_76 G_77 X_78 T_79 L1_80 V1_81 R1_82 L2_83 V2_84 R2_85 B_86
    clear S_87
    go_wp2
    go_ret
    exact ⟨rfl, B_98.out⟩
theorem walk (w : World) (s0 : St) (A0 : Option Addr) (n0 c0 : Nat) (B0 : Option Addr) (m0 d0 : Nat) (t1 : Tx) (A1 : Option Addr) (n1 c1 : Nat) (B1 : Option Addr) (m1 d1 : Nat) (C1 : Option Addr) (o1 e1 : Nat) (k0 : StAt w s0 A0 n0 c0 B0 m0 d0) (k1 : TxAt w t1 A1 n1 c1 B1 m1 d1 C1 o1 e1) :
    Calls Try.prog 10 #[s0.agg A0 n0 c0 B0 m0 d0, t1.agg A1 n1 c1 B1 m1 d1 C1 o1 e1] w fun e w' => e = .returned (.bool true) ∧ Below w.heap.size w w' := by
  cases hf : fewS s0 with
  | false => exact no_few w s0 A0 n0 c0 B0 m0 d0 t1 A1 n1 c1 B1 m1 d1 C1 o1 e1 k0 k1 hf
  | true =>
    cases hm : mayB s0 with
    | false => exact no_may w s0 A0 n0 c0 B0 m0 d0 t1 A1 n1 c1 B1 m1 d1 C1 o1 e1 k0 k1 hf hm
    | true => exact fine w s0 A0 n0 c0 B0 m0 d0 t1 A1 n1 c1 B1 m1 d1 C1 o1 e1 k0 k1 hf hm

theorem own : ownKnob Try.prog.godebug = none := by kernel_rfl
theorem laidOut : laidOutB Try.prog = true := by kernel_rfl

set_option maxRecDepth 100000 in
theorem lifted (os : Os) (started : os.Started) (H : Type) (enc : TypeId × Value → H) :
    ReturnsInHanded {} Try.checked os 10 .any (Rows.txnDoesSpec.pre6 enc Try.prog Try.f10 Rows.txnDoesRow.domain false) (Rows.txnDoesSpec.post enc Try.prog Try.f10 false true false false) := by
  refine returnsInHanded_of_change (C := Try.checked) own started (by kernel_rfl) Try.func10
    (ChangeSpec.witness6 (enc := enc) (C := Try.checked) false ⟨#[], #[.agg #[.int .i64 0, .int .i64 0, .slice none 0 0, .slice none 0 0], .agg #[.slice none 0 0, .slice none 0 0, .slice none 0 0]], []⟩ 8 (by kernel_rfl) (by kernel_rfl) (by kernel_rfl) (by kernel_rfl)) ?_
  intro W base args ds gs before hval0 hW hcnd _
  have hval : ∀ (j : Nat) t v, Try.f10.params[j]? = some t → args[j]? = some v → Value.okWide Try.prog W .any base t v := hval0
  have hW' := hW
  obtain ⟨p, q, hA0, hV, rfl, hfz, hnd⟩ := hW
  have hA : DataW.TrodAll enc Try.prog W 0 (fun _ => true) true Try.f10.params.toList args.toList ds p := hA0
  rw [Try.params10] at hA hval
  obtain ⟨v0, vs0, d0, ds0, p0, q0, hargs, rfl, rfl, h0, r0⟩ := trodAll_cons hA
  obtain ⟨v1, vs1, d1, ds1, p1, q1, rfl, rfl, rfl, h1, r1⟩ := trodAll_cons r0
  obtain ⟨rfl, rfl, rfl⟩ := trodAll_nil r1
  obtain rfl : args = #[v0, v1] := by cases args; simp_all
  obtain ⟨rfl, rfl⟩ := trodVars_none hV
  obtain ⟨s0, A0, n0, c0, B0, m0, d0, rfl, k0⟩ := open_st (hval 0 25 v0 rfl rfl) h0
  obtain ⟨t1, A1, n1, c1, B1, m1, d1, C1, o1, e1, rfl, k1⟩ := open_tx (hval 1 57 v1 rfl rfl) h1
  clear hA0 hval0
  refine (walk W s0 A0 n0 c0 B0 m0 d0 t1 A1 n1 c1 B1 m1 d1 C1 o1 e1 k0 k1).mono fun e W' ⟨he, bel⟩ => ?_
  subst he
  exact ⟨_, rfl, _, _, _, [], _, [], hW', trodAll_mk1 (shut_bool Try.underlying4 _), (trodAll_cons_mk (Below.trod laidOut (by kernel_rfl) (of_decide_eq_true (by kernel_rfl)) h0 bel (fun x hx => hW'.lt x (by simp [hx]))) (trodAll_cons_mk (Below.trod laidOut (by kernel_rfl) (of_decide_eq_true (by kernel_rfl)) h1 bel (fun x hx => hW'.lt x (by simp [hx]))) trodAll_mk0)), rfl, bel.frame _, fun h => by cases h⟩

theorem over : Rows.txnDoesRow.holds Try.pinned (OpenSpec.ofChange Rows.txnDoesSpec) :=
  OpenClaim.holds_of_wide 10 Try.f10 rfl rfl rfl rfl rfl rfl rfl ⟨rfl, rfl, rfl, rfl, rfl⟩ rfl rfl rfl rfl rfl (by kernel_rfl) Try.func10 (by kernel_rfl)
    (of_decide_eq_true (by kernel_rfl)) (by unfold Func.isWrapper; first | (rw [if_pos (by decide +kernel)]; kernel_rfl) | (rw [if_neg (by decide +kernel)]; exact ⟨rfl, rfl⟩))
    (fun os started H enc _ => lifted os started H enc)

theorem proved : Rows.TxnDoesSaid := over
#print axioms proved
end Go.Proofs.Ytlffhehpeeiogaa.txnDoes
