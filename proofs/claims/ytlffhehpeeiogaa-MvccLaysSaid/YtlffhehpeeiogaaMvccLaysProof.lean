/- For every store and every list of things to be done the law MvccLays answers true: what was laid is there as it was asked, of this revision; what was taken away is not; all else is as it was. No condition. -/
import Derived.Test.YtlffhehpeeiogaaMvLaysPure
import Derived.Test.YtlffhehpeeiogaaMvOpen
import Derived.Test.YtlffhehpeeiogaaRows
namespace Go.Proofs.Ytlffhehpeeiogaa.mvccLays
open Go.ChangeShapes Go.WideShapes Go.ChangeAt Go.RowKit Go.Proofs.Ytlffhehpeeiogaa.P
open Go.ChangeMaps (open_string shut_string)
set_option linter.unusedVariables false
set_option linter.unusedSimpArgs false
set_option maxHeartbeats 2000000
set_option maxRecDepth 100000

theorem no_few (w : World) (s0 : St) (A0 : Option Addr) (n0 c0 : Nat) (B0 : Option Addr) (m0 d0 : Nat) (A1 : Option Addr) (n1 c1 : Nat) (l1 : List Mu) (k0 : StAt w s0 A0 n0 c0 B0 m0 d0) (k1 : Mus w A1 n1 c1 l1) (hf : fewS s0 = false) :
    Calls Try.prog 7 #[s0.agg A0 n0 c0 B0 m0 d0, .slice A1 n1 c1] w fun e w' => e = .returned (.bool true) ∧ Below w.heap.size w w' := by
  have HF := Lib.hid hf; clear hf
  have K_0 := Lib.hid (k0.keep (new1 w (.cells (stCells s0 A0 n0 c0 B0 m0 d0) 25)))
  have X_0 := Lib.hid (own_new w (stCells s0 A0 n0 c0 B0 m0 d0) 25)
  have M_0 := Lib.hid (k1.keep (new1 w (.cells (stCells s0 A0 n0 c0 B0 m0 d0) 25)))
  have B_0 := Lib.hid (new1 w (.cells (stCells s0 A0 n0 c0 B0 m0 d0) 25))
  clear k0 k1
  go_enter Try.func7, Try.ntmps7
  have x0 := X_0.out.cell 0 _ rfl
  have x1 := X_0.out.cell 1 _ rfl
  have x2 := X_0.out.cell 2 _ rfl
  have x3 := X_0.out.cell 3 _ rfl
  go_wp2_with fail
  refine (few_st s0 A0 n0 c0 B0 m0 d0 _ K_0.out).mono ?_; rintro e w1 ⟨rfl, hb⟩
  rw [HF.out]
  have S_1 := Lib.hid hb; clear hb
  have K_2 := Lib.hid (K_0.out.keep S_1.out)
  have X_3 := Lib.hid (X_0.out.below S_1.out)
  have M_4 := Lib.hid (M_0.out.keep S_1.out)
  have B_5 := Lib.hid (then_ B_0.out S_1.out)
  clear K_0 X_0 M_0 B_0
  clear S_1
  clear x0 x1 x2 x3
  go_wp2_with fail
  refine (live_any _).mono ?_; rintro e w2 ⟨rfl, hb⟩
  have S_6 := Lib.hid hb; clear hb
  have K_7 := Lib.hid (K_2.out.keep S_6.out)
  have X_8 := Lib.hid (X_3.out.below S_6.out)
  have M_9 := Lib.hid (M_4.out.keep S_6.out)
  have B_10 := Lib.hid (then_ B_5.out S_6.out)
  clear K_2 X_3 M_4 B_5
  clear S_6
  go_wp2
  go_ret
  exact ⟨rfl, B_10.out⟩
theorem no_may (w : World) (s0 : St) (A0 : Option Addr) (n0 c0 : Nat) (B0 : Option Addr) (m0 d0 : Nat) (A1 : Option Addr) (n1 c1 : Nat) (l1 : List Mu) (k0 : StAt w s0 A0 n0 c0 B0 m0 d0) (k1 : Mus w A1 n1 c1 l1) (hf : fewS s0 = true) (hm : mayB s0 = false) :
    Calls Try.prog 7 #[s0.agg A0 n0 c0 B0 m0 d0, .slice A1 n1 c1] w fun e w' => e = .returned (.bool true) ∧ Below w.heap.size w w' := by
  have HF := Lib.hid hf; clear hf
  have HM := Lib.hid hm; clear hm
  have K_0 := Lib.hid (k0.keep (new1 w (.cells (stCells s0 A0 n0 c0 B0 m0 d0) 25)))
  have X_0 := Lib.hid (own_new w (stCells s0 A0 n0 c0 B0 m0 d0) 25)
  have M_0 := Lib.hid (k1.keep (new1 w (.cells (stCells s0 A0 n0 c0 B0 m0 d0) 25)))
  have B_0 := Lib.hid (new1 w (.cells (stCells s0 A0 n0 c0 B0 m0 d0) 25))
  clear k0 k1
  go_enter Try.func7, Try.ntmps7
  have x0 := X_0.out.cell 0 _ rfl
  have x1 := X_0.out.cell 1 _ rfl
  have x2 := X_0.out.cell 2 _ rfl
  have x3 := X_0.out.cell 3 _ rfl
  go_wp2_with fail
  refine (few_st s0 A0 n0 c0 B0 m0 d0 _ K_0.out).mono ?_; rintro e w1 ⟨rfl, hb⟩
  rw [HF.out]
  have S_1 := Lib.hid hb; clear hb
  have K_2 := Lib.hid (K_0.out.keep S_1.out)
  have X_3 := Lib.hid (X_0.out.below S_1.out)
  have M_4 := Lib.hid (M_0.out.keep S_1.out)
  have B_5 := Lib.hid (then_ B_0.out S_1.out)
  clear K_0 X_0 M_0 B_0
  clear S_1
  clear x0 x1 x2 x3
  have x0 := X_3.out.cell 0 _ rfl
  have x1 := X_3.out.cell 1 _ rfl
  have x2 := X_3.out.cell 2 _ rfl
  have x3 := X_3.out.cell 3 _ rfl
  go_wp2_with fail
  refine (mvmay_any s0 A0 n0 c0 B0 m0 d0 _ K_2.out).mono ?_; rintro e w2 ⟨rfl, hb⟩
  rw [HM.out]
  have S_6 := Lib.hid hb; clear hb
  have K_7 := Lib.hid (K_2.out.keep S_6.out)
  have X_8 := Lib.hid (X_3.out.below S_6.out)
  have M_9 := Lib.hid (M_4.out.keep S_6.out)
  have B_10 := Lib.hid (then_ B_5.out S_6.out)
  clear K_2 X_3 M_4 B_5
  clear S_6
  clear x0 x1 x2 x3
  go_wp2_with fail
  refine (live_any _).mono ?_; rintro e w3 ⟨rfl, hb⟩
  have S_11 := Lib.hid hb; clear hb
  have K_12 := Lib.hid (K_7.out.keep S_11.out)
  have X_13 := Lib.hid (X_8.out.below S_11.out)
  have M_14 := Lib.hid (M_9.out.keep S_11.out)
  have B_15 := Lib.hid (then_ B_10.out S_11.out)
  clear K_7 X_8 M_9 B_10
  clear S_11
  go_wp2
  go_ret
  exact ⟨rfl, B_15.out⟩
theorem no_len (w : World) (s0 : St) (A0 : Option Addr) (n0 c0 : Nat) (B0 : Option Addr) (m0 d0 : Nat) (A1 : Option Addr) (n1 c1 : Nat) (l1 : List Mu) (k0 : StAt w s0 A0 n0 c0 B0 m0 d0) (k1 : Mus w A1 n1 c1 l1) (hf : fewS s0 = true) (hm : mayB s0 = true) (hn : 40 < n1) :
    Calls Try.prog 7 #[s0.agg A0 n0 c0 B0 m0 d0, .slice A1 n1 c1] w fun e w' => e = .returned (.bool true) ∧ Below w.heap.size w w' := by
  have HF := Lib.hid hf; clear hf
  have HM := Lib.hid hm; clear hm
  have K_0 := Lib.hid (k0.keep (new1 w (.cells (stCells s0 A0 n0 c0 B0 m0 d0) 25)))
  have X_0 := Lib.hid (own_new w (stCells s0 A0 n0 c0 B0 m0 d0) 25)
  have M_0 := Lib.hid (k1.keep (new1 w (.cells (stCells s0 A0 n0 c0 B0 m0 d0) 25)))
  have B_0 := Lib.hid (new1 w (.cells (stCells s0 A0 n0 c0 B0 m0 d0) 25))
  clear k0 k1
  go_enter Try.func7, Try.ntmps7
  have x0 := X_0.out.cell 0 _ rfl
  have x1 := X_0.out.cell 1 _ rfl
  have x2 := X_0.out.cell 2 _ rfl
  have x3 := X_0.out.cell 3 _ rfl
  go_wp2_with fail
  refine (few_st s0 A0 n0 c0 B0 m0 d0 _ K_0.out).mono ?_; rintro e w1 ⟨rfl, hb⟩
  rw [HF.out]
  have S_1 := Lib.hid hb; clear hb
  have K_2 := Lib.hid (K_0.out.keep S_1.out)
  have X_3 := Lib.hid (X_0.out.below S_1.out)
  have M_4 := Lib.hid (M_0.out.keep S_1.out)
  have B_5 := Lib.hid (then_ B_0.out S_1.out)
  clear K_0 X_0 M_0 B_0
  clear S_1
  clear x0 x1 x2 x3
  have x0 := X_3.out.cell 0 _ rfl
  have x1 := X_3.out.cell 1 _ rfl
  have x2 := X_3.out.cell 2 _ rfl
  have x3 := X_3.out.cell 3 _ rfl
  go_wp2_with fail
  refine (mvmay_any s0 A0 n0 c0 B0 m0 d0 _ K_2.out).mono ?_; rintro e w2 ⟨rfl, hb⟩
  rw [HM.out]
  have S_6 := Lib.hid hb; clear hb
  have K_7 := Lib.hid (K_2.out.keep S_6.out)
  have X_8 := Lib.hid (X_3.out.below S_6.out)
  have M_9 := Lib.hid (M_4.out.keep S_6.out)
  have B_10 := Lib.hid (then_ B_5.out S_6.out)
  clear K_2 X_3 M_4 B_5
  clear S_6
  clear x0 x1 x2 x3
  go_wp2_with fail
  refine (live_any _).mono ?_; rintro e w3 ⟨rfl, hb⟩
  have S_11 := Lib.hid hb; clear hb
  have K_12 := Lib.hid (K_7.out.keep S_11.out)
  have X_13 := Lib.hid (X_8.out.below S_11.out)
  have M_14 := Lib.hid (M_9.out.keep S_11.out)
  have B_15 := Lib.hid (then_ B_10.out S_11.out)
  clear K_7 X_8 M_9 B_10
  clear S_11
  go_wp2
  go_ret
  exact ⟨rfl, B_15.out⟩
theorem no_short (w : World) (s0 : St) (A0 : Option Addr) (n0 c0 : Nat) (B0 : Option Addr) (m0 d0 : Nat) (A1 : Option Addr) (n1 c1 : Nat) (l1 : List Mu) (k0 : StAt w s0 A0 n0 c0 B0 m0 d0) (k1 : Mus w A1 n1 c1 l1) (hf : fewS s0 = true) (hm : mayB s0 = true) (hn : n1 ≤ 40) (hs : l1.all shMu = false) :
    Calls Try.prog 7 #[s0.agg A0 n0 c0 B0 m0 d0, .slice A1 n1 c1] w fun e w' => e = .returned (.bool true) ∧ Below w.heap.size w w' := by
  have HF := Lib.hid hf; clear hf
  have HM := Lib.hid hm; clear hm
  have HS := Lib.hid hs; clear hs
  have K_0 := Lib.hid (k0.keep (new1 w (.cells (stCells s0 A0 n0 c0 B0 m0 d0) 25)))
  have X_0 := Lib.hid (own_new w (stCells s0 A0 n0 c0 B0 m0 d0) 25)
  have M_0 := Lib.hid (k1.keep (new1 w (.cells (stCells s0 A0 n0 c0 B0 m0 d0) 25)))
  have B_0 := Lib.hid (new1 w (.cells (stCells s0 A0 n0 c0 B0 m0 d0) 25))
  clear k0 k1
  go_enter Try.func7, Try.ntmps7
  have x0 := X_0.out.cell 0 _ rfl
  have x1 := X_0.out.cell 1 _ rfl
  have x2 := X_0.out.cell 2 _ rfl
  have x3 := X_0.out.cell 3 _ rfl
  go_wp2_with fail
  refine (few_st s0 A0 n0 c0 B0 m0 d0 _ K_0.out).mono ?_; rintro e w1 ⟨rfl, hb⟩
  rw [HF.out]
  have S_1 := Lib.hid hb; clear hb
  have K_2 := Lib.hid (K_0.out.keep S_1.out)
  have X_3 := Lib.hid (X_0.out.below S_1.out)
  have M_4 := Lib.hid (M_0.out.keep S_1.out)
  have B_5 := Lib.hid (then_ B_0.out S_1.out)
  clear K_0 X_0 M_0 B_0
  clear S_1
  clear x0 x1 x2 x3
  have x0 := X_3.out.cell 0 _ rfl
  have x1 := X_3.out.cell 1 _ rfl
  have x2 := X_3.out.cell 2 _ rfl
  have x3 := X_3.out.cell 3 _ rfl
  go_wp2_with fail
  refine (mvmay_any s0 A0 n0 c0 B0 m0 d0 _ K_2.out).mono ?_; rintro e w2 ⟨rfl, hb⟩
  rw [HM.out]
  have S_6 := Lib.hid hb; clear hb
  have K_7 := Lib.hid (K_2.out.keep S_6.out)
  have X_8 := Lib.hid (X_3.out.below S_6.out)
  have M_9 := Lib.hid (M_4.out.keep S_6.out)
  have B_10 := Lib.hid (then_ B_5.out S_6.out)
  clear K_2 X_3 M_4 B_5
  clear S_6
  clear x0 x1 x2 x3
  go_wp2_with fail
  refine (short_any A1 n1 c1 l1 _ M_9.out).mono ?_; rintro e w' ⟨rfl, rfl⟩
  rw [HS.out]
  go_wp2_with fail
  refine (live_any _).mono ?_; rintro e w3 ⟨rfl, hb⟩
  have S_11 := Lib.hid hb; clear hb
  have K_12 := Lib.hid (K_7.out.keep S_11.out)
  have X_13 := Lib.hid (X_8.out.below S_11.out)
  have M_14 := Lib.hid (M_9.out.keep S_11.out)
  have B_15 := Lib.hid (then_ B_10.out S_11.out)
  clear K_7 X_8 M_9 B_10
  clear S_11
  go_wp2
  go_ret
  exact ⟨rfl, B_15.out⟩
theorem err (w : World) (s0 : St) (A0 : Option Addr) (n0 c0 : Nat) (B0 : Option Addr) (m0 d0 : Nat) (A1 : Option Addr) (n1 c1 : Nat) (l1 : List Mu) (k0 : StAt w s0 A0 n0 c0 B0 m0 d0) (k1 : Mus w A1 n1 c1 l1) (hf : fewS s0 = true) (hm : mayB s0 = true) (hn : n1 ≤ 40) (hs : l1.all shMu = true) (he : applyE s0 l1 ≠ 0) :
    Calls Try.prog 7 #[s0.agg A0 n0 c0 B0 m0 d0, .slice A1 n1 c1] w fun e w' => e = .returned (.bool true) ∧ Below w.heap.size w w' := by
  have HF := Lib.hid hf; have HM := Lib.hid hm; have HS := Lib.hid hs; have MS := Lib.hid (may_st.1 hm)
  have he1 : (applyE s0 l1 != 0) = true := by simp [he]
  have AS : Hid (applyS s0 l1 = s0 ∧ applyEv s0 l1 = []) := Lib.hid ⟨if_neg fun h => he h.1, if_neg fun h => he h.1⟩
  clear hf hm hs he
  have K_0 := Lib.hid (k0.keep (new1 w (.cells (stCells s0 A0 n0 c0 B0 m0 d0) 25)))
  have X_0 := Lib.hid (own_new w (stCells s0 A0 n0 c0 B0 m0 d0) 25)
  have M_0 := Lib.hid (k1.keep (new1 w (.cells (stCells s0 A0 n0 c0 B0 m0 d0) 25)))
  have B_0 := Lib.hid (new1 w (.cells (stCells s0 A0 n0 c0 B0 m0 d0) 25))
  clear k0 k1
  go_enter Try.func7, Try.ntmps7
  have x0 := X_0.out.cell 0 _ rfl
  have x1 := X_0.out.cell 1 _ rfl
  have x2 := X_0.out.cell 2 _ rfl
  have x3 := X_0.out.cell 3 _ rfl
  go_wp2_with fail
  refine (few_st s0 A0 n0 c0 B0 m0 d0 _ K_0.out).mono ?_; rintro e w1 ⟨rfl, hb⟩
  rw [HF.out]
  have S_1 := Lib.hid hb; clear hb
  have K_2 := Lib.hid (K_0.out.keep S_1.out)
  have X_3 := Lib.hid (X_0.out.below S_1.out)
  have M_4 := Lib.hid (M_0.out.keep S_1.out)
  have B_5 := Lib.hid (then_ B_0.out S_1.out)
  clear K_0 X_0 M_0 B_0
  clear S_1
  clear x0 x1 x2 x3
  have x0 := X_3.out.cell 0 _ rfl
  have x1 := X_3.out.cell 1 _ rfl
  have x2 := X_3.out.cell 2 _ rfl
  have x3 := X_3.out.cell 3 _ rfl
  go_wp2_with fail
  refine (mvmay_any s0 A0 n0 c0 B0 m0 d0 _ K_2.out).mono ?_; rintro e w2 ⟨rfl, hb⟩
  rw [HM.out]
  have S_6 := Lib.hid hb; clear hb
  have K_7 := Lib.hid (K_2.out.keep S_6.out)
  have X_8 := Lib.hid (X_3.out.below S_6.out)
  have M_9 := Lib.hid (M_4.out.keep S_6.out)
  have B_10 := Lib.hid (then_ B_5.out S_6.out)
  clear K_2 X_3 M_4 B_5
  clear S_6
  clear x0 x1 x2 x3
  go_wp2_with fail
  refine (short_any A1 n1 c1 l1 _ M_9.out).mono ?_; rintro e w' ⟨rfl, rfl⟩
  rw [HS.out]
  have x0 := X_8.out.cell 0 _ rfl
  have x1 := X_8.out.cell 1 _ rfl
  have x2 := X_8.out.cell 2 _ rfl
  have x3 := X_8.out.cell 3 _ rfl
  go_wp2_with fail
  refine (apply_any s0 A0 n0 c0 B0 m0 d0 A1 n1 c1 l1 _ K_7.out M_9.out MS.out).mono ?_; rintro e w3 ⟨P1, p1, q1, Q1, u1, v1, E1, en1, ec1, rfl, h1, g1, hb⟩
  have S_11 := Lib.hid hb; clear hb
  have K_12 := Lib.hid (K_7.out.keep S_11.out)
  have X_13 := Lib.hid (X_8.out.below S_11.out)
  have M_14 := Lib.hid (M_9.out.keep S_11.out)
  have B_15 := Lib.hid (then_ B_10.out S_11.out)
  clear K_7 X_8 M_9 B_10
  clear S_11
  clear x0 x1 x2 x3
  have L1_16 := Lib.hid (h1)
  have V1_17 := Lib.hid (g1)
  clear h1 g1
  have K_18 := Lib.hid (K_12.out.keep (new1 w3 (.cells (#[.int .i64 (applyS s0 l1).rev, .int .i64 (applyS s0 l1).low, .slice P1 p1 q1, .slice Q1 u1 v1]) 25)))
  have X_19 := Lib.hid (X_13.out.below (new1 w3 (.cells (#[.int .i64 (applyS s0 l1).rev, .int .i64 (applyS s0 l1).low, .slice P1 p1 q1, .slice Q1 u1 v1]) 25)))
  have M_20 := Lib.hid (M_14.out.keep (new1 w3 (.cells (#[.int .i64 (applyS s0 l1).rev, .int .i64 (applyS s0 l1).low, .slice P1 p1 q1, .slice Q1 u1 v1]) 25)))
  have L1_21 := Lib.hid (L1_16.out.keep (new1 w3 (.cells (#[.int .i64 (applyS s0 l1).rev, .int .i64 (applyS s0 l1).low, .slice P1 p1 q1, .slice Q1 u1 v1]) 25)))
  have V1_22 := Lib.hid (V1_17.out.keep (new1 w3 (.cells (#[.int .i64 (applyS s0 l1).rev, .int .i64 (applyS s0 l1).low, .slice P1 p1 q1, .slice Q1 u1 v1]) 25)))
  have B_23 := Lib.hid (then_ B_15.out (new1 w3 (.cells (#[.int .i64 (applyS s0 l1).rev, .int .i64 (applyS s0 l1).low, .slice P1 p1 q1, .slice Q1 u1 v1]) 25)))
  clear K_12 X_13 M_14 L1_16 V1_17 B_15
  have R1_24 := Lib.hid (own_new w3 (#[.int .i64 (applyS s0 l1).rev, .int .i64 (applyS s0 l1).low, .slice P1 p1 q1, .slice Q1 u1 v1]) 25)
  obtain rfl : en1 = 0 := by have h := V1_22.out.len; rw [AS.out.2] at h; simpa using h.symm
  go_wp2_with fail
  refine (live_any _).mono ?_; rintro e w4 ⟨rfl, hb⟩
  have S_25 := Lib.hid hb; clear hb
  have K_26 := Lib.hid (K_18.out.keep S_25.out)
  have X_27 := Lib.hid (X_19.out.below S_25.out)
  have M_28 := Lib.hid (M_20.out.keep S_25.out)
  have L1_29 := Lib.hid (L1_21.out.keep S_25.out)
  have V1_30 := Lib.hid (V1_22.out.keep S_25.out)
  have R1_31 := Lib.hid (R1_24.out.below S_25.out)
  have B_32 := Lib.hid (then_ B_23.out S_25.out)
  clear K_18 X_19 M_20 L1_21 V1_22 R1_24 B_23
  clear S_25
  go_wp2
  go_ret
  exact ⟨rfl, B_32.out⟩
theorem fine (w : World) (s0 : St) (A0 : Option Addr) (n0 c0 : Nat) (B0 : Option Addr) (m0 d0 : Nat) (A1 : Option Addr) (n1 c1 : Nat) (l1 : List Mu) (k0 : StAt w s0 A0 n0 c0 B0 m0 d0) (k1 : Mus w A1 n1 c1 l1) (hf : fewS s0 = true) (hm : mayB s0 = true) (hn : n1 ≤ 40) (hs : l1.all shMu = true) (he : applyE s0 l1 = 0) :
    Calls Try.prog 7 #[s0.agg A0 n0 c0 B0 m0 d0, .slice A1 n1 c1] w fun e w' => e = .returned (.bool true) ∧ Below w.heap.size w w' := by
  have HF := Lib.hid hf; have HM := Lib.hid hm; have HS := Lib.hid hs; have MS := Lib.hid (may_st.1 hm)
  have HE := Lib.hid he
  have he1 : (applyE s0 l1 != 0) = false := by simp [he]
  have hl1 := k1.len
  have hb0 := k0.kv.len; have hb1 := k0.ev.len; have hb2 := MS.out.good.len; have hb3 := MS.out.len
  have MA := Lib.hid (apply_may MS.out l1)
  have ha2 := MA.out.good.len; have ha3 := MA.out.len
  have HB : Hid (n0 + m0 ≤ 900000) := Lib.hid (by omega)
  clear hf hm hs he
  have K_0 := Lib.hid (k0.keep (new1 w (.cells (stCells s0 A0 n0 c0 B0 m0 d0) 25)))
  have X_0 := Lib.hid (own_new w (stCells s0 A0 n0 c0 B0 m0 d0) 25)
  have M_0 := Lib.hid (k1.keep (new1 w (.cells (stCells s0 A0 n0 c0 B0 m0 d0) 25)))
  have B_0 := Lib.hid (new1 w (.cells (stCells s0 A0 n0 c0 B0 m0 d0) 25))
  clear k0 k1
  go_enter Try.func7, Try.ntmps7
  have x0 := X_0.out.cell 0 _ rfl
  have x1 := X_0.out.cell 1 _ rfl
  have x2 := X_0.out.cell 2 _ rfl
  have x3 := X_0.out.cell 3 _ rfl
  go_wp2_with fail
  refine (few_st s0 A0 n0 c0 B0 m0 d0 _ K_0.out).mono ?_; rintro e w1 ⟨rfl, hb⟩
  rw [HF.out]
  have S_1 := Lib.hid hb; clear hb
  have K_2 := Lib.hid (K_0.out.keep S_1.out)
  have X_3 := Lib.hid (X_0.out.below S_1.out)
  have M_4 := Lib.hid (M_0.out.keep S_1.out)
  have B_5 := Lib.hid (then_ B_0.out S_1.out)
  clear K_0 X_0 M_0 B_0
  clear S_1
  clear x0 x1 x2 x3
  have x0 := X_3.out.cell 0 _ rfl
  have x1 := X_3.out.cell 1 _ rfl
  have x2 := X_3.out.cell 2 _ rfl
  have x3 := X_3.out.cell 3 _ rfl
  go_wp2_with fail
  refine (mvmay_any s0 A0 n0 c0 B0 m0 d0 _ K_2.out).mono ?_; rintro e w2 ⟨rfl, hb⟩
  rw [HM.out]
  have S_6 := Lib.hid hb; clear hb
  have K_7 := Lib.hid (K_2.out.keep S_6.out)
  have X_8 := Lib.hid (X_3.out.below S_6.out)
  have M_9 := Lib.hid (M_4.out.keep S_6.out)
  have B_10 := Lib.hid (then_ B_5.out S_6.out)
  clear K_2 X_3 M_4 B_5
  clear S_6
  clear x0 x1 x2 x3
  go_wp2_with fail
  refine (short_any A1 n1 c1 l1 _ M_9.out).mono ?_; rintro e w' ⟨rfl, rfl⟩
  rw [HS.out]
  have x0 := X_8.out.cell 0 _ rfl
  have x1 := X_8.out.cell 1 _ rfl
  have x2 := X_8.out.cell 2 _ rfl
  have x3 := X_8.out.cell 3 _ rfl
  go_wp2_with fail
  refine (apply_any s0 A0 n0 c0 B0 m0 d0 A1 n1 c1 l1 _ K_7.out M_9.out MS.out).mono ?_; rintro e w3 ⟨P1, p1, q1, Q1, u1, v1, E1, en1, ec1, rfl, h1, g1, hb⟩
  have S_11 := Lib.hid hb; clear hb
  have K_12 := Lib.hid (K_7.out.keep S_11.out)
  have X_13 := Lib.hid (X_8.out.below S_11.out)
  have M_14 := Lib.hid (M_9.out.keep S_11.out)
  have B_15 := Lib.hid (then_ B_10.out S_11.out)
  clear K_7 X_8 M_9 B_10
  clear S_11
  clear x0 x1 x2 x3
  have L1_16 := Lib.hid (h1)
  have V1_17 := Lib.hid (g1)
  clear h1 g1
  have K_18 := Lib.hid (K_12.out.keep (new1 w3 (.cells (#[.int .i64 (applyS s0 l1).rev, .int .i64 (applyS s0 l1).low, .slice P1 p1 q1, .slice Q1 u1 v1]) 25)))
  have X_19 := Lib.hid (X_13.out.below (new1 w3 (.cells (#[.int .i64 (applyS s0 l1).rev, .int .i64 (applyS s0 l1).low, .slice P1 p1 q1, .slice Q1 u1 v1]) 25)))
  have M_20 := Lib.hid (M_14.out.keep (new1 w3 (.cells (#[.int .i64 (applyS s0 l1).rev, .int .i64 (applyS s0 l1).low, .slice P1 p1 q1, .slice Q1 u1 v1]) 25)))
  have L1_21 := Lib.hid (L1_16.out.keep (new1 w3 (.cells (#[.int .i64 (applyS s0 l1).rev, .int .i64 (applyS s0 l1).low, .slice P1 p1 q1, .slice Q1 u1 v1]) 25)))
  have V1_22 := Lib.hid (V1_17.out.keep (new1 w3 (.cells (#[.int .i64 (applyS s0 l1).rev, .int .i64 (applyS s0 l1).low, .slice P1 p1 q1, .slice Q1 u1 v1]) 25)))
  have B_23 := Lib.hid (then_ B_15.out (new1 w3 (.cells (#[.int .i64 (applyS s0 l1).rev, .int .i64 (applyS s0 l1).low, .slice P1 p1 q1, .slice Q1 u1 v1]) 25)))
  clear K_12 X_13 M_14 L1_16 V1_17 B_15
  have R1_24 := Lib.hid (own_new w3 (#[.int .i64 (applyS s0 l1).rev, .int .i64 (applyS s0 l1).low, .slice P1 p1 q1, .slice Q1 u1 v1]) 25)
  have hp1 := L1_21.out.kv.len; have hp2 := L1_21.out.ev.len
  have HP : Hid (p1 + u1 ≤ 900000) := Lib.hid (by omega)
  clear hp1 hp2
  rw [HE.out]
  have x0 := X_19.out.cell 0 _ rfl
  have x1 := X_19.out.cell 1 _ rfl
  have x2 := X_19.out.cell 2 _ rfl
  have x3 := X_19.out.cell 3 _ rfl
  go_wp2_with fail
  refine (now_any s0 A0 n0 c0 B0 m0 d0 _ K_18.out HB.out).mono ?_; rintro e w4 ⟨W1, a1, b1, rfl, h2, hb⟩
  have S_25 := Lib.hid hb; clear hb
  have K_26 := Lib.hid (K_18.out.keep S_25.out)
  have X_27 := Lib.hid (X_19.out.below S_25.out)
  have M_28 := Lib.hid (M_20.out.keep S_25.out)
  have L1_29 := Lib.hid (L1_21.out.keep S_25.out)
  have V1_30 := Lib.hid (V1_22.out.keep S_25.out)
  have R1_31 := Lib.hid (R1_24.out.below S_25.out)
  have B_32 := Lib.hid (then_ B_23.out S_25.out)
  clear K_18 X_19 M_20 L1_21 V1_22 R1_24 B_23
  clear S_25
  clear x0 x1 x2 x3
  have WAS_33 := Lib.hid (h2)
  clear h2
  have y0 := R1_31.out.cell 0 _ rfl
  have y1 := R1_31.out.cell 1 _ rfl
  have y2 := R1_31.out.cell 2 _ rfl
  have y3 := R1_31.out.cell 3 _ rfl
  go_wp2_with fail
  refine (now_any (applyS s0 l1) P1 p1 q1 Q1 u1 v1 _ L1_29.out HP.out).mono ?_; rintro e w5 ⟨W2, a2, b2, rfl, h3, hb⟩
  have S_34 := Lib.hid hb; clear hb
  have K_35 := Lib.hid (K_26.out.keep S_34.out)
  have X_36 := Lib.hid (X_27.out.below S_34.out)
  have M_37 := Lib.hid (M_28.out.keep S_34.out)
  have L1_38 := Lib.hid (L1_29.out.keep S_34.out)
  have V1_39 := Lib.hid (V1_30.out.keep S_34.out)
  have R1_40 := Lib.hid (R1_31.out.below S_34.out)
  have WAS_41 := Lib.hid (WAS_33.out.keep S_34.out)
  have B_42 := Lib.hid (then_ B_32.out S_34.out)
  clear K_26 X_27 M_28 L1_29 V1_30 R1_31 WAS_33 B_32
  clear S_34
  clear y0 y1 y2 y3
  have NOW_43 := Lib.hid (h3)
  clear h3
  clear K_35
  clear X_36
  clear V1_39
  clear L1_38
  have hla := WAS_41.out.len; have hlb := NOW_43.out.len
  have HLA := Lib.hid hla; have HLB := Lib.hid hlb; have HL1 := Lib.hid hl1
  have ha2max := Nat.le_trans NOW_43.out.le NOW_43.out.max; have ha1max := Nat.le_trans WAS_41.out.le WAS_41.out.max
  unfold maxLen at ha2max ha1max
  clear hla hlb hl1 hb0 hb1 hb2 hb3 ha2 ha3
  have y0 := R1_40.out.cell 0 _ rfl
  have y1 := R1_40.out.cell 1 _ rfl
  have y2 := R1_40.out.cell 2 _ rfl
  have y3 := R1_40.out.cell 3 _ rfl
  go_wp2
  go_loopw [10] (fun iv wr => ∃ j q : Nat, j ≤ n1 ∧ iv = .int .i64 j ∧ wr = w5.drewN q) (fun iv _ => n1 - (intOf iv).toNat)
  case atStart => exact ⟨0, 0, Nat.zero_le _, rfl, rfl⟩
  case round =>
    obtain ⟨j, q, hj, rfl, rfl⟩ := hrel
    by_cases hlt : j < n1
    · obtain ⟨a, x, rfl, hbl, hx, hok, hc⟩ := M_37.out.at_ hlt
      obtain ⟨c0, c1, c2, c3⟩ := hc
      have HX := Lib.hid hx
      have HIN : Hid (∀ y, y ∈ nowL (applyS s0 l1) → y.key = x.key → x.gone = false ∧ y.val = x.val ∧ y.lea = x.lea ∧ y.mod = (applyS s0 l1).rev) := Lib.hid (fun y hy hk => lays_in MS.out HE.out (List.mem_of_getElem? hx) hy hk)
      have HFO := Lib.hid (lays_found MS.out HE.out (List.mem_of_getElem? hx))
      clear hx hok hbl
      go_wp2
      go_loopw [11, 12] (fun fv kv wr => ∃ i r : Nat, i ≤ a2 ∧ kv = .int .i64 i ∧ fv = .bool (hitTo (nowL (applyS s0 l1)) x.key i) ∧ wr = w5.drewN r) (fun _ kv _ => a2 - (intOf kv).toNat)
      case atStart => exact ⟨0, q, Nat.zero_le _, rfl, rfl, rfl⟩
      case round =>
        obtain ⟨i, r, hi, rfl, rfl, rfl⟩ := hrel
        by_cases hlt2 : i < a2
        · obtain ⟨b, y, rfl, gbl, hy, gok, gc⟩ := NOW_43.out.at_ hlt2
          obtain ⟨g0, g1, g2, g3, g4, g5⟩ := gc
          have HY := Lib.hid hy
          have HN := Lib.hid (hit_next (k := x.key) hy)
          clear hy gok gbl
          cases hk : teq y.key x.key with
          | true =>
            obtain ⟨e1, e2, e3, e4⟩ := HIN.out y (List.mem_of_getElem? HY.out) (teq_iff.1 hk)
            have f2 : teq y.val x.val = true := by rw [e2]; exact teq_self _
            have f3 : (y.lea == x.lea) = true := by simp [e3]
            have f4 : (y.mod == (applyS s0 l1).rev) = true := by simp [e4]
            have HT : Hid (hitTo (nowL (applyS s0 l1)) x.key (i + 1) = true) := Lib.hid (by rw [HN.out, hk, Bool.or_true])
            clear e2 e3 e4
            unfold teq at hk f2
            go_wp2
            go_quiet (fail)
            go_wp2
            go_quiet (fail)
            go_wp2
            go_roundw
            case rel => exact ⟨i + 1, _, by omega, by go_num, by rw [HT.out], rfl⟩
            case measure => simp [intOf]; omega
          | false =>
            have HT : Hid (hitTo (nowL (applyS s0 l1)) x.key (i + 1) = hitTo (nowL (applyS s0 l1)) x.key i) := Lib.hid (by rw [HN.out, hk, Bool.or_false])
            unfold teq at hk
            go_wp2
            go_quiet (fail)
            go_wp2
            go_roundw
            case rel => exact ⟨i + 1, _, by omega, by go_num, by rw [HT.out], rfl⟩
            case measure => simp [intOf]; omega
        · obtain rfl : i = a2 := by omega
          rw [hit_all HLB.out, HFO.out]
          go_wp2
          go_roundw
          case rel => exact ⟨j + 1, _, by omega, by go_num, rfl⟩
          case measure => simp [intOf]; omega
    · obtain rfl : n1 = j := by omega
      clear hlt hj
      go_wp2
      go_loopw [13] (fun iv wr => ∃ j r : Nat, j ≤ a1 ∧ iv = .int .i64 j ∧ wr = w5.drewN r) (fun iv _ => a1 - (intOf iv).toNat)
      case atStart => exact ⟨0, q, Nat.zero_le _, rfl, rfl⟩
      case round =>
        obtain ⟨j, r, hj, rfl, rfl⟩ := hrel
        by_cases hlt : j < a1
        · obtain ⟨a, x, rfl, hbl, hx, hok, hc⟩ := WAS_41.out.at_ hlt
          obtain ⟨c0, c1, c2, c3, c4, c5⟩ := hc
          have HO : Hid (asksTo l1 x.key n1 = false → staysTo (nowL (applyS s0 l1)) x a2 = true) := Lib.hid (fun h => by have h2 := lays_other MS.out HE.out (List.mem_of_getElem? hx) (by rw [HL1.out]; exact h); rwa [HLB.out] at h2)
          clear hx hok hbl
          go_wp2
          go_loopw [14, 15] (fun fv kv wr => ∃ (i r : Nat) (b : Bool), i ≤ n1 ∧ kv = .int .i64 i ∧ fv = .bool b ∧ IsB b (asksTo l1 x.key i) ∧ wr = w5.drewN r) (fun _ kv _ => n1 - (intOf kv).toNat)
          case atStart => exact ⟨0, r, false, Nat.zero_le _, rfl, rfl, ⟨rfl⟩, rfl⟩
          case round =>
            obtain ⟨i, r, b, hi, rfl, rfl, hb, rfl⟩ := hrel
            by_cases hlt2 : i < n1
            · obtain ⟨m, y, rfl, gbl, hy, gok, gc⟩ := M_37.out.at_ hlt2
              obtain ⟨g0, g1, g2, g3⟩ := gc
              have HN := Lib.hid (asks_next (k := x.key) hy)
              clear hy gok gbl
              cases b with
              | true =>
                have HT : IsB true (asksTo l1 x.key (i + 1)) := ⟨by rw [HN.out, ← hb.out]; rfl⟩
                go_wp2
                go_quiet (fail)
                go_wp2
                go_roundw
                case rel => exact ⟨i + 1, _, true, by omega, by go_num, rfl, HT, rfl⟩
                case measure => simp [intOf]; omega
              | false =>
                cases hk : teq y.key x.key with
                | true =>
                  have HT : IsB true (asksTo l1 x.key (i + 1)) := ⟨by rw [HN.out, ← hb.out, hk]; rfl⟩
                  unfold teq at hk
                  go_wp2
                  go_quiet (fail)
                  go_wp2
                  go_roundw
                  case rel => exact ⟨i + 1, _, true, by omega, by go_num, rfl, HT, rfl⟩
                  case measure => simp [intOf]; omega
                | false =>
                  have HT : IsB false (asksTo l1 x.key (i + 1)) := ⟨by rw [HN.out, ← hb.out, hk]; rfl⟩
                  unfold teq at hk
                  go_wp2
                  go_quiet (fail)
                  go_wp2
                  go_roundw
                  case rel => exact ⟨i + 1, _, false, by omega, by go_num, rfl, HT, rfl⟩
                  case measure => simp [intOf]; omega
            · obtain rfl : n1 = i := by omega
              clear hlt2 hi
              go_wp2
              go_loopw [16, 17] (fun fv kv wr => ∃ (i r : Nat) (c : Bool), i ≤ a2 ∧ kv = .int .i64 i ∧ fv = .bool c ∧ IsB c (staysTo (nowL (applyS s0 l1)) x i) ∧ wr = w5.drewN r) (fun _ kv _ => a2 - (intOf kv).toNat)
              case atStart => exact ⟨0, r, false, Nat.zero_le _, rfl, rfl, ⟨rfl⟩, rfl⟩
              case round =>
                obtain ⟨i, r, c, hi, rfl, rfl, hc, rfl⟩ := hrel
                by_cases hlt2 : i < a2
                · obtain ⟨m, y, rfl, gbl, hy, gok, gc⟩ := NOW_43.out.at_ hlt2
                  obtain ⟨g0, g1, g2, g3, g4, g5⟩ := gc
                  have HN := Lib.hid (stays_next (x := x) hy)
                  clear hy gok gbl
                  cases c with
                  | true =>
                    have HT : IsB true (staysTo (nowL (applyS s0 l1)) x (i + 1)) := ⟨by rw [HN.out, ← hc.out]; rfl⟩
                    go_wp2
                    go_quiet (fail)
                    go_wp2
                    go_roundw
                    case rel => exact ⟨i + 1, _, true, by omega, by go_num, rfl, HT, rfl⟩
                    case measure => simp [intOf]; omega
                  | false =>
                    have HT : IsB (kvEq y x) (staysTo (nowL (applyS s0 l1)) x (i + 1)) := ⟨by rw [HN.out, ← hc.out]; rfl⟩
                    have heq := eql_kv y x
                    generalize kvEq y x = qb at heq HT
                    clear HN
                    go_wp2
                    go_quiet (fail)
                    go_wp2
                    go_roundw
                    case rel => exact ⟨i + 1, _, qb, by omega, by go_num, rfl, HT, rfl⟩
                    case measure => simp [intOf]; omega
                · obtain rfl : a2 = i := by omega
                  clear hlt2 hi
                  cases b with
                  | true =>
                    go_wp2
                    go_roundw
                    case rel => exact ⟨j + 1, _, by omega, by go_num, rfl⟩
                    case measure => simp [intOf]; omega
                  | false =>
                    obtain rfl : c = true := hc.out.trans (HO.out hb.out.symm)
                    go_wp2
                    go_roundw
                    case rel => exact ⟨j + 1, _, by omega, by go_num, rfl⟩
                    case measure => simp [intOf]; omega
        · obtain rfl : a1 = j := by omega
          go_wp2_with fail
          refine (live_any _).mono ?_; rintro e w9 ⟨rfl, hb⟩
          have BB := Lib.hid (then_ B_42.out (then_ (below_drewN (Below.refl _ _) _) hb)); clear hb
          go_wp2
          go_ret
          exact ⟨rfl, BB.out⟩
  
theorem walk (w : World) (s0 : St) (A0 : Option Addr) (n0 c0 : Nat) (B0 : Option Addr) (m0 d0 : Nat) (A1 : Option Addr) (n1 c1 : Nat) (l1 : List Mu) (k0 : StAt w s0 A0 n0 c0 B0 m0 d0) (k1 : Mus w A1 n1 c1 l1) :
    Calls Try.prog 7 #[s0.agg A0 n0 c0 B0 m0 d0, .slice A1 n1 c1] w fun e w' => e = .returned (.bool true) ∧ Below w.heap.size w w' := by
  cases hf : fewS s0 with
  | false => exact no_few w s0 A0 n0 c0 B0 m0 d0 A1 n1 c1 l1 k0 k1 hf
  | true =>
    cases hm : mayB s0 with
    | false => exact no_may w s0 A0 n0 c0 B0 m0 d0 A1 n1 c1 l1 k0 k1 hf hm
    | true =>
      by_cases hn : n1 ≤ 40
      · cases hs : l1.all shMu with
        | false => exact no_short w s0 A0 n0 c0 B0 m0 d0 A1 n1 c1 l1 k0 k1 hf hm hn hs
        | true =>
          by_cases he : applyE s0 l1 = 0
          · exact fine w s0 A0 n0 c0 B0 m0 d0 A1 n1 c1 l1 k0 k1 hf hm hn hs he
          · exact err w s0 A0 n0 c0 B0 m0 d0 A1 n1 c1 l1 k0 k1 hf hm hn hs he
      · exact no_len w s0 A0 n0 c0 B0 m0 d0 A1 n1 c1 l1 k0 k1 hf hm (by omega)

theorem own : ownKnob Try.prog.godebug = none := by kernel_rfl
theorem laidOut : laidOutB Try.prog = true := by kernel_rfl

set_option maxRecDepth 100000 in
theorem lifted (os : Os) (started : os.Started) (H : Type) (enc : TypeId × Value → H) :
    ReturnsInHanded {} Try.checked os 7 .any (Rows.mvccLaysSpec.pre6 enc Try.prog Try.f7 Rows.mvccLaysRow.domain false) (Rows.mvccLaysSpec.post enc Try.prog Try.f7 false true false false) := by
  refine returnsInHanded_of_change (C := Try.checked) own started (by kernel_rfl) Try.func7
    (ChangeSpec.witness6 (enc := enc) (C := Try.checked) false ⟨#[], #[.agg #[.int .i64 0, .int .i64 0, .slice none 0 0, .slice none 0 0], .slice none 0 0], []⟩ 8 (by kernel_rfl) (by kernel_rfl) (by kernel_rfl) (by kernel_rfl)) ?_
  intro W base args ds gs before hval0 hW hcnd _
  have hval : ∀ (j : Nat) t v, Try.f7.params[j]? = some t → args[j]? = some v → Value.okWide Try.prog W .any base t v := hval0
  have hW' := hW
  obtain ⟨p, q, hA0, hV, rfl, hfz, hnd⟩ := hW
  have hA : DataW.TrodAll enc Try.prog W 0 (fun _ => true) true Try.f7.params.toList args.toList ds p := hA0
  rw [Try.params7] at hA hval
  obtain ⟨v0, vs0, d0, ds0, p0, q0, hargs, rfl, rfl, h0, r0⟩ := trodAll_cons hA
  obtain ⟨v1, vs1, d1, ds1, p1, q1, rfl, rfl, rfl, h1, r1⟩ := trodAll_cons r0
  obtain ⟨rfl, rfl, rfl⟩ := trodAll_nil r1
  obtain rfl : args = #[v0, v1] := by cases args; simp_all
  obtain ⟨rfl, rfl⟩ := trodVars_none hV
  obtain ⟨s0, A0, n0, c0, B0, m0, d0, rfl, k0⟩ := open_st (hval 0 25 v0 rfl rfl) h0
  obtain ⟨A1, n1, c1, l1, rfl, k1⟩ := open_mus (hval 1 34 v1 rfl rfl) h1
  clear hA0 hval0
  refine (walk W s0 A0 n0 c0 B0 m0 d0 A1 n1 c1 l1 k0 k1).mono fun e W' ⟨he, bel⟩ => ?_
  subst he
  exact ⟨_, rfl, _, _, _, [], _, [], hW', trodAll_mk1 (shut_bool Try.underlying4 _), (trodAll_cons_mk (Below.trod laidOut (by kernel_rfl) (of_decide_eq_true (by kernel_rfl)) h0 bel (fun x hx => hW'.lt x (by simp [hx]))) (trodAll_cons_mk (Below.trod laidOut (by kernel_rfl) (of_decide_eq_true (by kernel_rfl)) h1 bel (fun x hx => hW'.lt x (by simp [hx]))) trodAll_mk0)), rfl, bel.frame _, fun h => by cases h⟩

theorem over : Rows.mvccLaysRow.holds Try.pinned (OpenSpec.ofChange Rows.mvccLaysSpec) :=
  OpenClaim.holds_of_wide 7 Try.f7 rfl rfl rfl rfl rfl rfl rfl ⟨rfl, rfl, rfl, rfl, rfl⟩ rfl rfl rfl rfl rfl (by kernel_rfl) Try.func7 (by kernel_rfl)
    (of_decide_eq_true (by kernel_rfl)) (by unfold Func.isWrapper; first | (rw [if_pos (by decide +kernel)]; kernel_rfl) | (rw [if_neg (by decide +kernel)]; exact ⟨rfl, rfl⟩))
    (fun os started H enc _ => lifted os started H enc)

theorem proved : Rows.MvccLaysSaid := over
#print axioms proved
end Go.Proofs.Ytlffhehpeeiogaa.mvccLays
