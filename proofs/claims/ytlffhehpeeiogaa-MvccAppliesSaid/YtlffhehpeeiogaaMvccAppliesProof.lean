/- For every store that may be, every list of things to be done and every revision the law MvccApplies answers true: Apply and Shrink answer what the document asks, events, errors and all. No condition. -/
import Derived.Test.YtlffhehpeeiogaaMvRefApp
import Derived.Test.YtlffhehpeeiogaaMvLive
import Derived.Test.YtlffhehpeeiogaaMvOpen
import Derived.Test.YtlffhehpeeiogaaRows
namespace Go.Proofs.Ytlffhehpeeiogaa.mvccApplies
open Go.ChangeShapes Go.WideShapes Go.ChangeAt Go.RowKit Go.Proofs.Ytlffhehpeeiogaa.P
open Go.ChangeMaps (open_string shut_string)
set_option linter.unusedVariables false
set_option linter.unusedSimpArgs false
set_option maxHeartbeats 2000000
set_option maxRecDepth 100000

theorem shrunk_len {s : St} {rev : Int} (h1 : s.base.length ≤ 500) (h2 : s.log.length ≤ 500) : (shrunk s rev).base.length ≤ 1000 ∧ (shrunk s rev).log.length ≤ 1000 := by
  unfold shrunk
  split
  · have := foldL_len s.log rev s.base
    have h3 : (above rev s.log).length ≤ s.log.length := List.length_filter_le _ _
    exact ⟨by show (foldL s.base s.log rev).length ≤ _; omega, by show (above rev s.log).length ≤ _; omega⟩
  · omega
theorem ev_len {s : St} (h : MaySt s) (ms : List Mu) : (applyEv s ms).length ≤ 1000 := by
  unfold applyEv
  split
  · rename_i ha
    have := (applied_iff ha).2.2.2
    omega
  · simp
theorem no_few (w : World) (s0 : St) (A0 : Option Addr) (n0 c0 : Nat) (B0 : Option Addr) (m0 d0 : Nat) (A1 : Option Addr) (n1 c1 : Nat) (l1 : List Mu) (a2 : Int) (k0 : StAt w s0 A0 n0 c0 B0 m0 d0) (k1 : Mus w A1 n1 c1 l1) (w2 : (Lit.int .i64 a2).wf = true) (hf : fewS s0 = false) :
    Calls Try.prog 4 #[s0.agg A0 n0 c0 B0 m0 d0, .slice A1 n1 c1, .int .i64 a2] w fun e w' => e = .returned (.bool true) ∧ Below w.heap.size w w' := by
  have HF := Lib.hid hf; clear hf
  have K_0 := Lib.hid (k0.keep (new1 w (.cells (stCells s0 A0 n0 c0 B0 m0 d0) 25)))
  have X_0 := Lib.hid (own_new w (stCells s0 A0 n0 c0 B0 m0 d0) 25)
  have M_0 := Lib.hid (k1.keep (new1 w (.cells (stCells s0 A0 n0 c0 B0 m0 d0) 25)))
  have B_0 := Lib.hid (new1 w (.cells (stCells s0 A0 n0 c0 B0 m0 d0) 25))
  clear k0 k1
  go_enter Try.func4, Try.ntmps4
  have x0 := X_0.out.cell 0 _ rfl
  have x1 := X_0.out.cell 1 _ rfl
  have x2 := X_0.out.cell 2 _ rfl
  have x3 := X_0.out.cell 3 _ rfl
  go_wp2_with fail
  refine (few_st s0 A0 n0 c0 B0 m0 d0 _ K_0.out).mono ?_; rintro e w1 ⟨rfl, hb⟩
  rw [HF.out]
  have S_1 := Lib.hid hb; clear hb
  have K_2 := Lib.hid (K_0.out.keep S_1.out)
  have X_3 := Lib.hid (X_0.out.below S_1.out)
  have M_4 := Lib.hid (M_0.out.keep S_1.out)
  have B_5 := Lib.hid (then_ B_0.out S_1.out)
  clear K_0 X_0 M_0 B_0
  clear S_1
  clear x0 x1 x2 x3
  go_wp2_with fail
  refine (live_any _).mono ?_; rintro e w2 ⟨rfl, hb⟩
  have S_6 := Lib.hid hb; clear hb
  have K_7 := Lib.hid (K_2.out.keep S_6.out)
  have X_8 := Lib.hid (X_3.out.below S_6.out)
  have M_9 := Lib.hid (M_4.out.keep S_6.out)
  have B_10 := Lib.hid (then_ B_5.out S_6.out)
  clear K_2 X_3 M_4 B_5
  clear S_6
  go_wp2
  go_ret
  exact ⟨rfl, B_10.out⟩
theorem no_may (w : World) (s0 : St) (A0 : Option Addr) (n0 c0 : Nat) (B0 : Option Addr) (m0 d0 : Nat) (A1 : Option Addr) (n1 c1 : Nat) (l1 : List Mu) (a2 : Int) (k0 : StAt w s0 A0 n0 c0 B0 m0 d0) (k1 : Mus w A1 n1 c1 l1) (w2 : (Lit.int .i64 a2).wf = true) (hf : fewS s0 = true) (hm : mayB s0 = false) :
    Calls Try.prog 4 #[s0.agg A0 n0 c0 B0 m0 d0, .slice A1 n1 c1, .int .i64 a2] w fun e w' => e = .returned (.bool true) ∧ Below w.heap.size w w' := by
  have HF := Lib.hid hf; clear hf
  have HM := Lib.hid hm; clear hm
  have K_0 := Lib.hid (k0.keep (new1 w (.cells (stCells s0 A0 n0 c0 B0 m0 d0) 25)))
  have X_0 := Lib.hid (own_new w (stCells s0 A0 n0 c0 B0 m0 d0) 25)
  have M_0 := Lib.hid (k1.keep (new1 w (.cells (stCells s0 A0 n0 c0 B0 m0 d0) 25)))
  have B_0 := Lib.hid (new1 w (.cells (stCells s0 A0 n0 c0 B0 m0 d0) 25))
  clear k0 k1
  go_enter Try.func4, Try.ntmps4
  have x0 := X_0.out.cell 0 _ rfl
  have x1 := X_0.out.cell 1 _ rfl
  have x2 := X_0.out.cell 2 _ rfl
  have x3 := X_0.out.cell 3 _ rfl
  go_wp2_with fail
  refine (few_st s0 A0 n0 c0 B0 m0 d0 _ K_0.out).mono ?_; rintro e w1 ⟨rfl, hb⟩
  rw [HF.out]
  have S_1 := Lib.hid hb; clear hb
  have K_2 := Lib.hid (K_0.out.keep S_1.out)
  have X_3 := Lib.hid (X_0.out.below S_1.out)
  have M_4 := Lib.hid (M_0.out.keep S_1.out)
  have B_5 := Lib.hid (then_ B_0.out S_1.out)
  clear K_0 X_0 M_0 B_0
  clear S_1
  clear x0 x1 x2 x3
  have x0 := X_3.out.cell 0 _ rfl
  have x1 := X_3.out.cell 1 _ rfl
  have x2 := X_3.out.cell 2 _ rfl
  have x3 := X_3.out.cell 3 _ rfl
  go_wp2_with fail
  refine (mvmay_any s0 A0 n0 c0 B0 m0 d0 _ K_2.out).mono ?_; rintro e w2 ⟨rfl, hb⟩
  rw [HM.out]
  have S_6 := Lib.hid hb; clear hb
  have K_7 := Lib.hid (K_2.out.keep S_6.out)
  have X_8 := Lib.hid (X_3.out.below S_6.out)
  have M_9 := Lib.hid (M_4.out.keep S_6.out)
  have B_10 := Lib.hid (then_ B_5.out S_6.out)
  clear K_2 X_3 M_4 B_5
  clear S_6
  clear x0 x1 x2 x3
  go_wp2_with fail
  refine (live_any _).mono ?_; rintro e w3 ⟨rfl, hb⟩
  have S_11 := Lib.hid hb; clear hb
  have K_12 := Lib.hid (K_7.out.keep S_11.out)
  have X_13 := Lib.hid (X_8.out.below S_11.out)
  have M_14 := Lib.hid (M_9.out.keep S_11.out)
  have B_15 := Lib.hid (then_ B_10.out S_11.out)
  clear K_7 X_8 M_9 B_10
  clear S_11
  go_wp2
  go_ret
  exact ⟨rfl, B_15.out⟩
theorem no_len (w : World) (s0 : St) (A0 : Option Addr) (n0 c0 : Nat) (B0 : Option Addr) (m0 d0 : Nat) (A1 : Option Addr) (n1 c1 : Nat) (l1 : List Mu) (a2 : Int) (k0 : StAt w s0 A0 n0 c0 B0 m0 d0) (k1 : Mus w A1 n1 c1 l1) (w2 : (Lit.int .i64 a2).wf = true) (hf : fewS s0 = true) (hm : mayB s0 = true) (hn : 40 < n1) :
    Calls Try.prog 4 #[s0.agg A0 n0 c0 B0 m0 d0, .slice A1 n1 c1, .int .i64 a2] w fun e w' => e = .returned (.bool true) ∧ Below w.heap.size w w' := by
  have HF := Lib.hid hf; clear hf
  have HM := Lib.hid hm; clear hm
  have K_0 := Lib.hid (k0.keep (new1 w (.cells (stCells s0 A0 n0 c0 B0 m0 d0) 25)))
  have X_0 := Lib.hid (own_new w (stCells s0 A0 n0 c0 B0 m0 d0) 25)
  have M_0 := Lib.hid (k1.keep (new1 w (.cells (stCells s0 A0 n0 c0 B0 m0 d0) 25)))
  have B_0 := Lib.hid (new1 w (.cells (stCells s0 A0 n0 c0 B0 m0 d0) 25))
  clear k0 k1
  go_enter Try.func4, Try.ntmps4
  have x0 := X_0.out.cell 0 _ rfl
  have x1 := X_0.out.cell 1 _ rfl
  have x2 := X_0.out.cell 2 _ rfl
  have x3 := X_0.out.cell 3 _ rfl
  go_wp2_with fail
  refine (few_st s0 A0 n0 c0 B0 m0 d0 _ K_0.out).mono ?_; rintro e w1 ⟨rfl, hb⟩
  rw [HF.out]
  have S_1 := Lib.hid hb; clear hb
  have K_2 := Lib.hid (K_0.out.keep S_1.out)
  have X_3 := Lib.hid (X_0.out.below S_1.out)
  have M_4 := Lib.hid (M_0.out.keep S_1.out)
  have B_5 := Lib.hid (then_ B_0.out S_1.out)
  clear K_0 X_0 M_0 B_0
  clear S_1
  clear x0 x1 x2 x3
  have x0 := X_3.out.cell 0 _ rfl
  have x1 := X_3.out.cell 1 _ rfl
  have x2 := X_3.out.cell 2 _ rfl
  have x3 := X_3.out.cell 3 _ rfl
  go_wp2_with fail
  refine (mvmay_any s0 A0 n0 c0 B0 m0 d0 _ K_2.out).mono ?_; rintro e w2 ⟨rfl, hb⟩
  rw [HM.out]
  have S_6 := Lib.hid hb; clear hb
  have K_7 := Lib.hid (K_2.out.keep S_6.out)
  have X_8 := Lib.hid (X_3.out.below S_6.out)
  have M_9 := Lib.hid (M_4.out.keep S_6.out)
  have B_10 := Lib.hid (then_ B_5.out S_6.out)
  clear K_2 X_3 M_4 B_5
  clear S_6
  clear x0 x1 x2 x3
  go_wp2_with fail
  refine (live_any _).mono ?_; rintro e w3 ⟨rfl, hb⟩
  have S_11 := Lib.hid hb; clear hb
  have K_12 := Lib.hid (K_7.out.keep S_11.out)
  have X_13 := Lib.hid (X_8.out.below S_11.out)
  have M_14 := Lib.hid (M_9.out.keep S_11.out)
  have B_15 := Lib.hid (then_ B_10.out S_11.out)
  clear K_7 X_8 M_9 B_10
  clear S_11
  go_wp2
  go_ret
  exact ⟨rfl, B_15.out⟩
theorem no_short (w : World) (s0 : St) (A0 : Option Addr) (n0 c0 : Nat) (B0 : Option Addr) (m0 d0 : Nat) (A1 : Option Addr) (n1 c1 : Nat) (l1 : List Mu) (a2 : Int) (k0 : StAt w s0 A0 n0 c0 B0 m0 d0) (k1 : Mus w A1 n1 c1 l1) (w2 : (Lit.int .i64 a2).wf = true) (hf : fewS s0 = true) (hm : mayB s0 = true) (hn : n1 ≤ 40) (hs : l1.all shMu = false) :
    Calls Try.prog 4 #[s0.agg A0 n0 c0 B0 m0 d0, .slice A1 n1 c1, .int .i64 a2] w fun e w' => e = .returned (.bool true) ∧ Below w.heap.size w w' := by
  have HF := Lib.hid hf; clear hf
  have HM := Lib.hid hm; clear hm
  have HS := Lib.hid hs; clear hs
  have K_0 := Lib.hid (k0.keep (new1 w (.cells (stCells s0 A0 n0 c0 B0 m0 d0) 25)))
  have X_0 := Lib.hid (own_new w (stCells s0 A0 n0 c0 B0 m0 d0) 25)
  have M_0 := Lib.hid (k1.keep (new1 w (.cells (stCells s0 A0 n0 c0 B0 m0 d0) 25)))
  have B_0 := Lib.hid (new1 w (.cells (stCells s0 A0 n0 c0 B0 m0 d0) 25))
  clear k0 k1
  go_enter Try.func4, Try.ntmps4
  have x0 := X_0.out.cell 0 _ rfl
  have x1 := X_0.out.cell 1 _ rfl
  have x2 := X_0.out.cell 2 _ rfl
  have x3 := X_0.out.cell 3 _ rfl
  go_wp2_with fail
  refine (few_st s0 A0 n0 c0 B0 m0 d0 _ K_0.out).mono ?_; rintro e w1 ⟨rfl, hb⟩
  rw [HF.out]
  have S_1 := Lib.hid hb; clear hb
  have K_2 := Lib.hid (K_0.out.keep S_1.out)
  have X_3 := Lib.hid (X_0.out.below S_1.out)
  have M_4 := Lib.hid (M_0.out.keep S_1.out)
  have B_5 := Lib.hid (then_ B_0.out S_1.out)
  clear K_0 X_0 M_0 B_0
  clear S_1
  clear x0 x1 x2 x3
  have x0 := X_3.out.cell 0 _ rfl
  have x1 := X_3.out.cell 1 _ rfl
  have x2 := X_3.out.cell 2 _ rfl
  have x3 := X_3.out.cell 3 _ rfl
  go_wp2_with fail
  refine (mvmay_any s0 A0 n0 c0 B0 m0 d0 _ K_2.out).mono ?_; rintro e w2 ⟨rfl, hb⟩
  rw [HM.out]
  have S_6 := Lib.hid hb; clear hb
  have K_7 := Lib.hid (K_2.out.keep S_6.out)
  have X_8 := Lib.hid (X_3.out.below S_6.out)
  have M_9 := Lib.hid (M_4.out.keep S_6.out)
  have B_10 := Lib.hid (then_ B_5.out S_6.out)
  clear K_2 X_3 M_4 B_5
  clear S_6
  clear x0 x1 x2 x3
  go_wp2_with fail
  refine (short_any A1 n1 c1 l1 _ M_9.out).mono ?_; rintro e w' ⟨rfl, rfl⟩
  rw [HS.out]
  go_wp2_with fail
  refine (live_any _).mono ?_; rintro e w3 ⟨rfl, hb⟩
  have S_11 := Lib.hid hb; clear hb
  have K_12 := Lib.hid (K_7.out.keep S_11.out)
  have X_13 := Lib.hid (X_8.out.below S_11.out)
  have M_14 := Lib.hid (M_9.out.keep S_11.out)
  have B_15 := Lib.hid (then_ B_10.out S_11.out)
  clear K_7 X_8 M_9 B_10
  clear S_11
  go_wp2
  go_ret
  exact ⟨rfl, B_15.out⟩
theorem fine (w : World) (s0 : St) (A0 : Option Addr) (n0 c0 : Nat) (B0 : Option Addr) (m0 d0 : Nat) (A1 : Option Addr) (n1 c1 : Nat) (l1 : List Mu) (a2 : Int) (k0 : StAt w s0 A0 n0 c0 B0 m0 d0) (k1 : Mus w A1 n1 c1 l1) (w2 : (Lit.int .i64 a2).wf = true) (hf : fewS s0 = true) (hm : mayB s0 = true) (hn : n1 ≤ 40) (hs : l1.all shMu = true) :
    Calls Try.prog 4 #[s0.agg A0 n0 c0 B0 m0 d0, .slice A1 n1 c1, .int .i64 a2] w fun e w' => e = .returned (.bool true) ∧ Below w.heap.size w w' := by
  have HF := Lib.hid hf; have HM := Lib.hid hm; have HS := Lib.hid hs; have MS := Lib.hid (may_st.1 hm)
  have hb0 := k0.kv.len; have hb1 := k0.ev.len; have hb2 := MS.out.good.len; have hb3 := MS.out.len
  have HB : Hid (n0 + m0 ≤ 90000) := Lib.hid (by omega)
  have HI := Lib.hid (inI_of w2)
  have MA := Lib.hid (apply_may MS.out l1)
  have ha2 := MA.out.good.len; have ha3 := MA.out.len
  have SL : Hid ((shrunk s0 a2).base.length ≤ 1000 ∧ (shrunk s0 a2).log.length ≤ 1000) := Lib.hid (shrunk_len (by omega) (by omega))
  have EL : Hid ((applyEv s0 l1).length ≤ 1000) := Lib.hid (ev_len MS.out l1)
  have e5 : (applyE s0 l1 == applyE s0 l1) = true := by simp
  have e6 : (keptE s0 a2 == keptE s0 a2) = true := by simp
  clear hf hm hs hb0 hb1 hb2 hb3
  have K_0 := Lib.hid (k0.keep (new1 w (.cells (stCells s0 A0 n0 c0 B0 m0 d0) 25)))
  have X_0 := Lib.hid (own_new w (stCells s0 A0 n0 c0 B0 m0 d0) 25)
  have M_0 := Lib.hid (k1.keep (new1 w (.cells (stCells s0 A0 n0 c0 B0 m0 d0) 25)))
  have B_0 := Lib.hid (new1 w (.cells (stCells s0 A0 n0 c0 B0 m0 d0) 25))
  clear k0 k1
  go_enter Try.func4, Try.ntmps4
  have x0 := X_0.out.cell 0 _ rfl
  have x1 := X_0.out.cell 1 _ rfl
  have x2 := X_0.out.cell 2 _ rfl
  have x3 := X_0.out.cell 3 _ rfl
  go_wp2_with fail
  refine (few_st s0 A0 n0 c0 B0 m0 d0 _ K_0.out).mono ?_; rintro e w1 ⟨rfl, hb⟩
  rw [HF.out]
  have S_1 := Lib.hid hb; clear hb
  have K_2 := Lib.hid (K_0.out.keep S_1.out)
  have X_3 := Lib.hid (X_0.out.below S_1.out)
  have M_4 := Lib.hid (M_0.out.keep S_1.out)
  have B_5 := Lib.hid (then_ B_0.out S_1.out)
  clear K_0 X_0 M_0 B_0
  clear S_1
  clear x0 x1 x2 x3
  have x0 := X_3.out.cell 0 _ rfl
  have x1 := X_3.out.cell 1 _ rfl
  have x2 := X_3.out.cell 2 _ rfl
  have x3 := X_3.out.cell 3 _ rfl
  go_wp2_with fail
  refine (mvmay_any s0 A0 n0 c0 B0 m0 d0 _ K_2.out).mono ?_; rintro e w2 ⟨rfl, hb⟩
  rw [HM.out]
  have S_6 := Lib.hid hb; clear hb
  have K_7 := Lib.hid (K_2.out.keep S_6.out)
  have X_8 := Lib.hid (X_3.out.below S_6.out)
  have M_9 := Lib.hid (M_4.out.keep S_6.out)
  have B_10 := Lib.hid (then_ B_5.out S_6.out)
  clear K_2 X_3 M_4 B_5
  clear S_6
  clear x0 x1 x2 x3
  go_wp2_with fail
  refine (short_any A1 n1 c1 l1 _ M_9.out).mono ?_; rintro e w' ⟨rfl, rfl⟩
  rw [HS.out]
  have x0 := X_8.out.cell 0 _ rfl
  have x1 := X_8.out.cell 1 _ rfl
  have x2 := X_8.out.cell 2 _ rfl
  have x3 := X_8.out.cell 3 _ rfl
  go_wp2_with fail
  refine (apply_any s0 A0 n0 c0 B0 m0 d0 A1 n1 c1 l1 _ K_7.out M_9.out MS.out).mono ?_; rintro e w3 ⟨P1, p1, q1, Q1, u1, v1, E1, en1, ec1, rfl, h1, g1, hb⟩
  have S_11 := Lib.hid hb; clear hb
  have K_12 := Lib.hid (K_7.out.keep S_11.out)
  have X_13 := Lib.hid (X_8.out.below S_11.out)
  have M_14 := Lib.hid (M_9.out.keep S_11.out)
  have B_15 := Lib.hid (then_ B_10.out S_11.out)
  clear K_7 X_8 M_9 B_10
  clear S_11
  clear x0 x1 x2 x3
  have L1_16 := Lib.hid (h1)
  have V1_17 := Lib.hid (g1)
  clear h1 g1
  have K_18 := Lib.hid (K_12.out.keep (new1 w3 (.cells (#[.int .i64 (applyS s0 l1).rev, .int .i64 (applyS s0 l1).low, .slice P1 p1 q1, .slice Q1 u1 v1]) 25)))
  have X_19 := Lib.hid (X_13.out.below (new1 w3 (.cells (#[.int .i64 (applyS s0 l1).rev, .int .i64 (applyS s0 l1).low, .slice P1 p1 q1, .slice Q1 u1 v1]) 25)))
  have M_20 := Lib.hid (M_14.out.keep (new1 w3 (.cells (#[.int .i64 (applyS s0 l1).rev, .int .i64 (applyS s0 l1).low, .slice P1 p1 q1, .slice Q1 u1 v1]) 25)))
  have L1_21 := Lib.hid (L1_16.out.keep (new1 w3 (.cells (#[.int .i64 (applyS s0 l1).rev, .int .i64 (applyS s0 l1).low, .slice P1 p1 q1, .slice Q1 u1 v1]) 25)))
  have V1_22 := Lib.hid (V1_17.out.keep (new1 w3 (.cells (#[.int .i64 (applyS s0 l1).rev, .int .i64 (applyS s0 l1).low, .slice P1 p1 q1, .slice Q1 u1 v1]) 25)))
  have B_23 := Lib.hid (then_ B_15.out (new1 w3 (.cells (#[.int .i64 (applyS s0 l1).rev, .int .i64 (applyS s0 l1).low, .slice P1 p1 q1, .slice Q1 u1 v1]) 25)))
  clear K_12 X_13 M_14 L1_16 V1_17 B_15
  have R1_24 := Lib.hid (own_new w3 (#[.int .i64 (applyS s0 l1).rev, .int .i64 (applyS s0 l1).low, .slice P1 p1 q1, .slice Q1 u1 v1]) 25)
  have x0 := X_19.out.cell 0 _ rfl
  have x1 := X_19.out.cell 1 _ rfl
  have x2 := X_19.out.cell 2 _ rfl
  have x3 := X_19.out.cell 3 _ rfl
  go_wp2_with fail
  refine (apply_ref s0 A0 n0 c0 B0 m0 d0 A1 n1 c1 l1 _ K_18.out M_20.out MS.out).mono ?_; rintro e w4 ⟨P2, p2, q2, Q2, u2, v2, E2, en2, ec2, rfl, h2, g2, hb⟩
  have S_25 := Lib.hid hb; clear hb
  have K_26 := Lib.hid (K_18.out.keep S_25.out)
  have X_27 := Lib.hid (X_19.out.below S_25.out)
  have M_28 := Lib.hid (M_20.out.keep S_25.out)
  have L1_29 := Lib.hid (L1_21.out.keep S_25.out)
  have V1_30 := Lib.hid (V1_22.out.keep S_25.out)
  have R1_31 := Lib.hid (R1_24.out.below S_25.out)
  have B_32 := Lib.hid (then_ B_23.out S_25.out)
  clear K_18 X_19 M_20 L1_21 V1_22 R1_24 B_23
  clear S_25
  clear x0 x1 x2 x3
  have L2_33 := Lib.hid (h2)
  have V2_34 := Lib.hid (g2)
  clear h2 g2
  have K_35 := Lib.hid (K_26.out.keep (new1 w4 (.cells (#[.int .i64 (applyS s0 l1).rev, .int .i64 (applyS s0 l1).low, .slice P2 p2 q2, .slice Q2 u2 v2]) 25)))
  have X_36 := Lib.hid (X_27.out.below (new1 w4 (.cells (#[.int .i64 (applyS s0 l1).rev, .int .i64 (applyS s0 l1).low, .slice P2 p2 q2, .slice Q2 u2 v2]) 25)))
  have M_37 := Lib.hid (M_28.out.keep (new1 w4 (.cells (#[.int .i64 (applyS s0 l1).rev, .int .i64 (applyS s0 l1).low, .slice P2 p2 q2, .slice Q2 u2 v2]) 25)))
  have L1_38 := Lib.hid (L1_29.out.keep (new1 w4 (.cells (#[.int .i64 (applyS s0 l1).rev, .int .i64 (applyS s0 l1).low, .slice P2 p2 q2, .slice Q2 u2 v2]) 25)))
  have V1_39 := Lib.hid (V1_30.out.keep (new1 w4 (.cells (#[.int .i64 (applyS s0 l1).rev, .int .i64 (applyS s0 l1).low, .slice P2 p2 q2, .slice Q2 u2 v2]) 25)))
  have R1_40 := Lib.hid (R1_31.out.below (new1 w4 (.cells (#[.int .i64 (applyS s0 l1).rev, .int .i64 (applyS s0 l1).low, .slice P2 p2 q2, .slice Q2 u2 v2]) 25)))
  have L2_41 := Lib.hid (L2_33.out.keep (new1 w4 (.cells (#[.int .i64 (applyS s0 l1).rev, .int .i64 (applyS s0 l1).low, .slice P2 p2 q2, .slice Q2 u2 v2]) 25)))
  have V2_42 := Lib.hid (V2_34.out.keep (new1 w4 (.cells (#[.int .i64 (applyS s0 l1).rev, .int .i64 (applyS s0 l1).low, .slice P2 p2 q2, .slice Q2 u2 v2]) 25)))
  have B_43 := Lib.hid (then_ B_32.out (new1 w4 (.cells (#[.int .i64 (applyS s0 l1).rev, .int .i64 (applyS s0 l1).low, .slice P2 p2 q2, .slice Q2 u2 v2]) 25)))
  clear K_26 X_27 M_28 L1_29 V1_30 R1_31 L2_33 V2_34 B_32
  have R2_44 := Lib.hid (own_new w4 (#[.int .i64 (applyS s0 l1).rev, .int .i64 (applyS s0 l1).low, .slice P2 p2 q2, .slice Q2 u2 v2]) 25)
  have x0 := X_36.out.cell 0 _ rfl
  have x1 := X_36.out.cell 1 _ rfl
  have x2 := X_36.out.cell 2 _ rfl
  have x3 := X_36.out.cell 3 _ rfl
  go_wp2_with fail
  refine (shrink_any s0 A0 n0 c0 B0 m0 d0 a2 _ K_35.out HB.out HI.out).mono ?_; rintro e w5 ⟨P3, p3, q3, Q3, u3, v3, rfl, h3, hb⟩
  have S_45 := Lib.hid hb; clear hb
  have K_46 := Lib.hid (K_35.out.keep S_45.out)
  have X_47 := Lib.hid (X_36.out.below S_45.out)
  have M_48 := Lib.hid (M_37.out.keep S_45.out)
  have L1_49 := Lib.hid (L1_38.out.keep S_45.out)
  have V1_50 := Lib.hid (V1_39.out.keep S_45.out)
  have R1_51 := Lib.hid (R1_40.out.below S_45.out)
  have L2_52 := Lib.hid (L2_41.out.keep S_45.out)
  have V2_53 := Lib.hid (V2_42.out.keep S_45.out)
  have R2_54 := Lib.hid (R2_44.out.below S_45.out)
  have B_55 := Lib.hid (then_ B_43.out S_45.out)
  clear K_35 X_36 M_37 L1_38 V1_39 R1_40 L2_41 V2_42 R2_44 B_43
  clear S_45
  clear x0 x1 x2 x3
  have L3_56 := Lib.hid (h3)
  clear h3
  have K_57 := Lib.hid (K_46.out.keep (new1 w5 (.cells (#[.int .i64 (shrunk s0 a2).rev, .int .i64 (shrunk s0 a2).low, .slice P3 p3 q3, .slice Q3 u3 v3]) 25)))
  have X_58 := Lib.hid (X_47.out.below (new1 w5 (.cells (#[.int .i64 (shrunk s0 a2).rev, .int .i64 (shrunk s0 a2).low, .slice P3 p3 q3, .slice Q3 u3 v3]) 25)))
  have M_59 := Lib.hid (M_48.out.keep (new1 w5 (.cells (#[.int .i64 (shrunk s0 a2).rev, .int .i64 (shrunk s0 a2).low, .slice P3 p3 q3, .slice Q3 u3 v3]) 25)))
  have L1_60 := Lib.hid (L1_49.out.keep (new1 w5 (.cells (#[.int .i64 (shrunk s0 a2).rev, .int .i64 (shrunk s0 a2).low, .slice P3 p3 q3, .slice Q3 u3 v3]) 25)))
  have V1_61 := Lib.hid (V1_50.out.keep (new1 w5 (.cells (#[.int .i64 (shrunk s0 a2).rev, .int .i64 (shrunk s0 a2).low, .slice P3 p3 q3, .slice Q3 u3 v3]) 25)))
  have R1_62 := Lib.hid (R1_51.out.below (new1 w5 (.cells (#[.int .i64 (shrunk s0 a2).rev, .int .i64 (shrunk s0 a2).low, .slice P3 p3 q3, .slice Q3 u3 v3]) 25)))
  have L2_63 := Lib.hid (L2_52.out.keep (new1 w5 (.cells (#[.int .i64 (shrunk s0 a2).rev, .int .i64 (shrunk s0 a2).low, .slice P3 p3 q3, .slice Q3 u3 v3]) 25)))
  have V2_64 := Lib.hid (V2_53.out.keep (new1 w5 (.cells (#[.int .i64 (shrunk s0 a2).rev, .int .i64 (shrunk s0 a2).low, .slice P3 p3 q3, .slice Q3 u3 v3]) 25)))
  have R2_65 := Lib.hid (R2_54.out.below (new1 w5 (.cells (#[.int .i64 (shrunk s0 a2).rev, .int .i64 (shrunk s0 a2).low, .slice P3 p3 q3, .slice Q3 u3 v3]) 25)))
  have L3_66 := Lib.hid (L3_56.out.keep (new1 w5 (.cells (#[.int .i64 (shrunk s0 a2).rev, .int .i64 (shrunk s0 a2).low, .slice P3 p3 q3, .slice Q3 u3 v3]) 25)))
  have B_67 := Lib.hid (then_ B_55.out (new1 w5 (.cells (#[.int .i64 (shrunk s0 a2).rev, .int .i64 (shrunk s0 a2).low, .slice P3 p3 q3, .slice Q3 u3 v3]) 25)))
  clear K_46 X_47 M_48 L1_49 V1_50 R1_51 L2_52 V2_53 R2_54 L3_56 B_55
  have R3_68 := Lib.hid (own_new w5 (#[.int .i64 (shrunk s0 a2).rev, .int .i64 (shrunk s0 a2).low, .slice P3 p3 q3, .slice Q3 u3 v3]) 25)
  have x0 := X_58.out.cell 0 _ rfl
  have x1 := X_58.out.cell 1 _ rfl
  have x2 := X_58.out.cell 2 _ rfl
  have x3 := X_58.out.cell 3 _ rfl
  go_wp2_with fail
  refine (shrink_ref s0 A0 n0 c0 B0 m0 d0 a2 _ K_57.out HB.out HI.out).mono ?_; rintro e w6 ⟨P4, p4, q4, Q4, u4, v4, rfl, h4, hb⟩
  have S_69 := Lib.hid hb; clear hb
  have K_70 := Lib.hid (K_57.out.keep S_69.out)
  have X_71 := Lib.hid (X_58.out.below S_69.out)
  have M_72 := Lib.hid (M_59.out.keep S_69.out)
  have L1_73 := Lib.hid (L1_60.out.keep S_69.out)
  have V1_74 := Lib.hid (V1_61.out.keep S_69.out)
  have R1_75 := Lib.hid (R1_62.out.below S_69.out)
  have L2_76 := Lib.hid (L2_63.out.keep S_69.out)
  have V2_77 := Lib.hid (V2_64.out.keep S_69.out)
  have R2_78 := Lib.hid (R2_65.out.below S_69.out)
  have L3_79 := Lib.hid (L3_66.out.keep S_69.out)
  have R3_80 := Lib.hid (R3_68.out.below S_69.out)
  have B_81 := Lib.hid (then_ B_67.out S_69.out)
  clear K_57 X_58 M_59 L1_60 V1_61 R1_62 L2_63 V2_64 R2_65 L3_66 R3_68 B_67
  clear S_69
  clear x0 x1 x2 x3
  have L4_82 := Lib.hid (h4)
  clear h4
  have K_83 := Lib.hid (K_70.out.keep (new1 w6 (.cells (#[.int .i64 (shrunk s0 a2).rev, .int .i64 (shrunk s0 a2).low, .slice P4 p4 q4, .slice Q4 u4 v4]) 25)))
  have X_84 := Lib.hid (X_71.out.below (new1 w6 (.cells (#[.int .i64 (shrunk s0 a2).rev, .int .i64 (shrunk s0 a2).low, .slice P4 p4 q4, .slice Q4 u4 v4]) 25)))
  have M_85 := Lib.hid (M_72.out.keep (new1 w6 (.cells (#[.int .i64 (shrunk s0 a2).rev, .int .i64 (shrunk s0 a2).low, .slice P4 p4 q4, .slice Q4 u4 v4]) 25)))
  have L1_86 := Lib.hid (L1_73.out.keep (new1 w6 (.cells (#[.int .i64 (shrunk s0 a2).rev, .int .i64 (shrunk s0 a2).low, .slice P4 p4 q4, .slice Q4 u4 v4]) 25)))
  have V1_87 := Lib.hid (V1_74.out.keep (new1 w6 (.cells (#[.int .i64 (shrunk s0 a2).rev, .int .i64 (shrunk s0 a2).low, .slice P4 p4 q4, .slice Q4 u4 v4]) 25)))
  have R1_88 := Lib.hid (R1_75.out.below (new1 w6 (.cells (#[.int .i64 (shrunk s0 a2).rev, .int .i64 (shrunk s0 a2).low, .slice P4 p4 q4, .slice Q4 u4 v4]) 25)))
  have L2_89 := Lib.hid (L2_76.out.keep (new1 w6 (.cells (#[.int .i64 (shrunk s0 a2).rev, .int .i64 (shrunk s0 a2).low, .slice P4 p4 q4, .slice Q4 u4 v4]) 25)))
  have V2_90 := Lib.hid (V2_77.out.keep (new1 w6 (.cells (#[.int .i64 (shrunk s0 a2).rev, .int .i64 (shrunk s0 a2).low, .slice P4 p4 q4, .slice Q4 u4 v4]) 25)))
  have R2_91 := Lib.hid (R2_78.out.below (new1 w6 (.cells (#[.int .i64 (shrunk s0 a2).rev, .int .i64 (shrunk s0 a2).low, .slice P4 p4 q4, .slice Q4 u4 v4]) 25)))
  have L3_92 := Lib.hid (L3_79.out.keep (new1 w6 (.cells (#[.int .i64 (shrunk s0 a2).rev, .int .i64 (shrunk s0 a2).low, .slice P4 p4 q4, .slice Q4 u4 v4]) 25)))
  have R3_93 := Lib.hid (R3_80.out.below (new1 w6 (.cells (#[.int .i64 (shrunk s0 a2).rev, .int .i64 (shrunk s0 a2).low, .slice P4 p4 q4, .slice Q4 u4 v4]) 25)))
  have L4_94 := Lib.hid (L4_82.out.keep (new1 w6 (.cells (#[.int .i64 (shrunk s0 a2).rev, .int .i64 (shrunk s0 a2).low, .slice P4 p4 q4, .slice Q4 u4 v4]) 25)))
  have B_95 := Lib.hid (then_ B_81.out (new1 w6 (.cells (#[.int .i64 (shrunk s0 a2).rev, .int .i64 (shrunk s0 a2).low, .slice P4 p4 q4, .slice Q4 u4 v4]) 25)))
  clear K_70 X_71 M_72 L1_73 V1_74 R1_75 L2_76 V2_77 R2_78 L3_79 R3_80 L4_82 B_81
  have R4_96 := Lib.hid (own_new w6 (#[.int .i64 (shrunk s0 a2).rev, .int .i64 (shrunk s0 a2).low, .slice P4 p4 q4, .slice Q4 u4 v4]) 25)
  obtain rfl : p1 = p2 := L1_86.out.kv.len.symm.trans L2_89.out.kv.len
  obtain rfl : u1 = u2 := L1_86.out.ev.len.symm.trans L2_89.out.ev.len
  obtain rfl : p3 = p4 := L3_92.out.kv.len.symm.trans L4_94.out.kv.len
  obtain rfl : u3 = u4 := L3_92.out.ev.len.symm.trans L4_94.out.ev.len
  obtain rfl : en1 = en2 := V1_87.out.len.symm.trans V2_90.out.len
  have hp1 := L1_86.out.kv.len; have hp2 := L1_86.out.ev.len; have hp3 := L3_92.out.kv.len; have hp4 := L3_92.out.ev.len; have hp5 := V1_87.out.len
  have HP : Hid (p1 ≤ 1000000 ∧ u1 ≤ 1000000 ∧ p3 ≤ 1000000 ∧ u3 ≤ 1000000 ∧ en1 ≤ 1000000) := Lib.hid (by have h1 := SL.out; have h2 := EL.out; omega)
  clear hp1 hp2 hp3 hp4 hp5 ha2 ha3
  have x0 := R1_88.out.cell 0 _ rfl
  have x1 := R1_88.out.cell 1 _ rfl
  have x2 := R1_88.out.cell 2 _ rfl
  have x3 := R1_88.out.cell 3 _ rfl
  have y0 := R2_91.out.cell 0 _ rfl
  have y1 := R2_91.out.cell 1 _ rfl
  have y2 := R2_91.out.cell 2 _ rfl
  have y3 := R2_91.out.cell 3 _ rfl
  have z0 := R3_93.out.cell 0 _ rfl
  have z1 := R3_93.out.cell 1 _ rfl
  have z2 := R3_93.out.cell 2 _ rfl
  have z3 := R3_93.out.cell 3 _ rfl
  have t0 := R4_96.out.cell 0 _ rfl
  have t1 := R4_96.out.cell 1 _ rfl
  have t2 := R4_96.out.cell 2 _ rfl
  have t3 := R4_96.out.cell 3 _ rfl
  go_wp2_with fail
  refine (st_same (applyS s0 l1) P1 P2 p1 q1 q2 Q1 Q2 u1 v1 v2 _ L1_86.out L2_89.out HP.out.1 HP.out.2.1).mono ?_; rintro e w7 ⟨rfl, hb⟩
  have S_97 := Lib.hid hb; clear hb
  have K_98 := Lib.hid (K_83.out.keep S_97.out)
  have X_99 := Lib.hid (X_84.out.below S_97.out)
  have M_100 := Lib.hid (M_85.out.keep S_97.out)
  have L1_101 := Lib.hid (L1_86.out.keep S_97.out)
  have V1_102 := Lib.hid (V1_87.out.keep S_97.out)
  have R1_103 := Lib.hid (R1_88.out.below S_97.out)
  have L2_104 := Lib.hid (L2_89.out.keep S_97.out)
  have V2_105 := Lib.hid (V2_90.out.keep S_97.out)
  have R2_106 := Lib.hid (R2_91.out.below S_97.out)
  have L3_107 := Lib.hid (L3_92.out.keep S_97.out)
  have R3_108 := Lib.hid (R3_93.out.below S_97.out)
  have L4_109 := Lib.hid (L4_94.out.keep S_97.out)
  have R4_110 := Lib.hid (R4_96.out.below S_97.out)
  have B_111 := Lib.hid (then_ B_95.out S_97.out)
  clear K_83 X_84 M_85 L1_86 V1_87 R1_88 L2_89 V2_90 R2_91 L3_92 R3_93 L4_94 R4_96 B_95
  clear S_97
  clear x0 x1 x2 x3
  clear y0 y1 y2 y3
  clear z0 z1 z2 z3
  clear t0 t1 t2 t3
  have z0 := R3_108.out.cell 0 _ rfl
  have z1 := R3_108.out.cell 1 _ rfl
  have z2 := R3_108.out.cell 2 _ rfl
  have z3 := R3_108.out.cell 3 _ rfl
  have t0 := R4_110.out.cell 0 _ rfl
  have t1 := R4_110.out.cell 1 _ rfl
  have t2 := R4_110.out.cell 2 _ rfl
  have t3 := R4_110.out.cell 3 _ rfl
  go_wp2_with fail
  refine (evs_same E1 E2 en1 ec1 ec2 (applyEv s0 l1) _ V1_102.out V2_105.out HP.out.2.2.2.2).mono ?_; rintro e w8 ⟨rfl, hb⟩
  have S_112 := Lib.hid hb; clear hb
  have K_113 := Lib.hid (K_98.out.keep S_112.out)
  have X_114 := Lib.hid (X_99.out.below S_112.out)
  have M_115 := Lib.hid (M_100.out.keep S_112.out)
  have L1_116 := Lib.hid (L1_101.out.keep S_112.out)
  have V1_117 := Lib.hid (V1_102.out.keep S_112.out)
  have R1_118 := Lib.hid (R1_103.out.below S_112.out)
  have L2_119 := Lib.hid (L2_104.out.keep S_112.out)
  have V2_120 := Lib.hid (V2_105.out.keep S_112.out)
  have R2_121 := Lib.hid (R2_106.out.below S_112.out)
  have L3_122 := Lib.hid (L3_107.out.keep S_112.out)
  have R3_123 := Lib.hid (R3_108.out.below S_112.out)
  have L4_124 := Lib.hid (L4_109.out.keep S_112.out)
  have R4_125 := Lib.hid (R4_110.out.below S_112.out)
  have B_126 := Lib.hid (then_ B_111.out S_112.out)
  clear K_98 X_99 M_100 L1_101 V1_102 R1_103 L2_104 V2_105 R2_106 L3_107 R3_108 L4_109 R4_110 B_111
  clear S_112
  clear z0 z1 z2 z3
  clear t0 t1 t2 t3
  have z0 := R3_123.out.cell 0 _ rfl
  have z1 := R3_123.out.cell 1 _ rfl
  have z2 := R3_123.out.cell 2 _ rfl
  have z3 := R3_123.out.cell 3 _ rfl
  have t0 := R4_125.out.cell 0 _ rfl
  have t1 := R4_125.out.cell 1 _ rfl
  have t2 := R4_125.out.cell 2 _ rfl
  have t3 := R4_125.out.cell 3 _ rfl
  go_wp2_with fail
  refine (st_same (shrunk s0 a2) P3 P4 p3 q3 q4 Q3 Q4 u3 v3 v4 _ L3_122.out L4_124.out HP.out.2.2.1 HP.out.2.2.2.1).mono ?_; rintro e w9 ⟨rfl, hb⟩
  have S_127 := Lib.hid hb; clear hb
  have K_128 := Lib.hid (K_113.out.keep S_127.out)
  have X_129 := Lib.hid (X_114.out.below S_127.out)
  have M_130 := Lib.hid (M_115.out.keep S_127.out)
  have L1_131 := Lib.hid (L1_116.out.keep S_127.out)
  have V1_132 := Lib.hid (V1_117.out.keep S_127.out)
  have R1_133 := Lib.hid (R1_118.out.below S_127.out)
  have L2_134 := Lib.hid (L2_119.out.keep S_127.out)
  have V2_135 := Lib.hid (V2_120.out.keep S_127.out)
  have R2_136 := Lib.hid (R2_121.out.below S_127.out)
  have L3_137 := Lib.hid (L3_122.out.keep S_127.out)
  have R3_138 := Lib.hid (R3_123.out.below S_127.out)
  have L4_139 := Lib.hid (L4_124.out.keep S_127.out)
  have R4_140 := Lib.hid (R4_125.out.below S_127.out)
  have B_141 := Lib.hid (then_ B_126.out S_127.out)
  clear K_113 X_114 M_115 L1_116 V1_117 R1_118 L2_119 V2_120 R2_121 L3_122 R3_123 L4_124 R4_125 B_126
  clear S_127
  clear z0 z1 z2 z3
  clear t0 t1 t2 t3
  go_wp2_with fail
  refine (live_any _).mono ?_; rintro e w10 ⟨rfl, hb⟩
  have S_142 := Lib.hid hb; clear hb
  have K_143 := Lib.hid (K_128.out.keep S_142.out)
  have X_144 := Lib.hid (X_129.out.below S_142.out)
  have M_145 := Lib.hid (M_130.out.keep S_142.out)
  have L1_146 := Lib.hid (L1_131.out.keep S_142.out)
  have V1_147 := Lib.hid (V1_132.out.keep S_142.out)
  have R1_148 := Lib.hid (R1_133.out.below S_142.out)
  have L2_149 := Lib.hid (L2_134.out.keep S_142.out)
  have V2_150 := Lib.hid (V2_135.out.keep S_142.out)
  have R2_151 := Lib.hid (R2_136.out.below S_142.out)
  have L3_152 := Lib.hid (L3_137.out.keep S_142.out)
  have R3_153 := Lib.hid (R3_138.out.below S_142.out)
  have L4_154 := Lib.hid (L4_139.out.keep S_142.out)
  have R4_155 := Lib.hid (R4_140.out.below S_142.out)
  have B_156 := Lib.hid (then_ B_141.out S_142.out)
  clear K_128 X_129 M_130 L1_131 V1_132 R1_133 L2_134 V2_135 R2_136 L3_137 R3_138 L4_139 R4_140 B_141
  clear S_142
  go_wp2
  go_ret
  exact ⟨rfl, B_156.out⟩
theorem walk (w : World) (s0 : St) (A0 : Option Addr) (n0 c0 : Nat) (B0 : Option Addr) (m0 d0 : Nat) (A1 : Option Addr) (n1 c1 : Nat) (l1 : List Mu) (a2 : Int) (k0 : StAt w s0 A0 n0 c0 B0 m0 d0) (k1 : Mus w A1 n1 c1 l1) (w2 : (Lit.int .i64 a2).wf = true) :
    Calls Try.prog 4 #[s0.agg A0 n0 c0 B0 m0 d0, .slice A1 n1 c1, .int .i64 a2] w fun e w' => e = .returned (.bool true) ∧ Below w.heap.size w w' := by
  cases hf : fewS s0 with
  | false => exact no_few w s0 A0 n0 c0 B0 m0 d0 A1 n1 c1 l1 a2 k0 k1 w2 hf
  | true =>
    cases hm : mayB s0 with
    | false => exact no_may w s0 A0 n0 c0 B0 m0 d0 A1 n1 c1 l1 a2 k0 k1 w2 hf hm
    | true =>
      by_cases hn : n1 ≤ 40
      · cases hs : l1.all shMu with
        | false => exact no_short w s0 A0 n0 c0 B0 m0 d0 A1 n1 c1 l1 a2 k0 k1 w2 hf hm hn hs
        | true => exact fine w s0 A0 n0 c0 B0 m0 d0 A1 n1 c1 l1 a2 k0 k1 w2 hf hm hn hs
      · exact no_len w s0 A0 n0 c0 B0 m0 d0 A1 n1 c1 l1 a2 k0 k1 w2 hf hm (by omega)

theorem own : ownKnob Try.prog.godebug = none := by kernel_rfl
theorem laidOut : laidOutB Try.prog = true := by kernel_rfl

set_option maxRecDepth 100000 in
theorem lifted (os : Os) (started : os.Started) (H : Type) (enc : TypeId × Value → H) :
    ReturnsInHanded {} Try.checked os 4 .any (Rows.mvccAppliesSpec.pre6 enc Try.prog Try.f4 Rows.mvccAppliesRow.domain false) (Rows.mvccAppliesSpec.post enc Try.prog Try.f4 false true false false) := by
  refine returnsInHanded_of_change (C := Try.checked) own started (by kernel_rfl) Try.func4
    (ChangeSpec.witness6 (enc := enc) (C := Try.checked) false ⟨#[], #[.agg #[.int .i64 0, .int .i64 0, .slice none 0 0, .slice none 0 0], .slice none 0 0, (.int .i64 0)], []⟩ 8 (by kernel_rfl) (by kernel_rfl) (by kernel_rfl) (by kernel_rfl)) ?_
  intro W base args ds gs before hval0 hW hcnd _
  have hval : ∀ (j : Nat) t v, Try.f4.params[j]? = some t → args[j]? = some v → Value.okWide Try.prog W .any base t v := hval0
  have hW' := hW
  obtain ⟨p, q, hA0, hV, rfl, hfz, hnd⟩ := hW
  have hA : DataW.TrodAll enc Try.prog W 0 (fun _ => true) true Try.f4.params.toList args.toList ds p := hA0
  rw [Try.params4] at hA hval
  obtain ⟨v0, vs0, d0, ds0, p0, q0, hargs, rfl, rfl, h0, r0⟩ := trodAll_cons hA
  obtain ⟨v1, vs1, d1, ds1, p1, q1, rfl, rfl, rfl, h1, r1⟩ := trodAll_cons r0
  obtain ⟨v2, vs2, d2, ds2, p2, q2, rfl, rfl, rfl, h2, r2⟩ := trodAll_cons r1
  obtain ⟨rfl, rfl, rfl⟩ := trodAll_nil r2
  obtain rfl : args = #[v0, v1, v2] := by cases args; simp_all
  obtain ⟨rfl, rfl⟩ := trodVars_none hV
  obtain ⟨s0, A0, n0, c0, B0, m0, d0, rfl, k0⟩ := open_st (hval 0 25 v0 rfl rfl) h0
  obtain ⟨A1, n1, c1, l1, rfl, k1⟩ := open_mus (hval 1 34 v1 rfl rfl) h1
  obtain ⟨a2, rfl, rfl, rfl, w2⟩ := open_int Try.underlying3 (hval 2 3 v2 rfl rfl) h2
  clear hA0 hval0
  refine (walk W s0 A0 n0 c0 B0 m0 d0 A1 n1 c1 l1 a2 k0 k1 w2).mono fun e W' ⟨he, bel⟩ => ?_
  subst he
  exact ⟨_, rfl, _, _, _, [], _, [], hW', trodAll_mk1 (shut_bool Try.underlying4 _), (trodAll_cons_mk (Below.trod laidOut (by kernel_rfl) (of_decide_eq_true (by kernel_rfl)) h0 bel (fun x hx => hW'.lt x (by simp [hx]))) (trodAll_cons_mk (Below.trod laidOut (by kernel_rfl) (of_decide_eq_true (by kernel_rfl)) h1 bel (fun x hx => hW'.lt x (by simp [hx]))) (trodAll_cons_mk (shut_int Try.underlying3 w2) trodAll_mk0))), rfl, bel.frame _, fun h => by cases h⟩

theorem over : Rows.mvccAppliesRow.holds Try.pinned (OpenSpec.ofChange Rows.mvccAppliesSpec) :=
  OpenClaim.holds_of_wide 4 Try.f4 rfl rfl rfl rfl rfl rfl rfl ⟨rfl, rfl, rfl, rfl, rfl⟩ rfl rfl rfl rfl rfl (by kernel_rfl) Try.func4 (by kernel_rfl)
    (of_decide_eq_true (by kernel_rfl)) (by unfold Func.isWrapper; first | (rw [if_pos (by decide +kernel)]; kernel_rfl) | (rw [if_neg (by decide +kernel)]; exact ⟨rfl, rfl⟩))
    (fun os started H enc _ => lifted os started H enc)

theorem proved : Rows.MvccAppliesSaid := over
#print axioms proved
end Go.Proofs.Ytlffhehpeeiogaa.mvccApplies
