/- For every store and any two revisions the law MvccShrinks answers true: a store that was shrunk may be, and has at each revision from there on what it had; below, it tells that it was. No condition. -/
import Derived.Deep.RegionHeld3
import Derived.Test.YtlffhehpeeiogaaMvLaysPure
import Derived.Test.YtlffhehpeeiogaaMvOpen
import Derived.Test.YtlffhehpeeiogaaRows
namespace Go.Proofs.Ytlffhehpeeiogaa.mvccShrinks
open Go.ChangeShapes Go.WideShapes Go.ChangeAt Go.RowKit Go.Proofs.Ytlffhehpeeiogaa.P
open Go.ChangeMaps (open_string shut_string)
set_option linter.unusedVariables false
set_option linter.unusedSimpArgs false
set_option maxHeartbeats 2000000
set_option maxRecDepth 100000

theorem sh_of {s : St} {rev : Int} {s' : St} {x : Int} (h : shrunk s rev = s' ∧ keptE s rev = x) {w : World} {e : Ending} {w' : World} (k : ShrinkEnd s rev w e w') : ShTo s' x w e w' := by
  obtain ⟨h1, h2⟩ := h
  subst h1 h2
  exact k
theorem at_len (s : St) (t : Int) : (atL s t).length ≤ s.base.length + s.log.length := by
  unfold atL nowL
  have h1 := foldL_len s.log s.rev s.base
  have h2 := foldL_len s.log t s.base
  split
  · omega
  · split
    · omega
    · simp
theorem again {s : St} (h : MaySt s) {to : Int} (hk : keptE s to = 0) : shrunk (shrinkS s to) to = shrinkS s to ∧ keptE (shrinkS s to) to = 0 := by
  have e : keptE (shrinkS s to) to = 0 := by
    have := kept_le hk
    unfold keptE shrinkS; simp only
    rw [if_neg (by omega), if_neg (by omega)]
  refine ⟨?_, e⟩
  unfold shrunk; rw [if_pos e, shrink_twice h hk]
theorem below_ {s : St} {to t : Int} (hk : keptE s to = 0) (h0 : 0 < t) (h1 : t < to) : atL (shrinkS s to) t = [] ∧ atE (shrinkS s to) t = 9 := by
  have hh := kept_le hk
  have e : keptE (shrinkS s to) t = 9 := by
    unfold keptE shrinkS; simp only
    rw [if_neg (by omega), if_pos h1]
  have h2 : ¬ t = 0 := by omega
  unfold atL atE
  rw [if_neg h2, if_neg h2, e]
  exact ⟨rfl, rfl⟩
theorem from_ {s : St} (h : MaySt s) {to t : Int} (hk : keptE s to = 0) (h1 : t ≤ 0 ∨ to ≤ t) : atL (shrinkS s to) t = atL s t ∧ atE (shrinkS s to) t = atE s t := by
  have hh := kept_le hk
  by_cases h0 : t = 0
  · unfold atL atE
    rw [if_pos h0, if_pos h0, if_pos h0, if_pos h0, shrink_now h hk]; exact ⟨rfl, rfl⟩
  · have e : keptE (shrinkS s to) t = keptE s t := by
      unfold keptE shrinkS; simp only
      by_cases h2 : t < 0 ∨ s.rev < t
      · rw [if_pos h2, if_pos h2]
      · rw [if_neg h2, if_neg h2, if_neg (by omega), if_neg (by omega)]
    unfold atL atE
    rw [if_neg h0, if_neg h0, if_neg h0, if_neg h0, e]
    refine ⟨?_, rfl⟩
    split
    · have := kept_le ‹_›
      exact shrink_at h (by omega)
    · rfl
theorem out_of {s : St} (h : MaySt s) {to : Int} (hk : keptE s to ≠ 0) : to < s.low ∨ s.rev < to := by
  have h1 := h.low
  unfold keptE at hk
  split at hk
  · omega
  · split at hk
    · omega
    · exact absurd rfl hk
theorem no_few (w : World) (s0 : St) (A0 : Option Addr) (n0 c0 : Nat) (B0 : Option Addr) (m0 d0 : Nat) (a1 : Int) (a2 : Int) (k0 : StAt w s0 A0 n0 c0 B0 m0 d0) (w1 : (Lit.int .i64 a1).wf = true) (w2 : (Lit.int .i64 a2).wf = true) (hf : fewS s0 = false) :
    Calls Try.prog 6 #[s0.agg A0 n0 c0 B0 m0 d0, .int .i64 a1, .int .i64 a2] w fun e w' => e = .returned (.bool true) ∧ Below w.heap.size w w' := by
  have HF := Lib.hid hf; clear hf
  have K_0 := Lib.hid (k0.keep (new1 w (.cells (stCells s0 A0 n0 c0 B0 m0 d0) 25)))
  have X_0 := Lib.hid (own_new w (stCells s0 A0 n0 c0 B0 m0 d0) 25)
  have B_0 := Lib.hid (new1 w (.cells (stCells s0 A0 n0 c0 B0 m0 d0) 25))
  clear k0
  go_enter Try.func6, Try.ntmps6
  have x0 := X_0.out.cell 0 _ rfl
  have x1 := X_0.out.cell 1 _ rfl
  have x2 := X_0.out.cell 2 _ rfl
  have x3 := X_0.out.cell 3 _ rfl
  go_wp2_with fail
  refine (few_st s0 A0 n0 c0 B0 m0 d0 _ K_0.out).mono ?_; rintro e w1 ⟨rfl, hb⟩
  rw [HF.out]
  have S_1 := Lib.hid hb; clear hb
  have K_2 := Lib.hid (K_0.out.keep S_1.out)
  have X_3 := Lib.hid (X_0.out.below S_1.out)
  have B_4 := Lib.hid (then_ B_0.out S_1.out)
  clear K_0 X_0 B_0
  clear S_1
  clear x0 x1 x2 x3
  go_wp2_with fail
  refine (live_any _).mono ?_; rintro e w2 ⟨rfl, hb⟩
  have S_5 := Lib.hid hb; clear hb
  have K_6 := Lib.hid (K_2.out.keep S_5.out)
  have X_7 := Lib.hid (X_3.out.below S_5.out)
  have B_8 := Lib.hid (then_ B_4.out S_5.out)
  clear K_2 X_3 B_4
  clear S_5
  go_wp2
  go_ret
  exact ⟨rfl, B_8.out⟩
theorem no_may (w : World) (s0 : St) (A0 : Option Addr) (n0 c0 : Nat) (B0 : Option Addr) (m0 d0 : Nat) (a1 : Int) (a2 : Int) (k0 : StAt w s0 A0 n0 c0 B0 m0 d0) (w1 : (Lit.int .i64 a1).wf = true) (w2 : (Lit.int .i64 a2).wf = true) (hf : fewS s0 = true) (hm : mayB s0 = false) :
    Calls Try.prog 6 #[s0.agg A0 n0 c0 B0 m0 d0, .int .i64 a1, .int .i64 a2] w fun e w' => e = .returned (.bool true) ∧ Below w.heap.size w w' := by
  have HF := Lib.hid hf; clear hf
  have HM := Lib.hid hm; clear hm
  have K_0 := Lib.hid (k0.keep (new1 w (.cells (stCells s0 A0 n0 c0 B0 m0 d0) 25)))
  have X_0 := Lib.hid (own_new w (stCells s0 A0 n0 c0 B0 m0 d0) 25)
  have B_0 := Lib.hid (new1 w (.cells (stCells s0 A0 n0 c0 B0 m0 d0) 25))
  clear k0
  go_enter Try.func6, Try.ntmps6
  have x0 := X_0.out.cell 0 _ rfl
  have x1 := X_0.out.cell 1 _ rfl
  have x2 := X_0.out.cell 2 _ rfl
  have x3 := X_0.out.cell 3 _ rfl
  go_wp2_with fail
  refine (few_st s0 A0 n0 c0 B0 m0 d0 _ K_0.out).mono ?_; rintro e w1 ⟨rfl, hb⟩
  rw [HF.out]
  have S_1 := Lib.hid hb; clear hb
  have K_2 := Lib.hid (K_0.out.keep S_1.out)
  have X_3 := Lib.hid (X_0.out.below S_1.out)
  have B_4 := Lib.hid (then_ B_0.out S_1.out)
  clear K_0 X_0 B_0
  clear S_1
  clear x0 x1 x2 x3
  have x0 := X_3.out.cell 0 _ rfl
  have x1 := X_3.out.cell 1 _ rfl
  have x2 := X_3.out.cell 2 _ rfl
  have x3 := X_3.out.cell 3 _ rfl
  go_wp2_with fail
  refine (mvmay_any s0 A0 n0 c0 B0 m0 d0 _ K_2.out).mono ?_; rintro e w2 ⟨rfl, hb⟩
  rw [HM.out]
  have S_5 := Lib.hid hb; clear hb
  have K_6 := Lib.hid (K_2.out.keep S_5.out)
  have X_7 := Lib.hid (X_3.out.below S_5.out)
  have B_8 := Lib.hid (then_ B_4.out S_5.out)
  clear K_2 X_3 B_4
  clear S_5
  clear x0 x1 x2 x3
  go_wp2_with fail
  refine (live_any _).mono ?_; rintro e w3 ⟨rfl, hb⟩
  have S_9 := Lib.hid hb; clear hb
  have K_10 := Lib.hid (K_6.out.keep S_9.out)
  have X_11 := Lib.hid (X_7.out.below S_9.out)
  have B_12 := Lib.hid (then_ B_8.out S_9.out)
  clear K_6 X_7 B_8
  clear S_9
  go_wp2
  go_ret
  exact ⟨rfl, B_12.out⟩
theorem err_low (w : World) (s0 : St) (A0 : Option Addr) (n0 c0 : Nat) (B0 : Option Addr) (m0 d0 : Nat) (a1 : Int) (a2 : Int) (k0 : StAt w s0 A0 n0 c0 B0 m0 d0) (w1 : (Lit.int .i64 a1).wf = true) (w2 : (Lit.int .i64 a2).wf = true) (hf : fewS s0 = true) (hm : mayB s0 = true) (hk : keptE s0 a1 ≠ 0) (hl : a1 < s0.low) :
    Calls Try.prog 6 #[s0.agg A0 n0 c0 B0 m0 d0, .int .i64 a1, .int .i64 a2] w fun e w' => e = .returned (.bool true) ∧ Below w.heap.size w w' := by
  have HF := Lib.hid hf; have HM := Lib.hid hm; have MS := Lib.hid (may_st.1 hm)
  have hb0 := k0.kv.len; have hb1 := k0.ev.len; have hb2 := MS.out.good.len; have hb3 := MS.out.len
  have HB : Hid (n0 + m0 ≤ 900000) := Lib.hid (by omega)
  have HB1 : Hid (n0 + m0 ≤ 90000) := Lib.hid (by omega)
  have HI1 := Lib.hid (inI_of w1); have HI2 := Lib.hid (inI_of w2)
  have hk1 : (keptE s0 a1 != 0) = true := by simp [hk]
  have SE : Hid (shrunk s0 a1 = s0) := Lib.hid (if_neg hk)
  have hla : decide (a1 < s0.low) = true := decide_eq_true hl
  clear hf hm hk
  have K_0 := Lib.hid (k0.keep (new1 w (.cells (stCells s0 A0 n0 c0 B0 m0 d0) 25)))
  have X_0 := Lib.hid (own_new w (stCells s0 A0 n0 c0 B0 m0 d0) 25)
  have B_0 := Lib.hid (new1 w (.cells (stCells s0 A0 n0 c0 B0 m0 d0) 25))
  clear k0
  go_enter Try.func6, Try.ntmps6
  have x0 := X_0.out.cell 0 _ rfl
  have x1 := X_0.out.cell 1 _ rfl
  have x2 := X_0.out.cell 2 _ rfl
  have x3 := X_0.out.cell 3 _ rfl
  go_wp2_with fail
  refine (few_st s0 A0 n0 c0 B0 m0 d0 _ K_0.out).mono ?_; rintro e w1 ⟨rfl, hb⟩
  rw [HF.out]
  have S_1 := Lib.hid hb; clear hb
  have K_2 := Lib.hid (K_0.out.keep S_1.out)
  have X_3 := Lib.hid (X_0.out.below S_1.out)
  have B_4 := Lib.hid (then_ B_0.out S_1.out)
  clear K_0 X_0 B_0
  clear S_1
  clear x0 x1 x2 x3
  have x0 := X_3.out.cell 0 _ rfl
  have x1 := X_3.out.cell 1 _ rfl
  have x2 := X_3.out.cell 2 _ rfl
  have x3 := X_3.out.cell 3 _ rfl
  go_wp2_with fail
  refine (mvmay_any s0 A0 n0 c0 B0 m0 d0 _ K_2.out).mono ?_; rintro e w2 ⟨rfl, hb⟩
  rw [HM.out]
  have S_5 := Lib.hid hb; clear hb
  have K_6 := Lib.hid (K_2.out.keep S_5.out)
  have X_7 := Lib.hid (X_3.out.below S_5.out)
  have B_8 := Lib.hid (then_ B_4.out S_5.out)
  clear K_2 X_3 B_4
  clear S_5
  clear x0 x1 x2 x3
  have x0 := X_7.out.cell 0 _ rfl
  have x1 := X_7.out.cell 1 _ rfl
  have x2 := X_7.out.cell 2 _ rfl
  have x3 := X_7.out.cell 3 _ rfl
  go_wp2_with fail
  refine ((shrink_any s0 A0 n0 c0 B0 m0 d0 a1 _ K_6.out HB1.out HI1.out).mono fun e w' h => sh_of (s' := s0) (x := (keptE s0 a1)) ⟨SE.out, rfl⟩ h).mono ?_; rintro e w3 ⟨P1, p1, q1, Q1, u1, v1, rfl, h1, hb⟩
  have S_9 := Lib.hid hb; clear hb
  have K_10 := Lib.hid (K_6.out.keep S_9.out)
  have X_11 := Lib.hid (X_7.out.below S_9.out)
  have B_12 := Lib.hid (then_ B_8.out S_9.out)
  clear K_6 X_7 B_8
  clear S_9
  clear x0 x1 x2 x3
  have L1_13 := Lib.hid (h1)
  clear h1
  have K_14 := Lib.hid (K_10.out.keep (new1 w3 (.cells (#[.int .i64 s0.rev, .int .i64 s0.low, .slice P1 p1 q1, .slice Q1 u1 v1]) 25)))
  have X_15 := Lib.hid (X_11.out.below (new1 w3 (.cells (#[.int .i64 s0.rev, .int .i64 s0.low, .slice P1 p1 q1, .slice Q1 u1 v1]) 25)))
  have L1_16 := Lib.hid (L1_13.out.keep (new1 w3 (.cells (#[.int .i64 s0.rev, .int .i64 s0.low, .slice P1 p1 q1, .slice Q1 u1 v1]) 25)))
  have B_17 := Lib.hid (then_ B_12.out (new1 w3 (.cells (#[.int .i64 s0.rev, .int .i64 s0.low, .slice P1 p1 q1, .slice Q1 u1 v1]) 25)))
  clear K_10 X_11 L1_13 B_12
  have R1_18 := Lib.hid (own_new w3 (#[.int .i64 s0.rev, .int .i64 s0.low, .slice P1 p1 q1, .slice Q1 u1 v1]) 25)
  obtain rfl : n0 = p1 := hb0.symm.trans L1_16.out.kv.len
  obtain rfl : m0 = u1 := hb1.symm.trans L1_16.out.ev.len
  have x0 := X_15.out.cell 0 _ rfl
  have x1 := X_15.out.cell 1 _ rfl
  have x2 := X_15.out.cell 2 _ rfl
  have x3 := X_15.out.cell 3 _ rfl
  have y0 := R1_18.out.cell 0 _ rfl
  have y1 := R1_18.out.cell 1 _ rfl
  have y2 := R1_18.out.cell 2 _ rfl
  have y3 := R1_18.out.cell 3 _ rfl
  go_wp2_with fail
  refine (st_same s0 A0 P1 n0 c0 q1 B0 Q1 m0 d0 v1 _ K_14.out L1_16.out (by omega) (by omega)).mono ?_; rintro e w4 ⟨rfl, hb⟩
  have S_19 := Lib.hid hb; clear hb
  have K_20 := Lib.hid (K_14.out.keep S_19.out)
  have X_21 := Lib.hid (X_15.out.below S_19.out)
  have L1_22 := Lib.hid (L1_16.out.keep S_19.out)
  have R1_23 := Lib.hid (R1_18.out.below S_19.out)
  have B_24 := Lib.hid (then_ B_17.out S_19.out)
  clear K_14 X_15 L1_16 R1_18 B_17
  clear S_19
  clear x0 x1 x2 x3
  clear y0 y1 y2 y3
  have x0 := X_21.out.cell 0 _ rfl
  have x1 := X_21.out.cell 1 _ rfl
  have x2 := X_21.out.cell 2 _ rfl
  have x3 := X_21.out.cell 3 _ rfl
  go_wp2_with fail
  refine (live_any _).mono ?_; rintro e w5 ⟨rfl, hb⟩
  have S_25 := Lib.hid hb; clear hb
  have K_26 := Lib.hid (K_20.out.keep S_25.out)
  have X_27 := Lib.hid (X_21.out.below S_25.out)
  have L1_28 := Lib.hid (L1_22.out.keep S_25.out)
  have R1_29 := Lib.hid (R1_23.out.below S_25.out)
  have B_30 := Lib.hid (then_ B_24.out S_25.out)
  clear K_20 X_21 L1_22 R1_23 B_24
  clear S_25
  go_wp2
  go_ret
  exact ⟨rfl, B_30.out⟩
theorem err_high (w : World) (s0 : St) (A0 : Option Addr) (n0 c0 : Nat) (B0 : Option Addr) (m0 d0 : Nat) (a1 : Int) (a2 : Int) (k0 : StAt w s0 A0 n0 c0 B0 m0 d0) (w1 : (Lit.int .i64 a1).wf = true) (w2 : (Lit.int .i64 a2).wf = true) (hf : fewS s0 = true) (hm : mayB s0 = true) (hk : keptE s0 a1 ≠ 0) (hl : ¬ a1 < s0.low) (hh : s0.rev < a1) :
    Calls Try.prog 6 #[s0.agg A0 n0 c0 B0 m0 d0, .int .i64 a1, .int .i64 a2] w fun e w' => e = .returned (.bool true) ∧ Below w.heap.size w w' := by
  have HF := Lib.hid hf; have HM := Lib.hid hm; have MS := Lib.hid (may_st.1 hm)
  have hb0 := k0.kv.len; have hb1 := k0.ev.len; have hb2 := MS.out.good.len; have hb3 := MS.out.len
  have HB : Hid (n0 + m0 ≤ 900000) := Lib.hid (by omega)
  have HB1 : Hid (n0 + m0 ≤ 90000) := Lib.hid (by omega)
  have HI1 := Lib.hid (inI_of w1); have HI2 := Lib.hid (inI_of w2)
  have hk1 : (keptE s0 a1 != 0) = true := by simp [hk]
  have SE : Hid (shrunk s0 a1 = s0) := Lib.hid (if_neg hk)
  have hla : decide (a1 < s0.low) = false := decide_eq_false hl
  have hha : decide (s0.rev < a1) = true := decide_eq_true hh
  clear hf hm hk
  have K_0 := Lib.hid (k0.keep (new1 w (.cells (stCells s0 A0 n0 c0 B0 m0 d0) 25)))
  have X_0 := Lib.hid (own_new w (stCells s0 A0 n0 c0 B0 m0 d0) 25)
  have B_0 := Lib.hid (new1 w (.cells (stCells s0 A0 n0 c0 B0 m0 d0) 25))
  clear k0
  go_enter Try.func6, Try.ntmps6
  have x0 := X_0.out.cell 0 _ rfl
  have x1 := X_0.out.cell 1 _ rfl
  have x2 := X_0.out.cell 2 _ rfl
  have x3 := X_0.out.cell 3 _ rfl
  go_wp2_with fail
  refine (few_st s0 A0 n0 c0 B0 m0 d0 _ K_0.out).mono ?_; rintro e w1 ⟨rfl, hb⟩
  rw [HF.out]
  have S_1 := Lib.hid hb; clear hb
  have K_2 := Lib.hid (K_0.out.keep S_1.out)
  have X_3 := Lib.hid (X_0.out.below S_1.out)
  have B_4 := Lib.hid (then_ B_0.out S_1.out)
  clear K_0 X_0 B_0
  clear S_1
  clear x0 x1 x2 x3
  have x0 := X_3.out.cell 0 _ rfl
  have x1 := X_3.out.cell 1 _ rfl
  have x2 := X_3.out.cell 2 _ rfl
  have x3 := X_3.out.cell 3 _ rfl
  go_wp2_with fail
  refine (mvmay_any s0 A0 n0 c0 B0 m0 d0 _ K_2.out).mono ?_; rintro e w2 ⟨rfl, hb⟩
  rw [HM.out]
  have S_5 := Lib.hid hb; clear hb
  have K_6 := Lib.hid (K_2.out.keep S_5.out)
  have X_7 := Lib.hid (X_3.out.below S_5.out)
  have B_8 := Lib.hid (then_ B_4.out S_5.out)
  clear K_2 X_3 B_4
  clear S_5
  clear x0 x1 x2 x3
  have x0 := X_7.out.cell 0 _ rfl
  have x1 := X_7.out.cell 1 _ rfl
  have x2 := X_7.out.cell 2 _ rfl
  have x3 := X_7.out.cell 3 _ rfl
  go_wp2_with fail
  refine ((shrink_any s0 A0 n0 c0 B0 m0 d0 a1 _ K_6.out HB1.out HI1.out).mono fun e w' h => sh_of (s' := s0) (x := (keptE s0 a1)) ⟨SE.out, rfl⟩ h).mono ?_; rintro e w3 ⟨P1, p1, q1, Q1, u1, v1, rfl, h1, hb⟩
  have S_9 := Lib.hid hb; clear hb
  have K_10 := Lib.hid (K_6.out.keep S_9.out)
  have X_11 := Lib.hid (X_7.out.below S_9.out)
  have B_12 := Lib.hid (then_ B_8.out S_9.out)
  clear K_6 X_7 B_8
  clear S_9
  clear x0 x1 x2 x3
  have L1_13 := Lib.hid (h1)
  clear h1
  have K_14 := Lib.hid (K_10.out.keep (new1 w3 (.cells (#[.int .i64 s0.rev, .int .i64 s0.low, .slice P1 p1 q1, .slice Q1 u1 v1]) 25)))
  have X_15 := Lib.hid (X_11.out.below (new1 w3 (.cells (#[.int .i64 s0.rev, .int .i64 s0.low, .slice P1 p1 q1, .slice Q1 u1 v1]) 25)))
  have L1_16 := Lib.hid (L1_13.out.keep (new1 w3 (.cells (#[.int .i64 s0.rev, .int .i64 s0.low, .slice P1 p1 q1, .slice Q1 u1 v1]) 25)))
  have B_17 := Lib.hid (then_ B_12.out (new1 w3 (.cells (#[.int .i64 s0.rev, .int .i64 s0.low, .slice P1 p1 q1, .slice Q1 u1 v1]) 25)))
  clear K_10 X_11 L1_13 B_12
  have R1_18 := Lib.hid (own_new w3 (#[.int .i64 s0.rev, .int .i64 s0.low, .slice P1 p1 q1, .slice Q1 u1 v1]) 25)
  obtain rfl : n0 = p1 := hb0.symm.trans L1_16.out.kv.len
  obtain rfl : m0 = u1 := hb1.symm.trans L1_16.out.ev.len
  have x0 := X_15.out.cell 0 _ rfl
  have x1 := X_15.out.cell 1 _ rfl
  have x2 := X_15.out.cell 2 _ rfl
  have x3 := X_15.out.cell 3 _ rfl
  have y0 := R1_18.out.cell 0 _ rfl
  have y1 := R1_18.out.cell 1 _ rfl
  have y2 := R1_18.out.cell 2 _ rfl
  have y3 := R1_18.out.cell 3 _ rfl
  go_wp2_with fail
  refine (st_same s0 A0 P1 n0 c0 q1 B0 Q1 m0 d0 v1 _ K_14.out L1_16.out (by omega) (by omega)).mono ?_; rintro e w4 ⟨rfl, hb⟩
  have S_19 := Lib.hid hb; clear hb
  have K_20 := Lib.hid (K_14.out.keep S_19.out)
  have X_21 := Lib.hid (X_15.out.below S_19.out)
  have L1_22 := Lib.hid (L1_16.out.keep S_19.out)
  have R1_23 := Lib.hid (R1_18.out.below S_19.out)
  have B_24 := Lib.hid (then_ B_17.out S_19.out)
  clear K_14 X_15 L1_16 R1_18 B_17
  clear S_19
  clear x0 x1 x2 x3
  clear y0 y1 y2 y3
  have x0 := X_21.out.cell 0 _ rfl
  have x1 := X_21.out.cell 1 _ rfl
  have x2 := X_21.out.cell 2 _ rfl
  have x3 := X_21.out.cell 3 _ rfl
  go_wp2_with fail
  refine (live_any _).mono ?_; rintro e w5 ⟨rfl, hb⟩
  have S_25 := Lib.hid hb; clear hb
  have K_26 := Lib.hid (K_20.out.keep S_25.out)
  have X_27 := Lib.hid (X_21.out.below S_25.out)
  have L1_28 := Lib.hid (L1_22.out.keep S_25.out)
  have R1_29 := Lib.hid (R1_23.out.below S_25.out)
  have B_30 := Lib.hid (then_ B_24.out S_25.out)
  clear K_20 X_21 L1_22 R1_23 B_24
  clear S_25
  go_wp2
  go_ret
  exact ⟨rfl, B_30.out⟩
theorem fine_gone (w : World) (s0 : St) (A0 : Option Addr) (n0 c0 : Nat) (B0 : Option Addr) (m0 d0 : Nat) (a1 : Int) (a2 : Int) (k0 : StAt w s0 A0 n0 c0 B0 m0 d0) (w1 : (Lit.int .i64 a1).wf = true) (w2 : (Lit.int .i64 a2).wf = true) (hf : fewS s0 = true) (hm : mayB s0 = true) (hk : keptE s0 a1 = 0) (h0 : 0 < a2) (h1 : a2 < a1) :
    Calls Try.prog 6 #[s0.agg A0 n0 c0 B0 m0 d0, .int .i64 a1, .int .i64 a2] w fun e w' => e = .returned (.bool true) ∧ Below w.heap.size w w' := by
  have HF := Lib.hid hf; have HM := Lib.hid hm; have MS := Lib.hid (may_st.1 hm)
  have hb0 := k0.kv.len; have hb1 := k0.ev.len; have hb2 := MS.out.good.len; have hb3 := MS.out.len
  have HB : Hid (n0 + m0 ≤ 900000) := Lib.hid (by omega)
  have HB1 : Hid (n0 + m0 ≤ 90000) := Lib.hid (by omega)
  have HI1 := Lib.hid (inI_of w1); have HI2 := Lib.hid (inI_of w2)
  have SE : Hid (shrunk s0 a1 = shrinkS s0 a1 ∧ keptE s0 a1 = 0) := Lib.hid ⟨if_pos hk, hk⟩
  have AG := Lib.hid (again MS.out hk)
  have MA := Lib.hid (shrink_may MS.out hk)
  have MB := Lib.hid (may_st.2 MA.out)
  have ha2 := MA.out.good.len; have ha3 := MA.out.len
  have NW := Lib.hid (shrink_now MS.out hk)
  have hrev : ((shrinkS s0 a1).rev != s0.rev) = false := by simp [shrinkS]
  have hlow : ((shrinkS s0 a1).low != a1) = false := by simp [shrinkS]
  have BG := Lib.hid (below_ hk h0 h1)
  have z1 : (a2 != 0) = true := by simp; omega
  have z2 : decide (a2 < a1) = true := decide_eq_true h1
  have z3 : decide (0 < a2) = true := decide_eq_true h0
  clear hf hm hk h0
  have K_0 := Lib.hid (k0.keep (new1 w (.cells (stCells s0 A0 n0 c0 B0 m0 d0) 25)))
  have X_0 := Lib.hid (own_new w (stCells s0 A0 n0 c0 B0 m0 d0) 25)
  have B_0 := Lib.hid (new1 w (.cells (stCells s0 A0 n0 c0 B0 m0 d0) 25))
  clear k0
  go_enter Try.func6, Try.ntmps6
  have x0 := X_0.out.cell 0 _ rfl
  have x1 := X_0.out.cell 1 _ rfl
  have x2 := X_0.out.cell 2 _ rfl
  have x3 := X_0.out.cell 3 _ rfl
  go_wp2_with fail
  refine (few_st s0 A0 n0 c0 B0 m0 d0 _ K_0.out).mono ?_; rintro e w1 ⟨rfl, hb⟩
  rw [HF.out]
  have S_1 := Lib.hid hb; clear hb
  have K_2 := Lib.hid (K_0.out.keep S_1.out)
  have X_3 := Lib.hid (X_0.out.below S_1.out)
  have B_4 := Lib.hid (then_ B_0.out S_1.out)
  clear K_0 X_0 B_0
  clear S_1
  clear x0 x1 x2 x3
  have x0 := X_3.out.cell 0 _ rfl
  have x1 := X_3.out.cell 1 _ rfl
  have x2 := X_3.out.cell 2 _ rfl
  have x3 := X_3.out.cell 3 _ rfl
  go_wp2_with fail
  refine (mvmay_any s0 A0 n0 c0 B0 m0 d0 _ K_2.out).mono ?_; rintro e w2 ⟨rfl, hb⟩
  rw [HM.out]
  have S_5 := Lib.hid hb; clear hb
  have K_6 := Lib.hid (K_2.out.keep S_5.out)
  have X_7 := Lib.hid (X_3.out.below S_5.out)
  have B_8 := Lib.hid (then_ B_4.out S_5.out)
  clear K_2 X_3 B_4
  clear S_5
  clear x0 x1 x2 x3
  have x0 := X_7.out.cell 0 _ rfl
  have x1 := X_7.out.cell 1 _ rfl
  have x2 := X_7.out.cell 2 _ rfl
  have x3 := X_7.out.cell 3 _ rfl
  go_wp2_with fail
  refine ((shrink_any s0 A0 n0 c0 B0 m0 d0 a1 _ K_6.out HB1.out HI1.out).mono fun e w' h => sh_of (s' := (shrinkS s0 a1)) (x := 0) SE.out h).mono ?_; rintro e w3 ⟨P1, p1, q1, Q1, u1, v1, rfl, h1, hb⟩
  have S_9 := Lib.hid hb; clear hb
  have K_10 := Lib.hid (K_6.out.keep S_9.out)
  have X_11 := Lib.hid (X_7.out.below S_9.out)
  have B_12 := Lib.hid (then_ B_8.out S_9.out)
  clear K_6 X_7 B_8
  clear S_9
  clear x0 x1 x2 x3
  have L1_13 := Lib.hid (h1)
  clear h1
  have K_14 := Lib.hid (K_10.out.keep (new1 w3 (.cells (#[.int .i64 (shrinkS s0 a1).rev, .int .i64 (shrinkS s0 a1).low, .slice P1 p1 q1, .slice Q1 u1 v1]) 25)))
  have X_15 := Lib.hid (X_11.out.below (new1 w3 (.cells (#[.int .i64 (shrinkS s0 a1).rev, .int .i64 (shrinkS s0 a1).low, .slice P1 p1 q1, .slice Q1 u1 v1]) 25)))
  have L1_16 := Lib.hid (L1_13.out.keep (new1 w3 (.cells (#[.int .i64 (shrinkS s0 a1).rev, .int .i64 (shrinkS s0 a1).low, .slice P1 p1 q1, .slice Q1 u1 v1]) 25)))
  have B_17 := Lib.hid (then_ B_12.out (new1 w3 (.cells (#[.int .i64 (shrinkS s0 a1).rev, .int .i64 (shrinkS s0 a1).low, .slice P1 p1 q1, .slice Q1 u1 v1]) 25)))
  clear K_10 X_11 L1_13 B_12
  have R1_18 := Lib.hid (own_new w3 (#[.int .i64 (shrinkS s0 a1).rev, .int .i64 (shrinkS s0 a1).low, .slice P1 p1 q1, .slice Q1 u1 v1]) 25)
  have hp1 := L1_16.out.kv.len; have hp2 := L1_16.out.ev.len
  have HP : Hid (p1 + u1 ≤ 900000) := Lib.hid (by omega)
  have HB2 : Hid (p1 + u1 ≤ 90000) := Lib.hid (by omega)
  have y0 := R1_18.out.cell 0 _ rfl
  have y1 := R1_18.out.cell 1 _ rfl
  have y2 := R1_18.out.cell 2 _ rfl
  have y3 := R1_18.out.cell 3 _ rfl
  go_wp2_with fail
  refine ((shrink_any (shrinkS s0 a1) P1 p1 q1 Q1 u1 v1 a1 _ L1_16.out HB2.out HI1.out).mono fun e w' h => sh_of (s' := (shrinkS s0 a1)) (x := 0) AG.out h).mono ?_; rintro e w4 ⟨P2, p2, q2, Q2, u2, v2, rfl, h2, hb⟩
  have S_19 := Lib.hid hb; clear hb
  have K_20 := Lib.hid (K_14.out.keep S_19.out)
  have X_21 := Lib.hid (X_15.out.below S_19.out)
  have L1_22 := Lib.hid (L1_16.out.keep S_19.out)
  have R1_23 := Lib.hid (R1_18.out.below S_19.out)
  have B_24 := Lib.hid (then_ B_17.out S_19.out)
  clear K_14 X_15 L1_16 R1_18 B_17
  clear S_19
  clear y0 y1 y2 y3
  have L2_25 := Lib.hid (h2)
  clear h2
  have K_26 := Lib.hid (K_20.out.keep (new1 w4 (.cells (#[.int .i64 (shrinkS s0 a1).rev, .int .i64 (shrinkS s0 a1).low, .slice P2 p2 q2, .slice Q2 u2 v2]) 25)))
  have X_27 := Lib.hid (X_21.out.below (new1 w4 (.cells (#[.int .i64 (shrinkS s0 a1).rev, .int .i64 (shrinkS s0 a1).low, .slice P2 p2 q2, .slice Q2 u2 v2]) 25)))
  have L1_28 := Lib.hid (L1_22.out.keep (new1 w4 (.cells (#[.int .i64 (shrinkS s0 a1).rev, .int .i64 (shrinkS s0 a1).low, .slice P2 p2 q2, .slice Q2 u2 v2]) 25)))
  have R1_29 := Lib.hid (R1_23.out.below (new1 w4 (.cells (#[.int .i64 (shrinkS s0 a1).rev, .int .i64 (shrinkS s0 a1).low, .slice P2 p2 q2, .slice Q2 u2 v2]) 25)))
  have L2_30 := Lib.hid (L2_25.out.keep (new1 w4 (.cells (#[.int .i64 (shrinkS s0 a1).rev, .int .i64 (shrinkS s0 a1).low, .slice P2 p2 q2, .slice Q2 u2 v2]) 25)))
  have B_31 := Lib.hid (then_ B_24.out (new1 w4 (.cells (#[.int .i64 (shrinkS s0 a1).rev, .int .i64 (shrinkS s0 a1).low, .slice P2 p2 q2, .slice Q2 u2 v2]) 25)))
  clear K_20 X_21 L1_22 R1_23 L2_25 B_24
  have R2_32 := Lib.hid (own_new w4 (#[.int .i64 (shrinkS s0 a1).rev, .int .i64 (shrinkS s0 a1).low, .slice P2 p2 q2, .slice Q2 u2 v2]) 25)
  have x0 := X_27.out.cell 0 _ rfl
  have x1 := X_27.out.cell 1 _ rfl
  have x2 := X_27.out.cell 2 _ rfl
  have x3 := X_27.out.cell 3 _ rfl
  go_wp2_with fail
  refine (at_any s0 A0 n0 c0 B0 m0 d0 a2 _ K_26.out HB.out HI2.out).mono ?_; rintro e w5 ⟨W1, i1, j1, rfl, h3, hb⟩
  have S_33 := Lib.hid hb; clear hb
  have K_34 := Lib.hid (K_26.out.keep S_33.out)
  have X_35 := Lib.hid (X_27.out.below S_33.out)
  have L1_36 := Lib.hid (L1_28.out.keep S_33.out)
  have R1_37 := Lib.hid (R1_29.out.below S_33.out)
  have L2_38 := Lib.hid (L2_30.out.keep S_33.out)
  have R2_39 := Lib.hid (R2_32.out.below S_33.out)
  have B_40 := Lib.hid (then_ B_31.out S_33.out)
  clear K_26 X_27 L1_28 R1_29 L2_30 R2_32 B_31
  clear S_33
  clear x0 x1 x2 x3
  have WA_41 := Lib.hid (h3)
  clear h3
  have y0 := R1_37.out.cell 0 _ rfl
  have y1 := R1_37.out.cell 1 _ rfl
  have y2 := R1_37.out.cell 2 _ rfl
  have y3 := R1_37.out.cell 3 _ rfl
  go_wp2_with fail
  refine (at_any (shrinkS s0 a1) P1 p1 q1 Q1 u1 v1 a2 _ L1_36.out HP.out HI2.out).mono ?_; rintro e w6 ⟨W2, i2, j2, rfl, h4, hb⟩
  rw [BG.out.2]
  rw [BG.out.1] at h4
  have S_42 := Lib.hid hb; clear hb
  have K_43 := Lib.hid (K_34.out.keep S_42.out)
  have X_44 := Lib.hid (X_35.out.below S_42.out)
  have L1_45 := Lib.hid (L1_36.out.keep S_42.out)
  have R1_46 := Lib.hid (R1_37.out.below S_42.out)
  have L2_47 := Lib.hid (L2_38.out.keep S_42.out)
  have R2_48 := Lib.hid (R2_39.out.below S_42.out)
  have WA_49 := Lib.hid (WA_41.out.keep S_42.out)
  have B_50 := Lib.hid (then_ B_40.out S_42.out)
  clear K_34 X_35 L1_36 R1_37 L2_38 R2_39 WA_41 B_40
  clear S_42
  clear y0 y1 y2 y3
  have WB_51 := Lib.hid (h4)
  clear h4
  obtain rfl : p1 = p2 := hp1.symm.trans L2_47.out.kv.len
  obtain rfl : u1 = u2 := hp2.symm.trans L2_47.out.ev.len
  have x0 := X_44.out.cell 0 _ rfl
  have x1 := X_44.out.cell 1 _ rfl
  have x2 := X_44.out.cell 2 _ rfl
  have x3 := X_44.out.cell 3 _ rfl
  have y0 := R1_46.out.cell 0 _ rfl
  have y1 := R1_46.out.cell 1 _ rfl
  have y2 := R1_46.out.cell 2 _ rfl
  have y3 := R1_46.out.cell 3 _ rfl
  have z0 := R2_48.out.cell 0 _ rfl
  have z1 := R2_48.out.cell 1 _ rfl
  have z2 := R2_48.out.cell 2 _ rfl
  have z3 := R2_48.out.cell 3 _ rfl
  have hlx := X_44.out.lt; have hly := R1_46.out.lt; have hlz := R2_48.out.lt
  have tok1 : True := trivial; have tok2 : True := trivial; have tok3 : True := trivial
  go_wp2
  go_region_held3 (fun w' => w'.cell? ⟨w.heap.size, 0, none⟩ = some (.int .i64 s0.rev) ∧ w'.cell? ⟨w.heap.size, 1, none⟩ = some (.int .i64 s0.low) ∧ w'.cell? ⟨w.heap.size, 2, none⟩ = some (.slice A0 n0 c0) ∧ w'.cell? ⟨w.heap.size, 3, none⟩ = some (.slice B0 m0 d0) ∧ w'.cell? ⟨w3.heap.size, 0, none⟩ = some (.int .i64 (shrinkS s0 a1).rev) ∧ w'.cell? ⟨w3.heap.size, 1, none⟩ = some (.int .i64 (shrinkS s0 a1).low) ∧ w'.cell? ⟨w3.heap.size, 2, none⟩ = some (.slice P1 p1 q1) ∧ w'.cell? ⟨w3.heap.size, 3, none⟩ = some (.slice Q1 u1 v1) ∧ w'.cell? ⟨w4.heap.size, 0, none⟩ = some (.int .i64 (shrinkS s0 a1).rev) ∧ w'.cell? ⟨w4.heap.size, 1, none⟩ = some (.int .i64 (shrinkS s0 a1).low) ∧ w'.cell? ⟨w4.heap.size, 2, none⟩ = some (.slice P2 p1 q2) ∧ w'.cell? ⟨w4.heap.size, 3, none⟩ = some (.slice Q2 u1 v2)) (go_keep) (first
    | (go_at_call 19; have _t := tok1; clear _t tok1; (with_reducible refine (mvmay_any (shrinkS s0 a1) P1 p1 q1 Q1 u1 v1 _ (L1_45.out.keep (new_drew w6))).mono ?_); rintro e V1 ⟨rfl, hb⟩; rw [MB.out]; have HV1 : Hid (Below w6.heap.size w6 V1) := Lib.hid (then_ (new_drew w6) hb); clear hb; obtain ⟨hcV1, hfV1⟩ := bcell HV1.out)
    | (go_at_call 29; have _t := tok2; clear _t tok2; (with_reducible refine (st_same (shrinkS s0 a1) P1 P2 p1 q1 q2 Q1 Q2 u1 v1 v2 _ (L1_45.out.keep HV1.out) (L2_47.out.keep HV1.out) (by omega) (by omega)).mono ?_); rintro e V2 ⟨rfl, hb⟩; have HV2 : Hid (Below w6.heap.size w6 V2) := Lib.hid (then_ HV1.out hb); clear hb; clear hcV1 hfV1; obtain ⟨hcV2, hfV2⟩ := bcell HV2.out)
    | (go_at_call 22; have _t := tok3; clear _t tok3; (with_reducible refine (now_any s0 A0 n0 c0 B0 m0 d0 _ (K_43.out.keep HV2.out) HB.out).mono ?_); rintro e V3 ⟨W3, i3, j3, rfl, h5, hb⟩; have HV3 : Hid (Below w6.heap.size w6 V3) := Lib.hid (then_ HV2.out hb); have NA := Lib.hid h5; clear h5; have tokA : True := trivial; clear hb; clear hcV2 hfV2; obtain ⟨hcV3, hfV3⟩ := bcell HV3.out)
    | (go_at_call 22; have _t := tokA; clear _t tokA; (with_reducible refine (now_any (shrinkS s0 a1) P1 p1 q1 Q1 u1 v1 _ (L1_45.out.keep HV3.out) HP.out).mono ?_); rintro e V4 ⟨W4, i4, j4, rfl, h6, hb⟩; rw [NW.out] at h6; have NB := Lib.hid h6; have NC := Lib.hid (NA.out.keep hb); obtain rfl : i3 = i4 := NA.out.len.symm.trans h6.len; clear h6 NA; have tokK : True := trivial; have HV4 : Hid (Below w6.heap.size w6 V4) := Lib.hid (then_ HV3.out hb); clear hb; clear hcV3 hfV3; obtain ⟨hcV4, hfV4⟩ := bcell HV4.out)
    | (go_at_call 22; have _t := tok3; clear _t tok3; (with_reducible refine (now_any (shrinkS s0 a1) P1 p1 q1 Q1 u1 v1 _ (L1_45.out.keep HV2.out) HP.out).mono ?_); rintro e V5 ⟨W4, i4, j4, rfl, h6, hb⟩; rw [NW.out] at h6; have NA := Lib.hid h6; clear h6; have tokB : True := trivial; have HV5 : Hid (Below w6.heap.size w6 V5) := Lib.hid (then_ HV2.out hb); clear hb; clear hcV2 hfV2; obtain ⟨hcV5, hfV5⟩ := bcell HV5.out)
    | (go_at_call 22; have _t := tokB; clear _t tokB; (with_reducible refine (now_any s0 A0 n0 c0 B0 m0 d0 _ (K_43.out.keep HV5.out) HB.out).mono ?_); rintro e V4 ⟨W3, i3, j3, rfl, h5, hb⟩; have HV4 : Hid (Below w6.heap.size w6 V4) := Lib.hid (then_ HV5.out hb); have NC := Lib.hid h5; have NB := Lib.hid (NA.out.keep hb); obtain rfl : i3 = i4 := h5.len.symm.trans NA.out.len; clear h5 NA; have tokK : True := trivial; clear hb; clear hcV5 hfV5; obtain ⟨hcV4, hfV4⟩ := bcell HV4.out)
    | (go_at_call 21; have _t := tokK; clear _t tokK; (with_reducible refine (kvs_same W3 W4 i3 j3 j4 (nowL s0) _ NC.out NB.out (by have h1 := NC.out.len; have h2 := MS.out.now.len; omega)).mono ?_); rintro e V6 ⟨rfl, hb⟩; have HV6 : Hid (Below w6.heap.size w6 V6) := Lib.hid (then_ HV4.out hb); clear hb; clear hcV4 hfV4; obtain ⟨hcV6, hfV6⟩ := bcell HV6.out))
  clear x0 x1 x2 x3
  clear y0 y1 y2 y3
  clear z0 z1 z2 z3
  all_goals
    clear hlx hly hlz
    have K_52 := Lib.hid (K_43.out.keep HV6.out)
    have X_53 := Lib.hid (X_44.out.below HV6.out)
    have L1_54 := Lib.hid (L1_45.out.keep HV6.out)
    have R1_55 := Lib.hid (R1_46.out.below HV6.out)
    have L2_56 := Lib.hid (L2_47.out.keep HV6.out)
    have R2_57 := Lib.hid (R2_48.out.below HV6.out)
    have WA_58 := Lib.hid (WA_49.out.keep HV6.out)
    have WB_59 := Lib.hid (WB_51.out.keep HV6.out)
    have B_60 := Lib.hid (then_ B_50.out HV6.out)
    clear K_43 X_44 L1_45 R1_46 L2_47 R2_48 WA_49 WB_51 B_50
    go_wp2_with fail
    refine (live_any _).mono ?_; rintro e w8 ⟨rfl, hb⟩
    have S_61 := Lib.hid hb; clear hb
    have K_62 := Lib.hid (K_52.out.keep S_61.out)
    have X_63 := Lib.hid (X_53.out.below S_61.out)
    have L1_64 := Lib.hid (L1_54.out.keep S_61.out)
    have R1_65 := Lib.hid (R1_55.out.below S_61.out)
    have L2_66 := Lib.hid (L2_56.out.keep S_61.out)
    have R2_67 := Lib.hid (R2_57.out.below S_61.out)
    have WA_68 := Lib.hid (WA_58.out.keep S_61.out)
    have WB_69 := Lib.hid (WB_59.out.keep S_61.out)
    have B_70 := Lib.hid (then_ B_60.out S_61.out)
    clear K_52 X_53 L1_54 R1_55 L2_56 R2_57 WA_58 WB_59 B_60
    clear S_61
    go_wp2
    go_ret
    exact ⟨rfl, B_70.out⟩
theorem fine_neg (w : World) (s0 : St) (A0 : Option Addr) (n0 c0 : Nat) (B0 : Option Addr) (m0 d0 : Nat) (a1 : Int) (a2 : Int) (k0 : StAt w s0 A0 n0 c0 B0 m0 d0) (w1 : (Lit.int .i64 a1).wf = true) (w2 : (Lit.int .i64 a2).wf = true) (hf : fewS s0 = true) (hm : mayB s0 = true) (hk : keptE s0 a1 = 0) (h0 : a2 < 0) :
    Calls Try.prog 6 #[s0.agg A0 n0 c0 B0 m0 d0, .int .i64 a1, .int .i64 a2] w fun e w' => e = .returned (.bool true) ∧ Below w.heap.size w w' := by
  have HF := Lib.hid hf; have HM := Lib.hid hm; have MS := Lib.hid (may_st.1 hm)
  have hb0 := k0.kv.len; have hb1 := k0.ev.len; have hb2 := MS.out.good.len; have hb3 := MS.out.len
  have HB : Hid (n0 + m0 ≤ 900000) := Lib.hid (by omega)
  have HB1 : Hid (n0 + m0 ≤ 90000) := Lib.hid (by omega)
  have HI1 := Lib.hid (inI_of w1); have HI2 := Lib.hid (inI_of w2)
  have SE : Hid (shrunk s0 a1 = shrinkS s0 a1 ∧ keptE s0 a1 = 0) := Lib.hid ⟨if_pos hk, hk⟩
  have AG := Lib.hid (again MS.out hk)
  have MA := Lib.hid (shrink_may MS.out hk)
  have MB := Lib.hid (may_st.2 MA.out)
  have ha2 := MA.out.good.len; have ha3 := MA.out.len
  have NW := Lib.hid (shrink_now MS.out hk)
  have hrev : ((shrinkS s0 a1).rev != s0.rev) = false := by simp [shrinkS]
  have hlow : ((shrinkS s0 a1).low != a1) = false := by simp [shrinkS]
  have FR := Lib.hid (from_ MS.out hk (t := a2) (by omega))
  have hde : (atE s0 a2 == atE (shrinkS s0 a1) a2) = true := by rw [FR.out.2]; simp
  have z1 : (a2 != 0) = true := by simp; omega
  have z2 : decide (a2 < a1) = true := decide_eq_true (by have := kept_le hk; omega)
  have z3 : decide (0 < a2) = false := decide_eq_false (by omega)
  clear hf hm hk h0
  have K_0 := Lib.hid (k0.keep (new1 w (.cells (stCells s0 A0 n0 c0 B0 m0 d0) 25)))
  have X_0 := Lib.hid (own_new w (stCells s0 A0 n0 c0 B0 m0 d0) 25)
  have B_0 := Lib.hid (new1 w (.cells (stCells s0 A0 n0 c0 B0 m0 d0) 25))
  clear k0
  go_enter Try.func6, Try.ntmps6
  have x0 := X_0.out.cell 0 _ rfl
  have x1 := X_0.out.cell 1 _ rfl
  have x2 := X_0.out.cell 2 _ rfl
  have x3 := X_0.out.cell 3 _ rfl
  go_wp2_with fail
  refine (few_st s0 A0 n0 c0 B0 m0 d0 _ K_0.out).mono ?_; rintro e w1 ⟨rfl, hb⟩
  rw [HF.out]
  have S_1 := Lib.hid hb; clear hb
  have K_2 := Lib.hid (K_0.out.keep S_1.out)
  have X_3 := Lib.hid (X_0.out.below S_1.out)
  have B_4 := Lib.hid (then_ B_0.out S_1.out)
  clear K_0 X_0 B_0
  clear S_1
  clear x0 x1 x2 x3
  have x0 := X_3.out.cell 0 _ rfl
  have x1 := X_3.out.cell 1 _ rfl
  have x2 := X_3.out.cell 2 _ rfl
  have x3 := X_3.out.cell 3 _ rfl
  go_wp2_with fail
  refine (mvmay_any s0 A0 n0 c0 B0 m0 d0 _ K_2.out).mono ?_; rintro e w2 ⟨rfl, hb⟩
  rw [HM.out]
  have S_5 := Lib.hid hb; clear hb
  have K_6 := Lib.hid (K_2.out.keep S_5.out)
  have X_7 := Lib.hid (X_3.out.below S_5.out)
  have B_8 := Lib.hid (then_ B_4.out S_5.out)
  clear K_2 X_3 B_4
  clear S_5
  clear x0 x1 x2 x3
  have x0 := X_7.out.cell 0 _ rfl
  have x1 := X_7.out.cell 1 _ rfl
  have x2 := X_7.out.cell 2 _ rfl
  have x3 := X_7.out.cell 3 _ rfl
  go_wp2_with fail
  refine ((shrink_any s0 A0 n0 c0 B0 m0 d0 a1 _ K_6.out HB1.out HI1.out).mono fun e w' h => sh_of (s' := (shrinkS s0 a1)) (x := 0) SE.out h).mono ?_; rintro e w3 ⟨P1, p1, q1, Q1, u1, v1, rfl, h1, hb⟩
  have S_9 := Lib.hid hb; clear hb
  have K_10 := Lib.hid (K_6.out.keep S_9.out)
  have X_11 := Lib.hid (X_7.out.below S_9.out)
  have B_12 := Lib.hid (then_ B_8.out S_9.out)
  clear K_6 X_7 B_8
  clear S_9
  clear x0 x1 x2 x3
  have L1_13 := Lib.hid (h1)
  clear h1
  have K_14 := Lib.hid (K_10.out.keep (new1 w3 (.cells (#[.int .i64 (shrinkS s0 a1).rev, .int .i64 (shrinkS s0 a1).low, .slice P1 p1 q1, .slice Q1 u1 v1]) 25)))
  have X_15 := Lib.hid (X_11.out.below (new1 w3 (.cells (#[.int .i64 (shrinkS s0 a1).rev, .int .i64 (shrinkS s0 a1).low, .slice P1 p1 q1, .slice Q1 u1 v1]) 25)))
  have L1_16 := Lib.hid (L1_13.out.keep (new1 w3 (.cells (#[.int .i64 (shrinkS s0 a1).rev, .int .i64 (shrinkS s0 a1).low, .slice P1 p1 q1, .slice Q1 u1 v1]) 25)))
  have B_17 := Lib.hid (then_ B_12.out (new1 w3 (.cells (#[.int .i64 (shrinkS s0 a1).rev, .int .i64 (shrinkS s0 a1).low, .slice P1 p1 q1, .slice Q1 u1 v1]) 25)))
  clear K_10 X_11 L1_13 B_12
  have R1_18 := Lib.hid (own_new w3 (#[.int .i64 (shrinkS s0 a1).rev, .int .i64 (shrinkS s0 a1).low, .slice P1 p1 q1, .slice Q1 u1 v1]) 25)
  have hp1 := L1_16.out.kv.len; have hp2 := L1_16.out.ev.len
  have HP : Hid (p1 + u1 ≤ 900000) := Lib.hid (by omega)
  have HB2 : Hid (p1 + u1 ≤ 90000) := Lib.hid (by omega)
  have y0 := R1_18.out.cell 0 _ rfl
  have y1 := R1_18.out.cell 1 _ rfl
  have y2 := R1_18.out.cell 2 _ rfl
  have y3 := R1_18.out.cell 3 _ rfl
  go_wp2_with fail
  refine ((shrink_any (shrinkS s0 a1) P1 p1 q1 Q1 u1 v1 a1 _ L1_16.out HB2.out HI1.out).mono fun e w' h => sh_of (s' := (shrinkS s0 a1)) (x := 0) AG.out h).mono ?_; rintro e w4 ⟨P2, p2, q2, Q2, u2, v2, rfl, h2, hb⟩
  have S_19 := Lib.hid hb; clear hb
  have K_20 := Lib.hid (K_14.out.keep S_19.out)
  have X_21 := Lib.hid (X_15.out.below S_19.out)
  have L1_22 := Lib.hid (L1_16.out.keep S_19.out)
  have R1_23 := Lib.hid (R1_18.out.below S_19.out)
  have B_24 := Lib.hid (then_ B_17.out S_19.out)
  clear K_14 X_15 L1_16 R1_18 B_17
  clear S_19
  clear y0 y1 y2 y3
  have L2_25 := Lib.hid (h2)
  clear h2
  have K_26 := Lib.hid (K_20.out.keep (new1 w4 (.cells (#[.int .i64 (shrinkS s0 a1).rev, .int .i64 (shrinkS s0 a1).low, .slice P2 p2 q2, .slice Q2 u2 v2]) 25)))
  have X_27 := Lib.hid (X_21.out.below (new1 w4 (.cells (#[.int .i64 (shrinkS s0 a1).rev, .int .i64 (shrinkS s0 a1).low, .slice P2 p2 q2, .slice Q2 u2 v2]) 25)))
  have L1_28 := Lib.hid (L1_22.out.keep (new1 w4 (.cells (#[.int .i64 (shrinkS s0 a1).rev, .int .i64 (shrinkS s0 a1).low, .slice P2 p2 q2, .slice Q2 u2 v2]) 25)))
  have R1_29 := Lib.hid (R1_23.out.below (new1 w4 (.cells (#[.int .i64 (shrinkS s0 a1).rev, .int .i64 (shrinkS s0 a1).low, .slice P2 p2 q2, .slice Q2 u2 v2]) 25)))
  have L2_30 := Lib.hid (L2_25.out.keep (new1 w4 (.cells (#[.int .i64 (shrinkS s0 a1).rev, .int .i64 (shrinkS s0 a1).low, .slice P2 p2 q2, .slice Q2 u2 v2]) 25)))
  have B_31 := Lib.hid (then_ B_24.out (new1 w4 (.cells (#[.int .i64 (shrinkS s0 a1).rev, .int .i64 (shrinkS s0 a1).low, .slice P2 p2 q2, .slice Q2 u2 v2]) 25)))
  clear K_20 X_21 L1_22 R1_23 L2_25 B_24
  have R2_32 := Lib.hid (own_new w4 (#[.int .i64 (shrinkS s0 a1).rev, .int .i64 (shrinkS s0 a1).low, .slice P2 p2 q2, .slice Q2 u2 v2]) 25)
  have x0 := X_27.out.cell 0 _ rfl
  have x1 := X_27.out.cell 1 _ rfl
  have x2 := X_27.out.cell 2 _ rfl
  have x3 := X_27.out.cell 3 _ rfl
  go_wp2_with fail
  refine (at_any s0 A0 n0 c0 B0 m0 d0 a2 _ K_26.out HB.out HI2.out).mono ?_; rintro e w5 ⟨W1, i1, j1, rfl, h3, hb⟩
  have S_33 := Lib.hid hb; clear hb
  have K_34 := Lib.hid (K_26.out.keep S_33.out)
  have X_35 := Lib.hid (X_27.out.below S_33.out)
  have L1_36 := Lib.hid (L1_28.out.keep S_33.out)
  have R1_37 := Lib.hid (R1_29.out.below S_33.out)
  have L2_38 := Lib.hid (L2_30.out.keep S_33.out)
  have R2_39 := Lib.hid (R2_32.out.below S_33.out)
  have B_40 := Lib.hid (then_ B_31.out S_33.out)
  clear K_26 X_27 L1_28 R1_29 L2_30 R2_32 B_31
  clear S_33
  clear x0 x1 x2 x3
  have WA_41 := Lib.hid (h3)
  clear h3
  have y0 := R1_37.out.cell 0 _ rfl
  have y1 := R1_37.out.cell 1 _ rfl
  have y2 := R1_37.out.cell 2 _ rfl
  have y3 := R1_37.out.cell 3 _ rfl
  go_wp2_with fail
  refine (at_any (shrinkS s0 a1) P1 p1 q1 Q1 u1 v1 a2 _ L1_36.out HP.out HI2.out).mono ?_; rintro e w6 ⟨W2, i2, j2, rfl, h4, hb⟩
  have S_42 := Lib.hid hb; clear hb
  have K_43 := Lib.hid (K_34.out.keep S_42.out)
  have X_44 := Lib.hid (X_35.out.below S_42.out)
  have L1_45 := Lib.hid (L1_36.out.keep S_42.out)
  have R1_46 := Lib.hid (R1_37.out.below S_42.out)
  have L2_47 := Lib.hid (L2_38.out.keep S_42.out)
  have R2_48 := Lib.hid (R2_39.out.below S_42.out)
  have WA_49 := Lib.hid (WA_41.out.keep S_42.out)
  have B_50 := Lib.hid (then_ B_40.out S_42.out)
  clear K_34 X_35 L1_36 R1_37 L2_38 R2_39 WA_41 B_40
  clear S_42
  clear y0 y1 y2 y3
  have WB_51 := Lib.hid (h4)
  clear h4
  obtain rfl : p1 = p2 := hp1.symm.trans L2_47.out.kv.len
  obtain rfl : u1 = u2 := hp2.symm.trans L2_47.out.ev.len
  have x0 := X_44.out.cell 0 _ rfl
  have x1 := X_44.out.cell 1 _ rfl
  have x2 := X_44.out.cell 2 _ rfl
  have x3 := X_44.out.cell 3 _ rfl
  have y0 := R1_46.out.cell 0 _ rfl
  have y1 := R1_46.out.cell 1 _ rfl
  have y2 := R1_46.out.cell 2 _ rfl
  have y3 := R1_46.out.cell 3 _ rfl
  have z0 := R2_48.out.cell 0 _ rfl
  have z1 := R2_48.out.cell 1 _ rfl
  have z2 := R2_48.out.cell 2 _ rfl
  have z3 := R2_48.out.cell 3 _ rfl
  have hlx := X_44.out.lt; have hly := R1_46.out.lt; have hlz := R2_48.out.lt
  have tok1 : True := trivial; have tok2 : True := trivial; have tok3 : True := trivial
  go_wp2
  go_region_held3 (fun w' => w'.cell? ⟨w.heap.size, 0, none⟩ = some (.int .i64 s0.rev) ∧ w'.cell? ⟨w.heap.size, 1, none⟩ = some (.int .i64 s0.low) ∧ w'.cell? ⟨w.heap.size, 2, none⟩ = some (.slice A0 n0 c0) ∧ w'.cell? ⟨w.heap.size, 3, none⟩ = some (.slice B0 m0 d0) ∧ w'.cell? ⟨w3.heap.size, 0, none⟩ = some (.int .i64 (shrinkS s0 a1).rev) ∧ w'.cell? ⟨w3.heap.size, 1, none⟩ = some (.int .i64 (shrinkS s0 a1).low) ∧ w'.cell? ⟨w3.heap.size, 2, none⟩ = some (.slice P1 p1 q1) ∧ w'.cell? ⟨w3.heap.size, 3, none⟩ = some (.slice Q1 u1 v1) ∧ w'.cell? ⟨w4.heap.size, 0, none⟩ = some (.int .i64 (shrinkS s0 a1).rev) ∧ w'.cell? ⟨w4.heap.size, 1, none⟩ = some (.int .i64 (shrinkS s0 a1).low) ∧ w'.cell? ⟨w4.heap.size, 2, none⟩ = some (.slice P2 p1 q2) ∧ w'.cell? ⟨w4.heap.size, 3, none⟩ = some (.slice Q2 u1 v2)) (go_keep) (first
    | (go_at_call 19; have _t := tok1; clear _t tok1; (with_reducible refine (mvmay_any (shrinkS s0 a1) P1 p1 q1 Q1 u1 v1 _ (L1_45.out.keep (new_drew w6))).mono ?_); rintro e V1 ⟨rfl, hb⟩; rw [MB.out]; have HV1 : Hid (Below w6.heap.size w6 V1) := Lib.hid (then_ (new_drew w6) hb); clear hb; obtain ⟨hcV1, hfV1⟩ := bcell HV1.out)
    | (go_at_call 29; have _t := tok2; clear _t tok2; (with_reducible refine (st_same (shrinkS s0 a1) P1 P2 p1 q1 q2 Q1 Q2 u1 v1 v2 _ (L1_45.out.keep HV1.out) (L2_47.out.keep HV1.out) (by omega) (by omega)).mono ?_); rintro e V2 ⟨rfl, hb⟩; have HV2 : Hid (Below w6.heap.size w6 V2) := Lib.hid (then_ HV1.out hb); clear hb; clear hcV1 hfV1; obtain ⟨hcV2, hfV2⟩ := bcell HV2.out)
    | (go_at_call 22; have _t := tok3; clear _t tok3; (with_reducible refine (now_any s0 A0 n0 c0 B0 m0 d0 _ (K_43.out.keep HV2.out) HB.out).mono ?_); rintro e V3 ⟨W3, i3, j3, rfl, h5, hb⟩; have HV3 : Hid (Below w6.heap.size w6 V3) := Lib.hid (then_ HV2.out hb); have NA := Lib.hid h5; clear h5; have tokA : True := trivial; clear hb; clear hcV2 hfV2; obtain ⟨hcV3, hfV3⟩ := bcell HV3.out)
    | (go_at_call 22; have _t := tokA; clear _t tokA; (with_reducible refine (now_any (shrinkS s0 a1) P1 p1 q1 Q1 u1 v1 _ (L1_45.out.keep HV3.out) HP.out).mono ?_); rintro e V4 ⟨W4, i4, j4, rfl, h6, hb⟩; rw [NW.out] at h6; have NB := Lib.hid h6; have NC := Lib.hid (NA.out.keep hb); obtain rfl : i3 = i4 := NA.out.len.symm.trans h6.len; clear h6 NA; have tokK : True := trivial; have HV4 : Hid (Below w6.heap.size w6 V4) := Lib.hid (then_ HV3.out hb); clear hb; clear hcV3 hfV3; obtain ⟨hcV4, hfV4⟩ := bcell HV4.out)
    | (go_at_call 22; have _t := tok3; clear _t tok3; (with_reducible refine (now_any (shrinkS s0 a1) P1 p1 q1 Q1 u1 v1 _ (L1_45.out.keep HV2.out) HP.out).mono ?_); rintro e V5 ⟨W4, i4, j4, rfl, h6, hb⟩; rw [NW.out] at h6; have NA := Lib.hid h6; clear h6; have tokB : True := trivial; have HV5 : Hid (Below w6.heap.size w6 V5) := Lib.hid (then_ HV2.out hb); clear hb; clear hcV2 hfV2; obtain ⟨hcV5, hfV5⟩ := bcell HV5.out)
    | (go_at_call 22; have _t := tokB; clear _t tokB; (with_reducible refine (now_any s0 A0 n0 c0 B0 m0 d0 _ (K_43.out.keep HV5.out) HB.out).mono ?_); rintro e V4 ⟨W3, i3, j3, rfl, h5, hb⟩; have HV4 : Hid (Below w6.heap.size w6 V4) := Lib.hid (then_ HV5.out hb); have NC := Lib.hid h5; have NB := Lib.hid (NA.out.keep hb); obtain rfl : i3 = i4 := h5.len.symm.trans NA.out.len; clear h5 NA; have tokK : True := trivial; clear hb; clear hcV5 hfV5; obtain ⟨hcV4, hfV4⟩ := bcell HV4.out)
    | (go_at_call 21; have _t := tokK; clear _t tokK; (with_reducible refine (kvs_same W3 W4 i3 j3 j4 (nowL s0) _ NC.out NB.out (by have h1 := NC.out.len; have h2 := MS.out.now.len; omega)).mono ?_); rintro e V6 ⟨rfl, hb⟩; have HV6 : Hid (Below w6.heap.size w6 V6) := Lib.hid (then_ HV4.out hb); clear hb; clear hcV4 hfV4; obtain ⟨hcV6, hfV6⟩ := bcell HV6.out))
  clear x0 x1 x2 x3
  clear y0 y1 y2 y3
  clear z0 z1 z2 z3
  all_goals
    clear hlx hly hlz
    have K_52 := Lib.hid (K_43.out.keep HV6.out)
    have X_53 := Lib.hid (X_44.out.below HV6.out)
    have L1_54 := Lib.hid (L1_45.out.keep HV6.out)
    have R1_55 := Lib.hid (R1_46.out.below HV6.out)
    have L2_56 := Lib.hid (L2_47.out.keep HV6.out)
    have R2_57 := Lib.hid (R2_48.out.below HV6.out)
    have WA_58 := Lib.hid (WA_49.out.keep HV6.out)
    have WB_59 := Lib.hid (WB_51.out.keep HV6.out)
    have B_60 := Lib.hid (then_ B_50.out HV6.out)
    clear K_43 X_44 L1_45 R1_46 L2_47 R2_48 WA_49 WB_51 B_50
    obtain rfl : i1 = i2 := by have h1 := WA_58.out.len; have h2 := WB_59.out.len; rw [FR.out.1] at h2; exact h1.symm.trans h2
    have QB : Hid (KVs V6 W2 i1 j2 (atL s0 a2)) := Lib.hid (by have h := WB_59.out; rw [FR.out.1] at h; exact h)
    have hi1 : i1 ≤ 1000000 := by have h1 := WA_58.out.len; have h2 := at_len s0 a2; omega
    go_wp2_with fail
    refine (kvs_same W1 W2 i1 j1 j2 (atL s0 a2) _ WA_58.out QB.out (by omega)).mono ?_; rintro e w8 ⟨rfl, hb⟩
    have S_61 := Lib.hid hb; clear hb
    have K_62 := Lib.hid (K_52.out.keep S_61.out)
    have X_63 := Lib.hid (X_53.out.below S_61.out)
    have L1_64 := Lib.hid (L1_54.out.keep S_61.out)
    have R1_65 := Lib.hid (R1_55.out.below S_61.out)
    have L2_66 := Lib.hid (L2_56.out.keep S_61.out)
    have R2_67 := Lib.hid (R2_57.out.below S_61.out)
    have WA_68 := Lib.hid (WA_58.out.keep S_61.out)
    have WB_69 := Lib.hid (WB_59.out.keep S_61.out)
    have B_70 := Lib.hid (then_ B_60.out S_61.out)
    clear K_52 X_53 L1_54 R1_55 L2_56 R2_57 WA_58 WB_59 B_60
    clear S_61
    go_wp2_with fail
    refine (live_any _).mono ?_; rintro e w9 ⟨rfl, hb⟩
    have S_71 := Lib.hid hb; clear hb
    have K_72 := Lib.hid (K_62.out.keep S_71.out)
    have X_73 := Lib.hid (X_63.out.below S_71.out)
    have L1_74 := Lib.hid (L1_64.out.keep S_71.out)
    have R1_75 := Lib.hid (R1_65.out.below S_71.out)
    have L2_76 := Lib.hid (L2_66.out.keep S_71.out)
    have R2_77 := Lib.hid (R2_67.out.below S_71.out)
    have WA_78 := Lib.hid (WA_68.out.keep S_71.out)
    have WB_79 := Lib.hid (WB_69.out.keep S_71.out)
    have B_80 := Lib.hid (then_ B_70.out S_71.out)
    clear K_62 X_63 L1_64 R1_65 L2_66 R2_67 WA_68 WB_69 B_70
    clear S_71
    go_wp2
    go_ret
    exact ⟨rfl, B_80.out⟩
theorem fine_now (w : World) (s0 : St) (A0 : Option Addr) (n0 c0 : Nat) (B0 : Option Addr) (m0 d0 : Nat) (a1 : Int) (a2 : Int) (k0 : StAt w s0 A0 n0 c0 B0 m0 d0) (w1 : (Lit.int .i64 a1).wf = true) (w2 : (Lit.int .i64 a2).wf = true) (hf : fewS s0 = true) (hm : mayB s0 = true) (hk : keptE s0 a1 = 0) (h0 : a2 = 0) :
    Calls Try.prog 6 #[s0.agg A0 n0 c0 B0 m0 d0, .int .i64 a1, .int .i64 a2] w fun e w' => e = .returned (.bool true) ∧ Below w.heap.size w w' := by
  have HF := Lib.hid hf; have HM := Lib.hid hm; have MS := Lib.hid (may_st.1 hm)
  have hb0 := k0.kv.len; have hb1 := k0.ev.len; have hb2 := MS.out.good.len; have hb3 := MS.out.len
  have HB : Hid (n0 + m0 ≤ 900000) := Lib.hid (by omega)
  have HB1 : Hid (n0 + m0 ≤ 90000) := Lib.hid (by omega)
  have HI1 := Lib.hid (inI_of w1); have HI2 := Lib.hid (inI_of w2)
  have SE : Hid (shrunk s0 a1 = shrinkS s0 a1 ∧ keptE s0 a1 = 0) := Lib.hid ⟨if_pos hk, hk⟩
  have AG := Lib.hid (again MS.out hk)
  have MA := Lib.hid (shrink_may MS.out hk)
  have MB := Lib.hid (may_st.2 MA.out)
  have ha2 := MA.out.good.len; have ha3 := MA.out.len
  have NW := Lib.hid (shrink_now MS.out hk)
  have hrev : ((shrinkS s0 a1).rev != s0.rev) = false := by simp [shrinkS]
  have hlow : ((shrinkS s0 a1).low != a1) = false := by simp [shrinkS]
  have FR := Lib.hid (from_ MS.out hk (t := a2) (by omega))
  have hde : (atE s0 a2 == atE (shrinkS s0 a1) a2) = true := by rw [FR.out.2]; simp
  have z1 : (a2 != 0) = false := by simp; omega
  clear hf hm hk h0
  have K_0 := Lib.hid (k0.keep (new1 w (.cells (stCells s0 A0 n0 c0 B0 m0 d0) 25)))
  have X_0 := Lib.hid (own_new w (stCells s0 A0 n0 c0 B0 m0 d0) 25)
  have B_0 := Lib.hid (new1 w (.cells (stCells s0 A0 n0 c0 B0 m0 d0) 25))
  clear k0
  go_enter Try.func6, Try.ntmps6
  have x0 := X_0.out.cell 0 _ rfl
  have x1 := X_0.out.cell 1 _ rfl
  have x2 := X_0.out.cell 2 _ rfl
  have x3 := X_0.out.cell 3 _ rfl
  go_wp2_with fail
  refine (few_st s0 A0 n0 c0 B0 m0 d0 _ K_0.out).mono ?_; rintro e w1 ⟨rfl, hb⟩
  rw [HF.out]
  have S_1 := Lib.hid hb; clear hb
  have K_2 := Lib.hid (K_0.out.keep S_1.out)
  have X_3 := Lib.hid (X_0.out.below S_1.out)
  have B_4 := Lib.hid (then_ B_0.out S_1.out)
  clear K_0 X_0 B_0
  clear S_1
  clear x0 x1 x2 x3
  have x0 := X_3.out.cell 0 _ rfl
  have x1 := X_3.out.cell 1 _ rfl
  have x2 := X_3.out.cell 2 _ rfl
  have x3 := X_3.out.cell 3 _ rfl
  go_wp2_with fail
  refine (mvmay_any s0 A0 n0 c0 B0 m0 d0 _ K_2.out).mono ?_; rintro e w2 ⟨rfl, hb⟩
  rw [HM.out]
  have S_5 := Lib.hid hb; clear hb
  have K_6 := Lib.hid (K_2.out.keep S_5.out)
  have X_7 := Lib.hid (X_3.out.below S_5.out)
  have B_8 := Lib.hid (then_ B_4.out S_5.out)
  clear K_2 X_3 B_4
  clear S_5
  clear x0 x1 x2 x3
  have x0 := X_7.out.cell 0 _ rfl
  have x1 := X_7.out.cell 1 _ rfl
  have x2 := X_7.out.cell 2 _ rfl
  have x3 := X_7.out.cell 3 _ rfl
  go_wp2_with fail
  refine ((shrink_any s0 A0 n0 c0 B0 m0 d0 a1 _ K_6.out HB1.out HI1.out).mono fun e w' h => sh_of (s' := (shrinkS s0 a1)) (x := 0) SE.out h).mono ?_; rintro e w3 ⟨P1, p1, q1, Q1, u1, v1, rfl, h1, hb⟩
  have S_9 := Lib.hid hb; clear hb
  have K_10 := Lib.hid (K_6.out.keep S_9.out)
  have X_11 := Lib.hid (X_7.out.below S_9.out)
  have B_12 := Lib.hid (then_ B_8.out S_9.out)
  clear K_6 X_7 B_8
  clear S_9
  clear x0 x1 x2 x3
  have L1_13 := Lib.hid (h1)
  clear h1
  have K_14 := Lib.hid (K_10.out.keep (new1 w3 (.cells (#[.int .i64 (shrinkS s0 a1).rev, .int .i64 (shrinkS s0 a1).low, .slice P1 p1 q1, .slice Q1 u1 v1]) 25)))
  have X_15 := Lib.hid (X_11.out.below (new1 w3 (.cells (#[.int .i64 (shrinkS s0 a1).rev, .int .i64 (shrinkS s0 a1).low, .slice P1 p1 q1, .slice Q1 u1 v1]) 25)))
  have L1_16 := Lib.hid (L1_13.out.keep (new1 w3 (.cells (#[.int .i64 (shrinkS s0 a1).rev, .int .i64 (shrinkS s0 a1).low, .slice P1 p1 q1, .slice Q1 u1 v1]) 25)))
  have B_17 := Lib.hid (then_ B_12.out (new1 w3 (.cells (#[.int .i64 (shrinkS s0 a1).rev, .int .i64 (shrinkS s0 a1).low, .slice P1 p1 q1, .slice Q1 u1 v1]) 25)))
  clear K_10 X_11 L1_13 B_12
  have R1_18 := Lib.hid (own_new w3 (#[.int .i64 (shrinkS s0 a1).rev, .int .i64 (shrinkS s0 a1).low, .slice P1 p1 q1, .slice Q1 u1 v1]) 25)
  have hp1 := L1_16.out.kv.len; have hp2 := L1_16.out.ev.len
  have HP : Hid (p1 + u1 ≤ 900000) := Lib.hid (by omega)
  have HB2 : Hid (p1 + u1 ≤ 90000) := Lib.hid (by omega)
  have y0 := R1_18.out.cell 0 _ rfl
  have y1 := R1_18.out.cell 1 _ rfl
  have y2 := R1_18.out.cell 2 _ rfl
  have y3 := R1_18.out.cell 3 _ rfl
  go_wp2_with fail
  refine ((shrink_any (shrinkS s0 a1) P1 p1 q1 Q1 u1 v1 a1 _ L1_16.out HB2.out HI1.out).mono fun e w' h => sh_of (s' := (shrinkS s0 a1)) (x := 0) AG.out h).mono ?_; rintro e w4 ⟨P2, p2, q2, Q2, u2, v2, rfl, h2, hb⟩
  have S_19 := Lib.hid hb; clear hb
  have K_20 := Lib.hid (K_14.out.keep S_19.out)
  have X_21 := Lib.hid (X_15.out.below S_19.out)
  have L1_22 := Lib.hid (L1_16.out.keep S_19.out)
  have R1_23 := Lib.hid (R1_18.out.below S_19.out)
  have B_24 := Lib.hid (then_ B_17.out S_19.out)
  clear K_14 X_15 L1_16 R1_18 B_17
  clear S_19
  clear y0 y1 y2 y3
  have L2_25 := Lib.hid (h2)
  clear h2
  have K_26 := Lib.hid (K_20.out.keep (new1 w4 (.cells (#[.int .i64 (shrinkS s0 a1).rev, .int .i64 (shrinkS s0 a1).low, .slice P2 p2 q2, .slice Q2 u2 v2]) 25)))
  have X_27 := Lib.hid (X_21.out.below (new1 w4 (.cells (#[.int .i64 (shrinkS s0 a1).rev, .int .i64 (shrinkS s0 a1).low, .slice P2 p2 q2, .slice Q2 u2 v2]) 25)))
  have L1_28 := Lib.hid (L1_22.out.keep (new1 w4 (.cells (#[.int .i64 (shrinkS s0 a1).rev, .int .i64 (shrinkS s0 a1).low, .slice P2 p2 q2, .slice Q2 u2 v2]) 25)))
  have R1_29 := Lib.hid (R1_23.out.below (new1 w4 (.cells (#[.int .i64 (shrinkS s0 a1).rev, .int .i64 (shrinkS s0 a1).low, .slice P2 p2 q2, .slice Q2 u2 v2]) 25)))
  have L2_30 := Lib.hid (L2_25.out.keep (new1 w4 (.cells (#[.int .i64 (shrinkS s0 a1).rev, .int .i64 (shrinkS s0 a1).low, .slice P2 p2 q2, .slice Q2 u2 v2]) 25)))
  have B_31 := Lib.hid (then_ B_24.out (new1 w4 (.cells (#[.int .i64 (shrinkS s0 a1).rev, .int .i64 (shrinkS s0 a1).low, .slice P2 p2 q2, .slice Q2 u2 v2]) 25)))
  clear K_20 X_21 L1_22 R1_23 L2_25 B_24
  have R2_32 := Lib.hid (own_new w4 (#[.int .i64 (shrinkS s0 a1).rev, .int .i64 (shrinkS s0 a1).low, .slice P2 p2 q2, .slice Q2 u2 v2]) 25)
  have x0 := X_27.out.cell 0 _ rfl
  have x1 := X_27.out.cell 1 _ rfl
  have x2 := X_27.out.cell 2 _ rfl
  have x3 := X_27.out.cell 3 _ rfl
  go_wp2_with fail
  refine (at_any s0 A0 n0 c0 B0 m0 d0 a2 _ K_26.out HB.out HI2.out).mono ?_; rintro e w5 ⟨W1, i1, j1, rfl, h3, hb⟩
  have S_33 := Lib.hid hb; clear hb
  have K_34 := Lib.hid (K_26.out.keep S_33.out)
  have X_35 := Lib.hid (X_27.out.below S_33.out)
  have L1_36 := Lib.hid (L1_28.out.keep S_33.out)
  have R1_37 := Lib.hid (R1_29.out.below S_33.out)
  have L2_38 := Lib.hid (L2_30.out.keep S_33.out)
  have R2_39 := Lib.hid (R2_32.out.below S_33.out)
  have B_40 := Lib.hid (then_ B_31.out S_33.out)
  clear K_26 X_27 L1_28 R1_29 L2_30 R2_32 B_31
  clear S_33
  clear x0 x1 x2 x3
  have WA_41 := Lib.hid (h3)
  clear h3
  have y0 := R1_37.out.cell 0 _ rfl
  have y1 := R1_37.out.cell 1 _ rfl
  have y2 := R1_37.out.cell 2 _ rfl
  have y3 := R1_37.out.cell 3 _ rfl
  go_wp2_with fail
  refine (at_any (shrinkS s0 a1) P1 p1 q1 Q1 u1 v1 a2 _ L1_36.out HP.out HI2.out).mono ?_; rintro e w6 ⟨W2, i2, j2, rfl, h4, hb⟩
  have S_42 := Lib.hid hb; clear hb
  have K_43 := Lib.hid (K_34.out.keep S_42.out)
  have X_44 := Lib.hid (X_35.out.below S_42.out)
  have L1_45 := Lib.hid (L1_36.out.keep S_42.out)
  have R1_46 := Lib.hid (R1_37.out.below S_42.out)
  have L2_47 := Lib.hid (L2_38.out.keep S_42.out)
  have R2_48 := Lib.hid (R2_39.out.below S_42.out)
  have WA_49 := Lib.hid (WA_41.out.keep S_42.out)
  have B_50 := Lib.hid (then_ B_40.out S_42.out)
  clear K_34 X_35 L1_36 R1_37 L2_38 R2_39 WA_41 B_40
  clear S_42
  clear y0 y1 y2 y3
  have WB_51 := Lib.hid (h4)
  clear h4
  obtain rfl : p1 = p2 := hp1.symm.trans L2_47.out.kv.len
  obtain rfl : u1 = u2 := hp2.symm.trans L2_47.out.ev.len
  have x0 := X_44.out.cell 0 _ rfl
  have x1 := X_44.out.cell 1 _ rfl
  have x2 := X_44.out.cell 2 _ rfl
  have x3 := X_44.out.cell 3 _ rfl
  have y0 := R1_46.out.cell 0 _ rfl
  have y1 := R1_46.out.cell 1 _ rfl
  have y2 := R1_46.out.cell 2 _ rfl
  have y3 := R1_46.out.cell 3 _ rfl
  have z0 := R2_48.out.cell 0 _ rfl
  have z1 := R2_48.out.cell 1 _ rfl
  have z2 := R2_48.out.cell 2 _ rfl
  have z3 := R2_48.out.cell 3 _ rfl
  have hlx := X_44.out.lt; have hly := R1_46.out.lt; have hlz := R2_48.out.lt
  have tok1 : True := trivial; have tok2 : True := trivial; have tok3 : True := trivial
  go_wp2
  go_region_held3 (fun w' => w'.cell? ⟨w.heap.size, 0, none⟩ = some (.int .i64 s0.rev) ∧ w'.cell? ⟨w.heap.size, 1, none⟩ = some (.int .i64 s0.low) ∧ w'.cell? ⟨w.heap.size, 2, none⟩ = some (.slice A0 n0 c0) ∧ w'.cell? ⟨w.heap.size, 3, none⟩ = some (.slice B0 m0 d0) ∧ w'.cell? ⟨w3.heap.size, 0, none⟩ = some (.int .i64 (shrinkS s0 a1).rev) ∧ w'.cell? ⟨w3.heap.size, 1, none⟩ = some (.int .i64 (shrinkS s0 a1).low) ∧ w'.cell? ⟨w3.heap.size, 2, none⟩ = some (.slice P1 p1 q1) ∧ w'.cell? ⟨w3.heap.size, 3, none⟩ = some (.slice Q1 u1 v1) ∧ w'.cell? ⟨w4.heap.size, 0, none⟩ = some (.int .i64 (shrinkS s0 a1).rev) ∧ w'.cell? ⟨w4.heap.size, 1, none⟩ = some (.int .i64 (shrinkS s0 a1).low) ∧ w'.cell? ⟨w4.heap.size, 2, none⟩ = some (.slice P2 p1 q2) ∧ w'.cell? ⟨w4.heap.size, 3, none⟩ = some (.slice Q2 u1 v2)) (go_keep) (first
    | (go_at_call 19; have _t := tok1; clear _t tok1; (with_reducible refine (mvmay_any (shrinkS s0 a1) P1 p1 q1 Q1 u1 v1 _ (L1_45.out.keep (new_drew w6))).mono ?_); rintro e V1 ⟨rfl, hb⟩; rw [MB.out]; have HV1 : Hid (Below w6.heap.size w6 V1) := Lib.hid (then_ (new_drew w6) hb); clear hb; obtain ⟨hcV1, hfV1⟩ := bcell HV1.out)
    | (go_at_call 29; have _t := tok2; clear _t tok2; (with_reducible refine (st_same (shrinkS s0 a1) P1 P2 p1 q1 q2 Q1 Q2 u1 v1 v2 _ (L1_45.out.keep HV1.out) (L2_47.out.keep HV1.out) (by omega) (by omega)).mono ?_); rintro e V2 ⟨rfl, hb⟩; have HV2 : Hid (Below w6.heap.size w6 V2) := Lib.hid (then_ HV1.out hb); clear hb; clear hcV1 hfV1; obtain ⟨hcV2, hfV2⟩ := bcell HV2.out)
    | (go_at_call 22; have _t := tok3; clear _t tok3; (with_reducible refine (now_any s0 A0 n0 c0 B0 m0 d0 _ (K_43.out.keep HV2.out) HB.out).mono ?_); rintro e V3 ⟨W3, i3, j3, rfl, h5, hb⟩; have HV3 : Hid (Below w6.heap.size w6 V3) := Lib.hid (then_ HV2.out hb); have NA := Lib.hid h5; clear h5; have tokA : True := trivial; clear hb; clear hcV2 hfV2; obtain ⟨hcV3, hfV3⟩ := bcell HV3.out)
    | (go_at_call 22; have _t := tokA; clear _t tokA; (with_reducible refine (now_any (shrinkS s0 a1) P1 p1 q1 Q1 u1 v1 _ (L1_45.out.keep HV3.out) HP.out).mono ?_); rintro e V4 ⟨W4, i4, j4, rfl, h6, hb⟩; rw [NW.out] at h6; have NB := Lib.hid h6; have NC := Lib.hid (NA.out.keep hb); obtain rfl : i3 = i4 := NA.out.len.symm.trans h6.len; clear h6 NA; have tokK : True := trivial; have HV4 : Hid (Below w6.heap.size w6 V4) := Lib.hid (then_ HV3.out hb); clear hb; clear hcV3 hfV3; obtain ⟨hcV4, hfV4⟩ := bcell HV4.out)
    | (go_at_call 22; have _t := tok3; clear _t tok3; (with_reducible refine (now_any (shrinkS s0 a1) P1 p1 q1 Q1 u1 v1 _ (L1_45.out.keep HV2.out) HP.out).mono ?_); rintro e V5 ⟨W4, i4, j4, rfl, h6, hb⟩; rw [NW.out] at h6; have NA := Lib.hid h6; clear h6; have tokB : True := trivial; have HV5 : Hid (Below w6.heap.size w6 V5) := Lib.hid (then_ HV2.out hb); clear hb; clear hcV2 hfV2; obtain ⟨hcV5, hfV5⟩ := bcell HV5.out)
    | (go_at_call 22; have _t := tokB; clear _t tokB; (with_reducible refine (now_any s0 A0 n0 c0 B0 m0 d0 _ (K_43.out.keep HV5.out) HB.out).mono ?_); rintro e V4 ⟨W3, i3, j3, rfl, h5, hb⟩; have HV4 : Hid (Below w6.heap.size w6 V4) := Lib.hid (then_ HV5.out hb); have NC := Lib.hid h5; have NB := Lib.hid (NA.out.keep hb); obtain rfl : i3 = i4 := h5.len.symm.trans NA.out.len; clear h5 NA; have tokK : True := trivial; clear hb; clear hcV5 hfV5; obtain ⟨hcV4, hfV4⟩ := bcell HV4.out)
    | (go_at_call 21; have _t := tokK; clear _t tokK; (with_reducible refine (kvs_same W3 W4 i3 j3 j4 (nowL s0) _ NC.out NB.out (by have h1 := NC.out.len; have h2 := MS.out.now.len; omega)).mono ?_); rintro e V6 ⟨rfl, hb⟩; have HV6 : Hid (Below w6.heap.size w6 V6) := Lib.hid (then_ HV4.out hb); clear hb; clear hcV4 hfV4; obtain ⟨hcV6, hfV6⟩ := bcell HV6.out))
  clear x0 x1 x2 x3
  clear y0 y1 y2 y3
  clear z0 z1 z2 z3
  all_goals
    clear hlx hly hlz
    have K_52 := Lib.hid (K_43.out.keep HV6.out)
    have X_53 := Lib.hid (X_44.out.below HV6.out)
    have L1_54 := Lib.hid (L1_45.out.keep HV6.out)
    have R1_55 := Lib.hid (R1_46.out.below HV6.out)
    have L2_56 := Lib.hid (L2_47.out.keep HV6.out)
    have R2_57 := Lib.hid (R2_48.out.below HV6.out)
    have WA_58 := Lib.hid (WA_49.out.keep HV6.out)
    have WB_59 := Lib.hid (WB_51.out.keep HV6.out)
    have B_60 := Lib.hid (then_ B_50.out HV6.out)
    clear K_43 X_44 L1_45 R1_46 L2_47 R2_48 WA_49 WB_51 B_50
    obtain rfl : i1 = i2 := by have h1 := WA_58.out.len; have h2 := WB_59.out.len; rw [FR.out.1] at h2; exact h1.symm.trans h2
    have QB : Hid (KVs V6 W2 i1 j2 (atL s0 a2)) := Lib.hid (by have h := WB_59.out; rw [FR.out.1] at h; exact h)
    have hi1 : i1 ≤ 1000000 := by have h1 := WA_58.out.len; have h2 := at_len s0 a2; omega
    go_wp2_with fail
    refine (kvs_same W1 W2 i1 j1 j2 (atL s0 a2) _ WA_58.out QB.out (by omega)).mono ?_; rintro e w8 ⟨rfl, hb⟩
    have S_61 := Lib.hid hb; clear hb
    have K_62 := Lib.hid (K_52.out.keep S_61.out)
    have X_63 := Lib.hid (X_53.out.below S_61.out)
    have L1_64 := Lib.hid (L1_54.out.keep S_61.out)
    have R1_65 := Lib.hid (R1_55.out.below S_61.out)
    have L2_66 := Lib.hid (L2_56.out.keep S_61.out)
    have R2_67 := Lib.hid (R2_57.out.below S_61.out)
    have WA_68 := Lib.hid (WA_58.out.keep S_61.out)
    have WB_69 := Lib.hid (WB_59.out.keep S_61.out)
    have B_70 := Lib.hid (then_ B_60.out S_61.out)
    clear K_52 X_53 L1_54 R1_55 L2_56 R2_57 WA_58 WB_59 B_60
    clear S_61
    go_wp2_with fail
    refine (live_any _).mono ?_; rintro e w9 ⟨rfl, hb⟩
    have S_71 := Lib.hid hb; clear hb
    have K_72 := Lib.hid (K_62.out.keep S_71.out)
    have X_73 := Lib.hid (X_63.out.below S_71.out)
    have L1_74 := Lib.hid (L1_64.out.keep S_71.out)
    have R1_75 := Lib.hid (R1_65.out.below S_71.out)
    have L2_76 := Lib.hid (L2_66.out.keep S_71.out)
    have R2_77 := Lib.hid (R2_67.out.below S_71.out)
    have WA_78 := Lib.hid (WA_68.out.keep S_71.out)
    have WB_79 := Lib.hid (WB_69.out.keep S_71.out)
    have B_80 := Lib.hid (then_ B_70.out S_71.out)
    clear K_62 X_63 L1_64 R1_65 L2_66 R2_67 WA_68 WB_69 B_70
    clear S_71
    go_wp2
    go_ret
    exact ⟨rfl, B_80.out⟩
theorem fine_from (w : World) (s0 : St) (A0 : Option Addr) (n0 c0 : Nat) (B0 : Option Addr) (m0 d0 : Nat) (a1 : Int) (a2 : Int) (k0 : StAt w s0 A0 n0 c0 B0 m0 d0) (w1 : (Lit.int .i64 a1).wf = true) (w2 : (Lit.int .i64 a2).wf = true) (hf : fewS s0 = true) (hm : mayB s0 = true) (hk : keptE s0 a1 = 0) (h0 : 0 < a2) (h1 : a1 ≤ a2) :
    Calls Try.prog 6 #[s0.agg A0 n0 c0 B0 m0 d0, .int .i64 a1, .int .i64 a2] w fun e w' => e = .returned (.bool true) ∧ Below w.heap.size w w' := by
  have HF := Lib.hid hf; have HM := Lib.hid hm; have MS := Lib.hid (may_st.1 hm)
  have hb0 := k0.kv.len; have hb1 := k0.ev.len; have hb2 := MS.out.good.len; have hb3 := MS.out.len
  have HB : Hid (n0 + m0 ≤ 900000) := Lib.hid (by omega)
  have HB1 : Hid (n0 + m0 ≤ 90000) := Lib.hid (by omega)
  have HI1 := Lib.hid (inI_of w1); have HI2 := Lib.hid (inI_of w2)
  have SE : Hid (shrunk s0 a1 = shrinkS s0 a1 ∧ keptE s0 a1 = 0) := Lib.hid ⟨if_pos hk, hk⟩
  have AG := Lib.hid (again MS.out hk)
  have MA := Lib.hid (shrink_may MS.out hk)
  have MB := Lib.hid (may_st.2 MA.out)
  have ha2 := MA.out.good.len; have ha3 := MA.out.len
  have NW := Lib.hid (shrink_now MS.out hk)
  have hrev : ((shrinkS s0 a1).rev != s0.rev) = false := by simp [shrinkS]
  have hlow : ((shrinkS s0 a1).low != a1) = false := by simp [shrinkS]
  have FR := Lib.hid (from_ MS.out hk (t := a2) (by omega))
  have hde : (atE s0 a2 == atE (shrinkS s0 a1) a2) = true := by rw [FR.out.2]; simp
  have z1 : (a2 != 0) = true := by simp; omega
  have z2 : decide (a2 < a1) = false := decide_eq_false (by omega)
  clear hf hm hk h0
  have K_0 := Lib.hid (k0.keep (new1 w (.cells (stCells s0 A0 n0 c0 B0 m0 d0) 25)))
  have X_0 := Lib.hid (own_new w (stCells s0 A0 n0 c0 B0 m0 d0) 25)
  have B_0 := Lib.hid (new1 w (.cells (stCells s0 A0 n0 c0 B0 m0 d0) 25))
  clear k0
  go_enter Try.func6, Try.ntmps6
  have x0 := X_0.out.cell 0 _ rfl
  have x1 := X_0.out.cell 1 _ rfl
  have x2 := X_0.out.cell 2 _ rfl
  have x3 := X_0.out.cell 3 _ rfl
  go_wp2_with fail
  refine (few_st s0 A0 n0 c0 B0 m0 d0 _ K_0.out).mono ?_; rintro e w1 ⟨rfl, hb⟩
  rw [HF.out]
  have S_1 := Lib.hid hb; clear hb
  have K_2 := Lib.hid (K_0.out.keep S_1.out)
  have X_3 := Lib.hid (X_0.out.below S_1.out)
  have B_4 := Lib.hid (then_ B_0.out S_1.out)
  clear K_0 X_0 B_0
  clear S_1
  clear x0 x1 x2 x3
  have x0 := X_3.out.cell 0 _ rfl
  have x1 := X_3.out.cell 1 _ rfl
  have x2 := X_3.out.cell 2 _ rfl
  have x3 := X_3.out.cell 3 _ rfl
  go_wp2_with fail
  refine (mvmay_any s0 A0 n0 c0 B0 m0 d0 _ K_2.out).mono ?_; rintro e w2 ⟨rfl, hb⟩
  rw [HM.out]
  have S_5 := Lib.hid hb; clear hb
  have K_6 := Lib.hid (K_2.out.keep S_5.out)
  have X_7 := Lib.hid (X_3.out.below S_5.out)
  have B_8 := Lib.hid (then_ B_4.out S_5.out)
  clear K_2 X_3 B_4
  clear S_5
  clear x0 x1 x2 x3
  have x0 := X_7.out.cell 0 _ rfl
  have x1 := X_7.out.cell 1 _ rfl
  have x2 := X_7.out.cell 2 _ rfl
  have x3 := X_7.out.cell 3 _ rfl
  go_wp2_with fail
  refine ((shrink_any s0 A0 n0 c0 B0 m0 d0 a1 _ K_6.out HB1.out HI1.out).mono fun e w' h => sh_of (s' := (shrinkS s0 a1)) (x := 0) SE.out h).mono ?_; rintro e w3 ⟨P1, p1, q1, Q1, u1, v1, rfl, h1, hb⟩
  have S_9 := Lib.hid hb; clear hb
  have K_10 := Lib.hid (K_6.out.keep S_9.out)
  have X_11 := Lib.hid (X_7.out.below S_9.out)
  have B_12 := Lib.hid (then_ B_8.out S_9.out)
  clear K_6 X_7 B_8
  clear S_9
  clear x0 x1 x2 x3
  have L1_13 := Lib.hid (h1)
  clear h1
  have K_14 := Lib.hid (K_10.out.keep (new1 w3 (.cells (#[.int .i64 (shrinkS s0 a1).rev, .int .i64 (shrinkS s0 a1).low, .slice P1 p1 q1, .slice Q1 u1 v1]) 25)))
  have X_15 := Lib.hid (X_11.out.below (new1 w3 (.cells (#[.int .i64 (shrinkS s0 a1).rev, .int .i64 (shrinkS s0 a1).low, .slice P1 p1 q1, .slice Q1 u1 v1]) 25)))
  have L1_16 := Lib.hid (L1_13.out.keep (new1 w3 (.cells (#[.int .i64 (shrinkS s0 a1).rev, .int .i64 (shrinkS s0 a1).low, .slice P1 p1 q1, .slice Q1 u1 v1]) 25)))
  have B_17 := Lib.hid (then_ B_12.out (new1 w3 (.cells (#[.int .i64 (shrinkS s0 a1).rev, .int .i64 (shrinkS s0 a1).low, .slice P1 p1 q1, .slice Q1 u1 v1]) 25)))
  clear K_10 X_11 L1_13 B_12
  have R1_18 := Lib.hid (own_new w3 (#[.int .i64 (shrinkS s0 a1).rev, .int .i64 (shrinkS s0 a1).low, .slice P1 p1 q1, .slice Q1 u1 v1]) 25)
  have hp1 := L1_16.out.kv.len; have hp2 := L1_16.out.ev.len
  have HP : Hid (p1 + u1 ≤ 900000) := Lib.hid (by omega)
  have HB2 : Hid (p1 + u1 ≤ 90000) := Lib.hid (by omega)
  have y0 := R1_18.out.cell 0 _ rfl
  have y1 := R1_18.out.cell 1 _ rfl
  have y2 := R1_18.out.cell 2 _ rfl
  have y3 := R1_18.out.cell 3 _ rfl
  go_wp2_with fail
  refine ((shrink_any (shrinkS s0 a1) P1 p1 q1 Q1 u1 v1 a1 _ L1_16.out HB2.out HI1.out).mono fun e w' h => sh_of (s' := (shrinkS s0 a1)) (x := 0) AG.out h).mono ?_; rintro e w4 ⟨P2, p2, q2, Q2, u2, v2, rfl, h2, hb⟩
  have S_19 := Lib.hid hb; clear hb
  have K_20 := Lib.hid (K_14.out.keep S_19.out)
  have X_21 := Lib.hid (X_15.out.below S_19.out)
  have L1_22 := Lib.hid (L1_16.out.keep S_19.out)
  have R1_23 := Lib.hid (R1_18.out.below S_19.out)
  have B_24 := Lib.hid (then_ B_17.out S_19.out)
  clear K_14 X_15 L1_16 R1_18 B_17
  clear S_19
  clear y0 y1 y2 y3
  have L2_25 := Lib.hid (h2)
  clear h2
  have K_26 := Lib.hid (K_20.out.keep (new1 w4 (.cells (#[.int .i64 (shrinkS s0 a1).rev, .int .i64 (shrinkS s0 a1).low, .slice P2 p2 q2, .slice Q2 u2 v2]) 25)))
  have X_27 := Lib.hid (X_21.out.below (new1 w4 (.cells (#[.int .i64 (shrinkS s0 a1).rev, .int .i64 (shrinkS s0 a1).low, .slice P2 p2 q2, .slice Q2 u2 v2]) 25)))
  have L1_28 := Lib.hid (L1_22.out.keep (new1 w4 (.cells (#[.int .i64 (shrinkS s0 a1).rev, .int .i64 (shrinkS s0 a1).low, .slice P2 p2 q2, .slice Q2 u2 v2]) 25)))
  have R1_29 := Lib.hid (R1_23.out.below (new1 w4 (.cells (#[.int .i64 (shrinkS s0 a1).rev, .int .i64 (shrinkS s0 a1).low, .slice P2 p2 q2, .slice Q2 u2 v2]) 25)))
  have L2_30 := Lib.hid (L2_25.out.keep (new1 w4 (.cells (#[.int .i64 (shrinkS s0 a1).rev, .int .i64 (shrinkS s0 a1).low, .slice P2 p2 q2, .slice Q2 u2 v2]) 25)))
  have B_31 := Lib.hid (then_ B_24.out (new1 w4 (.cells (#[.int .i64 (shrinkS s0 a1).rev, .int .i64 (shrinkS s0 a1).low, .slice P2 p2 q2, .slice Q2 u2 v2]) 25)))
  clear K_20 X_21 L1_22 R1_23 L2_25 B_24
  have R2_32 := Lib.hid (own_new w4 (#[.int .i64 (shrinkS s0 a1).rev, .int .i64 (shrinkS s0 a1).low, .slice P2 p2 q2, .slice Q2 u2 v2]) 25)
  have x0 := X_27.out.cell 0 _ rfl
  have x1 := X_27.out.cell 1 _ rfl
  have x2 := X_27.out.cell 2 _ rfl
  have x3 := X_27.out.cell 3 _ rfl
  go_wp2_with fail
  refine (at_any s0 A0 n0 c0 B0 m0 d0 a2 _ K_26.out HB.out HI2.out).mono ?_; rintro e w5 ⟨W1, i1, j1, rfl, h3, hb⟩
  have S_33 := Lib.hid hb; clear hb
  have K_34 := Lib.hid (K_26.out.keep S_33.out)
  have X_35 := Lib.hid (X_27.out.below S_33.out)
  have L1_36 := Lib.hid (L1_28.out.keep S_33.out)
  have R1_37 := Lib.hid (R1_29.out.below S_33.out)
  have L2_38 := Lib.hid (L2_30.out.keep S_33.out)
  have R2_39 := Lib.hid (R2_32.out.below S_33.out)
  have B_40 := Lib.hid (then_ B_31.out S_33.out)
  clear K_26 X_27 L1_28 R1_29 L2_30 R2_32 B_31
  clear S_33
  clear x0 x1 x2 x3
  have WA_41 := Lib.hid (h3)
  clear h3
  have y0 := R1_37.out.cell 0 _ rfl
  have y1 := R1_37.out.cell 1 _ rfl
  have y2 := R1_37.out.cell 2 _ rfl
  have y3 := R1_37.out.cell 3 _ rfl
  go_wp2_with fail
  refine (at_any (shrinkS s0 a1) P1 p1 q1 Q1 u1 v1 a2 _ L1_36.out HP.out HI2.out).mono ?_; rintro e w6 ⟨W2, i2, j2, rfl, h4, hb⟩
  have S_42 := Lib.hid hb; clear hb
  have K_43 := Lib.hid (K_34.out.keep S_42.out)
  have X_44 := Lib.hid (X_35.out.below S_42.out)
  have L1_45 := Lib.hid (L1_36.out.keep S_42.out)
  have R1_46 := Lib.hid (R1_37.out.below S_42.out)
  have L2_47 := Lib.hid (L2_38.out.keep S_42.out)
  have R2_48 := Lib.hid (R2_39.out.below S_42.out)
  have WA_49 := Lib.hid (WA_41.out.keep S_42.out)
  have B_50 := Lib.hid (then_ B_40.out S_42.out)
  clear K_34 X_35 L1_36 R1_37 L2_38 R2_39 WA_41 B_40
  clear S_42
  clear y0 y1 y2 y3
  have WB_51 := Lib.hid (h4)
  clear h4
  obtain rfl : p1 = p2 := hp1.symm.trans L2_47.out.kv.len
  obtain rfl : u1 = u2 := hp2.symm.trans L2_47.out.ev.len
  have x0 := X_44.out.cell 0 _ rfl
  have x1 := X_44.out.cell 1 _ rfl
  have x2 := X_44.out.cell 2 _ rfl
  have x3 := X_44.out.cell 3 _ rfl
  have y0 := R1_46.out.cell 0 _ rfl
  have y1 := R1_46.out.cell 1 _ rfl
  have y2 := R1_46.out.cell 2 _ rfl
  have y3 := R1_46.out.cell 3 _ rfl
  have z0 := R2_48.out.cell 0 _ rfl
  have z1 := R2_48.out.cell 1 _ rfl
  have z2 := R2_48.out.cell 2 _ rfl
  have z3 := R2_48.out.cell 3 _ rfl
  have hlx := X_44.out.lt; have hly := R1_46.out.lt; have hlz := R2_48.out.lt
  have tok1 : True := trivial; have tok2 : True := trivial; have tok3 : True := trivial
  go_wp2
  go_region_held3 (fun w' => w'.cell? ⟨w.heap.size, 0, none⟩ = some (.int .i64 s0.rev) ∧ w'.cell? ⟨w.heap.size, 1, none⟩ = some (.int .i64 s0.low) ∧ w'.cell? ⟨w.heap.size, 2, none⟩ = some (.slice A0 n0 c0) ∧ w'.cell? ⟨w.heap.size, 3, none⟩ = some (.slice B0 m0 d0) ∧ w'.cell? ⟨w3.heap.size, 0, none⟩ = some (.int .i64 (shrinkS s0 a1).rev) ∧ w'.cell? ⟨w3.heap.size, 1, none⟩ = some (.int .i64 (shrinkS s0 a1).low) ∧ w'.cell? ⟨w3.heap.size, 2, none⟩ = some (.slice P1 p1 q1) ∧ w'.cell? ⟨w3.heap.size, 3, none⟩ = some (.slice Q1 u1 v1) ∧ w'.cell? ⟨w4.heap.size, 0, none⟩ = some (.int .i64 (shrinkS s0 a1).rev) ∧ w'.cell? ⟨w4.heap.size, 1, none⟩ = some (.int .i64 (shrinkS s0 a1).low) ∧ w'.cell? ⟨w4.heap.size, 2, none⟩ = some (.slice P2 p1 q2) ∧ w'.cell? ⟨w4.heap.size, 3, none⟩ = some (.slice Q2 u1 v2)) (go_keep) (first
    | (go_at_call 19; have _t := tok1; clear _t tok1; (with_reducible refine (mvmay_any (shrinkS s0 a1) P1 p1 q1 Q1 u1 v1 _ (L1_45.out.keep (new_drew w6))).mono ?_); rintro e V1 ⟨rfl, hb⟩; rw [MB.out]; have HV1 : Hid (Below w6.heap.size w6 V1) := Lib.hid (then_ (new_drew w6) hb); clear hb; obtain ⟨hcV1, hfV1⟩ := bcell HV1.out)
    | (go_at_call 29; have _t := tok2; clear _t tok2; (with_reducible refine (st_same (shrinkS s0 a1) P1 P2 p1 q1 q2 Q1 Q2 u1 v1 v2 _ (L1_45.out.keep HV1.out) (L2_47.out.keep HV1.out) (by omega) (by omega)).mono ?_); rintro e V2 ⟨rfl, hb⟩; have HV2 : Hid (Below w6.heap.size w6 V2) := Lib.hid (then_ HV1.out hb); clear hb; clear hcV1 hfV1; obtain ⟨hcV2, hfV2⟩ := bcell HV2.out)
    | (go_at_call 22; have _t := tok3; clear _t tok3; (with_reducible refine (now_any s0 A0 n0 c0 B0 m0 d0 _ (K_43.out.keep HV2.out) HB.out).mono ?_); rintro e V3 ⟨W3, i3, j3, rfl, h5, hb⟩; have HV3 : Hid (Below w6.heap.size w6 V3) := Lib.hid (then_ HV2.out hb); have NA := Lib.hid h5; clear h5; have tokA : True := trivial; clear hb; clear hcV2 hfV2; obtain ⟨hcV3, hfV3⟩ := bcell HV3.out)
    | (go_at_call 22; have _t := tokA; clear _t tokA; (with_reducible refine (now_any (shrinkS s0 a1) P1 p1 q1 Q1 u1 v1 _ (L1_45.out.keep HV3.out) HP.out).mono ?_); rintro e V4 ⟨W4, i4, j4, rfl, h6, hb⟩; rw [NW.out] at h6; have NB := Lib.hid h6; have NC := Lib.hid (NA.out.keep hb); obtain rfl : i3 = i4 := NA.out.len.symm.trans h6.len; clear h6 NA; have tokK : True := trivial; have HV4 : Hid (Below w6.heap.size w6 V4) := Lib.hid (then_ HV3.out hb); clear hb; clear hcV3 hfV3; obtain ⟨hcV4, hfV4⟩ := bcell HV4.out)
    | (go_at_call 22; have _t := tok3; clear _t tok3; (with_reducible refine (now_any (shrinkS s0 a1) P1 p1 q1 Q1 u1 v1 _ (L1_45.out.keep HV2.out) HP.out).mono ?_); rintro e V5 ⟨W4, i4, j4, rfl, h6, hb⟩; rw [NW.out] at h6; have NA := Lib.hid h6; clear h6; have tokB : True := trivial; have HV5 : Hid (Below w6.heap.size w6 V5) := Lib.hid (then_ HV2.out hb); clear hb; clear hcV2 hfV2; obtain ⟨hcV5, hfV5⟩ := bcell HV5.out)
    | (go_at_call 22; have _t := tokB; clear _t tokB; (with_reducible refine (now_any s0 A0 n0 c0 B0 m0 d0 _ (K_43.out.keep HV5.out) HB.out).mono ?_); rintro e V4 ⟨W3, i3, j3, rfl, h5, hb⟩; have HV4 : Hid (Below w6.heap.size w6 V4) := Lib.hid (then_ HV5.out hb); have NC := Lib.hid h5; have NB := Lib.hid (NA.out.keep hb); obtain rfl : i3 = i4 := h5.len.symm.trans NA.out.len; clear h5 NA; have tokK : True := trivial; clear hb; clear hcV5 hfV5; obtain ⟨hcV4, hfV4⟩ := bcell HV4.out)
    | (go_at_call 21; have _t := tokK; clear _t tokK; (with_reducible refine (kvs_same W3 W4 i3 j3 j4 (nowL s0) _ NC.out NB.out (by have h1 := NC.out.len; have h2 := MS.out.now.len; omega)).mono ?_); rintro e V6 ⟨rfl, hb⟩; have HV6 : Hid (Below w6.heap.size w6 V6) := Lib.hid (then_ HV4.out hb); clear hb; clear hcV4 hfV4; obtain ⟨hcV6, hfV6⟩ := bcell HV6.out))
  clear x0 x1 x2 x3
  clear y0 y1 y2 y3
  clear z0 z1 z2 z3
  all_goals
    clear hlx hly hlz
    have K_52 := Lib.hid (K_43.out.keep HV6.out)
    have X_53 := Lib.hid (X_44.out.below HV6.out)
    have L1_54 := Lib.hid (L1_45.out.keep HV6.out)
    have R1_55 := Lib.hid (R1_46.out.below HV6.out)
    have L2_56 := Lib.hid (L2_47.out.keep HV6.out)
    have R2_57 := Lib.hid (R2_48.out.below HV6.out)
    have WA_58 := Lib.hid (WA_49.out.keep HV6.out)
    have WB_59 := Lib.hid (WB_51.out.keep HV6.out)
    have B_60 := Lib.hid (then_ B_50.out HV6.out)
    clear K_43 X_44 L1_45 R1_46 L2_47 R2_48 WA_49 WB_51 B_50
    obtain rfl : i1 = i2 := by have h1 := WA_58.out.len; have h2 := WB_59.out.len; rw [FR.out.1] at h2; exact h1.symm.trans h2
    have QB : Hid (KVs V6 W2 i1 j2 (atL s0 a2)) := Lib.hid (by have h := WB_59.out; rw [FR.out.1] at h; exact h)
    have hi1 : i1 ≤ 1000000 := by have h1 := WA_58.out.len; have h2 := at_len s0 a2; omega
    go_wp2_with fail
    refine (kvs_same W1 W2 i1 j1 j2 (atL s0 a2) _ WA_58.out QB.out (by omega)).mono ?_; rintro e w8 ⟨rfl, hb⟩
    have S_61 := Lib.hid hb; clear hb
    have K_62 := Lib.hid (K_52.out.keep S_61.out)
    have X_63 := Lib.hid (X_53.out.below S_61.out)
    have L1_64 := Lib.hid (L1_54.out.keep S_61.out)
    have R1_65 := Lib.hid (R1_55.out.below S_61.out)
    have L2_66 := Lib.hid (L2_56.out.keep S_61.out)
    have R2_67 := Lib.hid (R2_57.out.below S_61.out)
    have WA_68 := Lib.hid (WA_58.out.keep S_61.out)
    have WB_69 := Lib.hid (WB_59.out.keep S_61.out)
    have B_70 := Lib.hid (then_ B_60.out S_61.out)
    clear K_52 X_53 L1_54 R1_55 L2_56 R2_57 WA_58 WB_59 B_60
    clear S_61
    go_wp2_with fail
    refine (live_any _).mono ?_; rintro e w9 ⟨rfl, hb⟩
    have S_71 := Lib.hid hb; clear hb
    have K_72 := Lib.hid (K_62.out.keep S_71.out)
    have X_73 := Lib.hid (X_63.out.below S_71.out)
    have L1_74 := Lib.hid (L1_64.out.keep S_71.out)
    have R1_75 := Lib.hid (R1_65.out.below S_71.out)
    have L2_76 := Lib.hid (L2_66.out.keep S_71.out)
    have R2_77 := Lib.hid (R2_67.out.below S_71.out)
    have WA_78 := Lib.hid (WA_68.out.keep S_71.out)
    have WB_79 := Lib.hid (WB_69.out.keep S_71.out)
    have B_80 := Lib.hid (then_ B_70.out S_71.out)
    clear K_62 X_63 L1_64 R1_65 L2_66 R2_67 WA_68 WB_69 B_70
    clear S_71
    go_wp2
    go_ret
    exact ⟨rfl, B_80.out⟩
theorem walk (w : World) (s0 : St) (A0 : Option Addr) (n0 c0 : Nat) (B0 : Option Addr) (m0 d0 : Nat) (a1 : Int) (a2 : Int) (k0 : StAt w s0 A0 n0 c0 B0 m0 d0) (w1 : (Lit.int .i64 a1).wf = true) (w2 : (Lit.int .i64 a2).wf = true) :
    Calls Try.prog 6 #[s0.agg A0 n0 c0 B0 m0 d0, .int .i64 a1, .int .i64 a2] w fun e w' => e = .returned (.bool true) ∧ Below w.heap.size w w' := by
  cases hf : fewS s0 with
  | false => exact no_few w s0 A0 n0 c0 B0 m0 d0 a1 a2 k0 w1 w2 hf
  | true =>
    cases hm : mayB s0 with
    | false => exact no_may w s0 A0 n0 c0 B0 m0 d0 a1 a2 k0 w1 w2 hf hm
    | true =>
      by_cases hk : keptE s0 a1 = 0
      · by_cases h0 : a2 = 0
        · exact fine_now w s0 A0 n0 c0 B0 m0 d0 a1 a2 k0 w1 w2 hf hm hk h0
        · by_cases h1 : a2 < 0
          · exact fine_neg w s0 A0 n0 c0 B0 m0 d0 a1 a2 k0 w1 w2 hf hm hk h1
          · by_cases h2 : a2 < a1
            · exact fine_gone w s0 A0 n0 c0 B0 m0 d0 a1 a2 k0 w1 w2 hf hm hk (by omega) h2
            · exact fine_from w s0 A0 n0 c0 B0 m0 d0 a1 a2 k0 w1 w2 hf hm hk (by omega) (by omega)
      · by_cases hl : a1 < s0.low
        · exact err_low w s0 A0 n0 c0 B0 m0 d0 a1 a2 k0 w1 w2 hf hm hk hl
        · exact err_high w s0 A0 n0 c0 B0 m0 d0 a1 a2 k0 w1 w2 hf hm hk hl ((out_of (may_st.1 hm) hk).resolve_left hl)

theorem own : ownKnob Try.prog.godebug = none := by kernel_rfl
theorem laidOut : laidOutB Try.prog = true := by kernel_rfl

set_option maxRecDepth 100000 in
theorem lifted (os : Os) (started : os.Started) (H : Type) (enc : TypeId × Value → H) :
    ReturnsInHanded {} Try.checked os 6 .any (Rows.mvccShrinksSpec.pre6 enc Try.prog Try.f6 Rows.mvccShrinksRow.domain false) (Rows.mvccShrinksSpec.post enc Try.prog Try.f6 false true false false) := by
  refine returnsInHanded_of_change (C := Try.checked) own started (by kernel_rfl) Try.func6
    (ChangeSpec.witness6 (enc := enc) (C := Try.checked) false ⟨#[], #[.agg #[.int .i64 0, .int .i64 0, .slice none 0 0, .slice none 0 0], (.int .i64 0), (.int .i64 0)], []⟩ 8 (by kernel_rfl) (by kernel_rfl) (by kernel_rfl) (by kernel_rfl)) ?_
  intro W base args ds gs before hval0 hW hcnd _
  have hval : ∀ (j : Nat) t v, Try.f6.params[j]? = some t → args[j]? = some v → Value.okWide Try.prog W .any base t v := hval0
  have hW' := hW
  obtain ⟨p, q, hA0, hV, rfl, hfz, hnd⟩ := hW
  have hA : DataW.TrodAll enc Try.prog W 0 (fun _ => true) true Try.f6.params.toList args.toList ds p := hA0
  rw [Try.params6] at hA hval
  obtain ⟨v0, vs0, d0, ds0, p0, q0, hargs, rfl, rfl, h0, r0⟩ := trodAll_cons hA
  obtain ⟨v1, vs1, d1, ds1, p1, q1, rfl, rfl, rfl, h1, r1⟩ := trodAll_cons r0
  obtain ⟨v2, vs2, d2, ds2, p2, q2, rfl, rfl, rfl, h2, r2⟩ := trodAll_cons r1
  obtain ⟨rfl, rfl, rfl⟩ := trodAll_nil r2
  obtain rfl : args = #[v0, v1, v2] := by cases args; simp_all
  obtain ⟨rfl, rfl⟩ := trodVars_none hV
  obtain ⟨s0, A0, n0, c0, B0, m0, d0, rfl, k0⟩ := open_st (hval 0 25 v0 rfl rfl) h0
  obtain ⟨a1, rfl, rfl, rfl, w1⟩ := open_int Try.underlying3 (hval 1 3 v1 rfl rfl) h1
  obtain ⟨a2, rfl, rfl, rfl, w2⟩ := open_int Try.underlying3 (hval 2 3 v2 rfl rfl) h2
  clear hA0 hval0
  refine (walk W s0 A0 n0 c0 B0 m0 d0 a1 a2 k0 w1 w2).mono fun e W' ⟨he, bel⟩ => ?_
  subst he
  exact ⟨_, rfl, _, _, _, [], _, [], hW', trodAll_mk1 (shut_bool Try.underlying4 _), (trodAll_cons_mk (Below.trod laidOut (by kernel_rfl) (of_decide_eq_true (by kernel_rfl)) h0 bel (fun x hx => hW'.lt x (by simp [hx]))) (trodAll_cons_mk (shut_int Try.underlying3 w1) (trodAll_cons_mk (shut_int Try.underlying3 w2) trodAll_mk0))), rfl, bel.frame _, fun h => by cases h⟩

theorem over : Rows.mvccShrinksRow.holds Try.pinned (OpenSpec.ofChange Rows.mvccShrinksSpec) :=
  OpenClaim.holds_of_wide 6 Try.f6 rfl rfl rfl rfl rfl rfl rfl ⟨rfl, rfl, rfl, rfl, rfl⟩ rfl rfl rfl rfl rfl (by kernel_rfl) Try.func6 (by kernel_rfl)
    (of_decide_eq_true (by kernel_rfl)) (by unfold Func.isWrapper; first | (rw [if_pos (by decide +kernel)]; kernel_rfl) | (rw [if_neg (by decide +kernel)]; exact ⟨rfl, rfl⟩))
    (fun os started H enc _ => lifted os started H enc)

theorem proved : Rows.MvccShrinksSaid := over
#print axioms proved
end Go.Proofs.Ytlffhehpeeiogaa.mvccShrinks
