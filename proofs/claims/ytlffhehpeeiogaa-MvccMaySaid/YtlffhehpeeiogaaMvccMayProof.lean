/- For every store, every list of things to be done and every revision the law MvccMay answers true: of a store that may be comes one that may be; what there was at each revision is as it was. No condition. -/
import Derived.Test.YtlffhehpeeiogaaMvLaysPure
import Derived.Test.YtlffhehpeeiogaaMvOpen
import Derived.Test.YtlffhehpeeiogaaRows
namespace Go.Proofs.Ytlffhehpeeiogaa.mvccMay
open Go.ChangeShapes Go.WideShapes Go.ChangeAt Go.RowKit Go.Proofs.Ytlffhehpeeiogaa.P
open Go.ChangeMaps (open_string shut_string)
set_option linter.unusedVariables false
set_option linter.unusedSimpArgs false
set_option maxHeartbeats 2000000
set_option maxRecDepth 100000

theorem done_of {s : St} {ms : List Mu} (he : applyE s ms = 0) (hv : eventsOf s ms ≠ []) : applyE s ms = 0 ∧ applyS s ms = doneS s ms ∧ applyEv s ms = eventsOf s ms := ⟨he, if_pos ⟨he, hv⟩, if_pos ⟨he, hv⟩⟩
theorem idle_of {s : St} {ms : List Mu} (he : applyE s ms = 0) (hv : eventsOf s ms = []) : applyE s ms = 0 ∧ applyS s ms = s ∧ applyEv s ms = [] := ⟨he, if_neg fun h => h.2 hv, if_neg fun h => h.2 hv⟩
theorem err_of {s : St} {ms : List Mu} (he : applyE s ms ≠ 0) : applyE s ms = applyE s ms ∧ applyS s ms = s ∧ applyEv s ms = [] := ⟨rfl, if_neg fun h => he h.1, if_neg fun h => he h.1⟩
theorem at_now {s : St} (h : MaySt s) (hp : s.rev ≠ 0) : atL s s.rev = nowL s ∧ atE s s.rev = 0 := by
  have hk : keptE s s.rev = 0 := by have := h.low; have := h.le; unfold keptE; rw [if_neg (by omega), if_neg (by omega)]
  unfold atL atE; rw [if_neg hp, if_neg hp, if_pos hk]; exact ⟨rfl, hk⟩
theorem done_keeps {s : St} (h : MaySt s) {ms : List Mu} (ha : applied s ms) {t : Int} (h0 : t ≠ 0) (ht : t ≤ s.rev) : atL (doneS s ms) t = atL s t ∧ atE (doneS s ms) t = atE s t := by
  have hk : keptE (doneS s ms) t = keptE s t := by
    unfold keptE doneS
    simp only
    by_cases h1 : t < 0
    · rw [if_pos (.inl h1), if_pos (.inl h1)]
    · rw [if_neg (show ¬ (t < 0 ∨ s.rev + 1 < t) by omega), if_neg (show ¬ (t < 0 ∨ s.rev < t) by omega)]
  unfold atL atE
  rw [if_neg h0, if_neg h0, if_neg h0, if_neg h0, hk, done_at h (may_do (applied_iff ha).1).2 ht]
  exact ⟨rfl, rfl⟩
theorem no_few (w : World) (s0 : St) (A0 : Option Addr) (n0 c0 : Nat) (B0 : Option Addr) (m0 d0 : Nat) (A1 : Option Addr) (n1 c1 : Nat) (l1 : List Mu) (a2 : Int) (k0 : StAt w s0 A0 n0 c0 B0 m0 d0) (k1 : Mus w A1 n1 c1 l1) (w2 : (Lit.int .i64 a2).wf = true) (hf : fewS s0 = false) :
    Calls Try.prog 5 #[s0.agg A0 n0 c0 B0 m0 d0, .slice A1 n1 c1, .int .i64 a2] w fun e w' => e = .returned (.bool true) ∧ Below w.heap.size w w' := by
  have HF := Lib.hid hf; clear hf
  have K_0 := Lib.hid (k0.keep (new1 w (.cells (stCells s0 A0 n0 c0 B0 m0 d0) 25)))
  have X_0 := Lib.hid (own_new w (stCells s0 A0 n0 c0 B0 m0 d0) 25)
  have M_0 := Lib.hid (k1.keep (new1 w (.cells (stCells s0 A0 n0 c0 B0 m0 d0) 25)))
  have B_0 := Lib.hid (new1 w (.cells (stCells s0 A0 n0 c0 B0 m0 d0) 25))
  clear k0 k1
  go_enter Try.func5, Try.ntmps5
  have x0 := X_0.out.cell 0 _ rfl
  have x1 := X_0.out.cell 1 _ rfl
  have x2 := X_0.out.cell 2 _ rfl
  have x3 := X_0.out.cell 3 _ rfl
  go_wp2_with fail
  refine (few_st s0 A0 n0 c0 B0 m0 d0 _ K_0.out).mono ?_; rintro e w1 ⟨rfl, hb⟩
  rw [HF.out]
  have S_1 := Lib.hid hb; clear hb
  have K_2 := Lib.hid (K_0.out.keep S_1.out)
  have X_3 := Lib.hid (X_0.out.below S_1.out)
  have M_4 := Lib.hid (M_0.out.keep S_1.out)
  have B_5 := Lib.hid (then_ B_0.out S_1.out)
  clear K_0 X_0 M_0 B_0
  clear S_1
  clear x0 x1 x2 x3
  go_wp2_with fail
  refine (live_any _).mono ?_; rintro e w2 ⟨rfl, hb⟩
  have S_6 := Lib.hid hb; clear hb
  have K_7 := Lib.hid (K_2.out.keep S_6.out)
  have X_8 := Lib.hid (X_3.out.below S_6.out)
  have M_9 := Lib.hid (M_4.out.keep S_6.out)
  have B_10 := Lib.hid (then_ B_5.out S_6.out)
  clear K_2 X_3 M_4 B_5
  clear S_6
  go_wp2
  go_ret
  exact ⟨rfl, B_10.out⟩
theorem no_may (w : World) (s0 : St) (A0 : Option Addr) (n0 c0 : Nat) (B0 : Option Addr) (m0 d0 : Nat) (A1 : Option Addr) (n1 c1 : Nat) (l1 : List Mu) (a2 : Int) (k0 : StAt w s0 A0 n0 c0 B0 m0 d0) (k1 : Mus w A1 n1 c1 l1) (w2 : (Lit.int .i64 a2).wf = true) (hf : fewS s0 = true) (hm : mayB s0 = false) :
    Calls Try.prog 5 #[s0.agg A0 n0 c0 B0 m0 d0, .slice A1 n1 c1, .int .i64 a2] w fun e w' => e = .returned (.bool true) ∧ Below w.heap.size w w' := by
  have HF := Lib.hid hf; clear hf
  have HM := Lib.hid hm; clear hm
  have K_0 := Lib.hid (k0.keep (new1 w (.cells (stCells s0 A0 n0 c0 B0 m0 d0) 25)))
  have X_0 := Lib.hid (own_new w (stCells s0 A0 n0 c0 B0 m0 d0) 25)
  have M_0 := Lib.hid (k1.keep (new1 w (.cells (stCells s0 A0 n0 c0 B0 m0 d0) 25)))
  have B_0 := Lib.hid (new1 w (.cells (stCells s0 A0 n0 c0 B0 m0 d0) 25))
  clear k0 k1
  go_enter Try.func5, Try.ntmps5
  have x0 := X_0.out.cell 0 _ rfl
  have x1 := X_0.out.cell 1 _ rfl
  have x2 := X_0.out.cell 2 _ rfl
  have x3 := X_0.out.cell 3 _ rfl
  go_wp2_with fail
  refine (few_st s0 A0 n0 c0 B0 m0 d0 _ K_0.out).mono ?_; rintro e w1 ⟨rfl, hb⟩
  rw [HF.out]
  have S_1 := Lib.hid hb; clear hb
  have K_2 := Lib.hid (K_0.out.keep S_1.out)
  have X_3 := Lib.hid (X_0.out.below S_1.out)
  have M_4 := Lib.hid (M_0.out.keep S_1.out)
  have B_5 := Lib.hid (then_ B_0.out S_1.out)
  clear K_0 X_0 M_0 B_0
  clear S_1
  clear x0 x1 x2 x3
  have x0 := X_3.out.cell 0 _ rfl
  have x1 := X_3.out.cell 1 _ rfl
  have x2 := X_3.out.cell 2 _ rfl
  have x3 := X_3.out.cell 3 _ rfl
  go_wp2_with fail
  refine (mvmay_any s0 A0 n0 c0 B0 m0 d0 _ K_2.out).mono ?_; rintro e w2 ⟨rfl, hb⟩
  rw [HM.out]
  have S_6 := Lib.hid hb; clear hb
  have K_7 := Lib.hid (K_2.out.keep S_6.out)
  have X_8 := Lib.hid (X_3.out.below S_6.out)
  have M_9 := Lib.hid (M_4.out.keep S_6.out)
  have B_10 := Lib.hid (then_ B_5.out S_6.out)
  clear K_2 X_3 M_4 B_5
  clear S_6
  clear x0 x1 x2 x3
  go_wp2_with fail
  refine (live_any _).mono ?_; rintro e w3 ⟨rfl, hb⟩
  have S_11 := Lib.hid hb; clear hb
  have K_12 := Lib.hid (K_7.out.keep S_11.out)
  have X_13 := Lib.hid (X_8.out.below S_11.out)
  have M_14 := Lib.hid (M_9.out.keep S_11.out)
  have B_15 := Lib.hid (then_ B_10.out S_11.out)
  clear K_7 X_8 M_9 B_10
  clear S_11
  go_wp2
  go_ret
  exact ⟨rfl, B_15.out⟩
theorem no_len (w : World) (s0 : St) (A0 : Option Addr) (n0 c0 : Nat) (B0 : Option Addr) (m0 d0 : Nat) (A1 : Option Addr) (n1 c1 : Nat) (l1 : List Mu) (a2 : Int) (k0 : StAt w s0 A0 n0 c0 B0 m0 d0) (k1 : Mus w A1 n1 c1 l1) (w2 : (Lit.int .i64 a2).wf = true) (hf : fewS s0 = true) (hm : mayB s0 = true) (hn : 40 < n1) :
    Calls Try.prog 5 #[s0.agg A0 n0 c0 B0 m0 d0, .slice A1 n1 c1, .int .i64 a2] w fun e w' => e = .returned (.bool true) ∧ Below w.heap.size w w' := by
  have HF := Lib.hid hf; clear hf
  have HM := Lib.hid hm; clear hm
  have K_0 := Lib.hid (k0.keep (new1 w (.cells (stCells s0 A0 n0 c0 B0 m0 d0) 25)))
  have X_0 := Lib.hid (own_new w (stCells s0 A0 n0 c0 B0 m0 d0) 25)
  have M_0 := Lib.hid (k1.keep (new1 w (.cells (stCells s0 A0 n0 c0 B0 m0 d0) 25)))
  have B_0 := Lib.hid (new1 w (.cells (stCells s0 A0 n0 c0 B0 m0 d0) 25))
  clear k0 k1
  go_enter Try.func5, Try.ntmps5
  have x0 := X_0.out.cell 0 _ rfl
  have x1 := X_0.out.cell 1 _ rfl
  have x2 := X_0.out.cell 2 _ rfl
  have x3 := X_0.out.cell 3 _ rfl
  go_wp2_with fail
  refine (few_st s0 A0 n0 c0 B0 m0 d0 _ K_0.out).mono ?_; rintro e w1 ⟨rfl, hb⟩
  rw [HF.out]
  have S_1 := Lib.hid hb; clear hb
  have K_2 := Lib.hid (K_0.out.keep S_1.out)
  have X_3 := Lib.hid (X_0.out.below S_1.out)
  have M_4 := Lib.hid (M_0.out.keep S_1.out)
  have B_5 := Lib.hid (then_ B_0.out S_1.out)
  clear K_0 X_0 M_0 B_0
  clear S_1
  clear x0 x1 x2 x3
  have x0 := X_3.out.cell 0 _ rfl
  have x1 := X_3.out.cell 1 _ rfl
  have x2 := X_3.out.cell 2 _ rfl
  have x3 := X_3.out.cell 3 _ rfl
  go_wp2_with fail
  refine (mvmay_any s0 A0 n0 c0 B0 m0 d0 _ K_2.out).mono ?_; rintro e w2 ⟨rfl, hb⟩
  rw [HM.out]
  have S_6 := Lib.hid hb; clear hb
  have K_7 := Lib.hid (K_2.out.keep S_6.out)
  have X_8 := Lib.hid (X_3.out.below S_6.out)
  have M_9 := Lib.hid (M_4.out.keep S_6.out)
  have B_10 := Lib.hid (then_ B_5.out S_6.out)
  clear K_2 X_3 M_4 B_5
  clear S_6
  clear x0 x1 x2 x3
  go_wp2_with fail
  refine (live_any _).mono ?_; rintro e w3 ⟨rfl, hb⟩
  have S_11 := Lib.hid hb; clear hb
  have K_12 := Lib.hid (K_7.out.keep S_11.out)
  have X_13 := Lib.hid (X_8.out.below S_11.out)
  have M_14 := Lib.hid (M_9.out.keep S_11.out)
  have B_15 := Lib.hid (then_ B_10.out S_11.out)
  clear K_7 X_8 M_9 B_10
  clear S_11
  go_wp2
  go_ret
  exact ⟨rfl, B_15.out⟩
theorem no_short (w : World) (s0 : St) (A0 : Option Addr) (n0 c0 : Nat) (B0 : Option Addr) (m0 d0 : Nat) (A1 : Option Addr) (n1 c1 : Nat) (l1 : List Mu) (a2 : Int) (k0 : StAt w s0 A0 n0 c0 B0 m0 d0) (k1 : Mus w A1 n1 c1 l1) (w2 : (Lit.int .i64 a2).wf = true) (hf : fewS s0 = true) (hm : mayB s0 = true) (hn : n1 ≤ 40) (hs : l1.all shMu = false) :
    Calls Try.prog 5 #[s0.agg A0 n0 c0 B0 m0 d0, .slice A1 n1 c1, .int .i64 a2] w fun e w' => e = .returned (.bool true) ∧ Below w.heap.size w w' := by
  have HF := Lib.hid hf; clear hf
  have HM := Lib.hid hm; clear hm
  have HS := Lib.hid hs; clear hs
  have K_0 := Lib.hid (k0.keep (new1 w (.cells (stCells s0 A0 n0 c0 B0 m0 d0) 25)))
  have X_0 := Lib.hid (own_new w (stCells s0 A0 n0 c0 B0 m0 d0) 25)
  have M_0 := Lib.hid (k1.keep (new1 w (.cells (stCells s0 A0 n0 c0 B0 m0 d0) 25)))
  have B_0 := Lib.hid (new1 w (.cells (stCells s0 A0 n0 c0 B0 m0 d0) 25))
  clear k0 k1
  go_enter Try.func5, Try.ntmps5
  have x0 := X_0.out.cell 0 _ rfl
  have x1 := X_0.out.cell 1 _ rfl
  have x2 := X_0.out.cell 2 _ rfl
  have x3 := X_0.out.cell 3 _ rfl
  go_wp2_with fail
  refine (few_st s0 A0 n0 c0 B0 m0 d0 _ K_0.out).mono ?_; rintro e w1 ⟨rfl, hb⟩
  rw [HF.out]
  have S_1 := Lib.hid hb; clear hb
  have K_2 := Lib.hid (K_0.out.keep S_1.out)
  have X_3 := Lib.hid (X_0.out.below S_1.out)
  have M_4 := Lib.hid (M_0.out.keep S_1.out)
  have B_5 := Lib.hid (then_ B_0.out S_1.out)
  clear K_0 X_0 M_0 B_0
  clear S_1
  clear x0 x1 x2 x3
  have x0 := X_3.out.cell 0 _ rfl
  have x1 := X_3.out.cell 1 _ rfl
  have x2 := X_3.out.cell 2 _ rfl
  have x3 := X_3.out.cell 3 _ rfl
  go_wp2_with fail
  refine (mvmay_any s0 A0 n0 c0 B0 m0 d0 _ K_2.out).mono ?_; rintro e w2 ⟨rfl, hb⟩
  rw [HM.out]
  have S_6 := Lib.hid hb; clear hb
  have K_7 := Lib.hid (K_2.out.keep S_6.out)
  have X_8 := Lib.hid (X_3.out.below S_6.out)
  have M_9 := Lib.hid (M_4.out.keep S_6.out)
  have B_10 := Lib.hid (then_ B_5.out S_6.out)
  clear K_2 X_3 M_4 B_5
  clear S_6
  clear x0 x1 x2 x3
  go_wp2_with fail
  refine (short_any A1 n1 c1 l1 _ M_9.out).mono ?_; rintro e w' ⟨rfl, rfl⟩
  rw [HS.out]
  go_wp2_with fail
  refine (live_any _).mono ?_; rintro e w3 ⟨rfl, hb⟩
  have S_11 := Lib.hid hb; clear hb
  have K_12 := Lib.hid (K_7.out.keep S_11.out)
  have X_13 := Lib.hid (X_8.out.below S_11.out)
  have M_14 := Lib.hid (M_9.out.keep S_11.out)
  have B_15 := Lib.hid (then_ B_10.out S_11.out)
  clear K_7 X_8 M_9 B_10
  clear S_11
  go_wp2
  go_ret
  exact ⟨rfl, B_15.out⟩
theorem err (w : World) (s0 : St) (A0 : Option Addr) (n0 c0 : Nat) (B0 : Option Addr) (m0 d0 : Nat) (A1 : Option Addr) (n1 c1 : Nat) (l1 : List Mu) (a2 : Int) (k0 : StAt w s0 A0 n0 c0 B0 m0 d0) (k1 : Mus w A1 n1 c1 l1) (w2 : (Lit.int .i64 a2).wf = true) (hf : fewS s0 = true) (hm : mayB s0 = true) (hn : n1 ≤ 40) (hs : l1.all shMu = true) (he : applyE s0 l1 ≠ 0) :
    Calls Try.prog 5 #[s0.agg A0 n0 c0 B0 m0 d0, .slice A1 n1 c1, .int .i64 a2] w fun e w' => e = .returned (.bool true) ∧ Below w.heap.size w w' := by
  have HF := Lib.hid hf; have HM := Lib.hid hm; have HS := Lib.hid hs; have MS := Lib.hid (may_st.1 hm)
  have hb0 := k0.kv.len; have hb1 := k0.ev.len; have hb2 := MS.out.good.len; have hb3 := MS.out.len
  have HB : Hid (n0 + m0 ≤ 900000) := Lib.hid (by omega)
  have he1 : (applyE s0 l1 != 0) = true := by simp [he]
  obtain ⟨HE⟩ : Nonempty (Hid (applyE s0 l1 ≠ 0)) := ⟨Lib.hid he⟩
  clear hf hm hs he
  have K_0 := Lib.hid (k0.keep (new1 w (.cells (stCells s0 A0 n0 c0 B0 m0 d0) 25)))
  have X_0 := Lib.hid (own_new w (stCells s0 A0 n0 c0 B0 m0 d0) 25)
  have M_0 := Lib.hid (k1.keep (new1 w (.cells (stCells s0 A0 n0 c0 B0 m0 d0) 25)))
  have B_0 := Lib.hid (new1 w (.cells (stCells s0 A0 n0 c0 B0 m0 d0) 25))
  clear k0 k1
  go_enter Try.func5, Try.ntmps5
  have x0 := X_0.out.cell 0 _ rfl
  have x1 := X_0.out.cell 1 _ rfl
  have x2 := X_0.out.cell 2 _ rfl
  have x3 := X_0.out.cell 3 _ rfl
  go_wp2_with fail
  refine (few_st s0 A0 n0 c0 B0 m0 d0 _ K_0.out).mono ?_; rintro e w1 ⟨rfl, hb⟩
  rw [HF.out]
  have S_1 := Lib.hid hb; clear hb
  have K_2 := Lib.hid (K_0.out.keep S_1.out)
  have X_3 := Lib.hid (X_0.out.below S_1.out)
  have M_4 := Lib.hid (M_0.out.keep S_1.out)
  have B_5 := Lib.hid (then_ B_0.out S_1.out)
  clear K_0 X_0 M_0 B_0
  clear S_1
  clear x0 x1 x2 x3
  have x0 := X_3.out.cell 0 _ rfl
  have x1 := X_3.out.cell 1 _ rfl
  have x2 := X_3.out.cell 2 _ rfl
  have x3 := X_3.out.cell 3 _ rfl
  go_wp2_with fail
  refine (mvmay_any s0 A0 n0 c0 B0 m0 d0 _ K_2.out).mono ?_; rintro e w2 ⟨rfl, hb⟩
  rw [HM.out]
  have S_6 := Lib.hid hb; clear hb
  have K_7 := Lib.hid (K_2.out.keep S_6.out)
  have X_8 := Lib.hid (X_3.out.below S_6.out)
  have M_9 := Lib.hid (M_4.out.keep S_6.out)
  have B_10 := Lib.hid (then_ B_5.out S_6.out)
  clear K_2 X_3 M_4 B_5
  clear S_6
  clear x0 x1 x2 x3
  go_wp2_with fail
  refine (short_any A1 n1 c1 l1 _ M_9.out).mono ?_; rintro e w' ⟨rfl, rfl⟩
  rw [HS.out]
  have x0 := X_8.out.cell 0 _ rfl
  have x1 := X_8.out.cell 1 _ rfl
  have x2 := X_8.out.cell 2 _ rfl
  have x3 := X_8.out.cell 3 _ rfl
  go_wp2_with fail
  refine ((apply_any s0 A0 n0 c0 B0 m0 d0 A1 n1 c1 l1 _ K_7.out M_9.out MS.out).mono fun e w' h => ap_of (s' := s0) (es := []) (x := (applyE s0 l1)) (err_of HE.out) h).mono ?_; rintro e w3 ⟨P1, p1, q1, Q1, u1, v1, E1, en1, ec1, rfl, h1, g1, hb⟩
  have S_11 := Lib.hid hb; clear hb
  have K_12 := Lib.hid (K_7.out.keep S_11.out)
  have X_13 := Lib.hid (X_8.out.below S_11.out)
  have M_14 := Lib.hid (M_9.out.keep S_11.out)
  have B_15 := Lib.hid (then_ B_10.out S_11.out)
  clear K_7 X_8 M_9 B_10
  clear S_11
  clear x0 x1 x2 x3
  have L1_16 := Lib.hid (h1)
  have V1_17 := Lib.hid (g1)
  clear h1 g1
  have K_18 := Lib.hid (K_12.out.keep (new1 w3 (.cells (#[.int .i64 s0.rev, .int .i64 s0.low, .slice P1 p1 q1, .slice Q1 u1 v1]) 25)))
  have X_19 := Lib.hid (X_13.out.below (new1 w3 (.cells (#[.int .i64 s0.rev, .int .i64 s0.low, .slice P1 p1 q1, .slice Q1 u1 v1]) 25)))
  have M_20 := Lib.hid (M_14.out.keep (new1 w3 (.cells (#[.int .i64 s0.rev, .int .i64 s0.low, .slice P1 p1 q1, .slice Q1 u1 v1]) 25)))
  have L1_21 := Lib.hid (L1_16.out.keep (new1 w3 (.cells (#[.int .i64 s0.rev, .int .i64 s0.low, .slice P1 p1 q1, .slice Q1 u1 v1]) 25)))
  have V1_22 := Lib.hid (V1_17.out.keep (new1 w3 (.cells (#[.int .i64 s0.rev, .int .i64 s0.low, .slice P1 p1 q1, .slice Q1 u1 v1]) 25)))
  have B_23 := Lib.hid (then_ B_15.out (new1 w3 (.cells (#[.int .i64 s0.rev, .int .i64 s0.low, .slice P1 p1 q1, .slice Q1 u1 v1]) 25)))
  clear K_12 X_13 M_14 L1_16 V1_17 B_15
  have R1_24 := Lib.hid (own_new w3 (#[.int .i64 s0.rev, .int .i64 s0.low, .slice P1 p1 q1, .slice Q1 u1 v1]) 25)
  obtain rfl : en1 = 0 := by have h := V1_22.out.len; simpa using h.symm
  obtain rfl : n0 = p1 := hb0.symm.trans L1_21.out.kv.len
  obtain rfl : m0 = u1 := hb1.symm.trans L1_21.out.ev.len
  have x0 := X_19.out.cell 0 _ rfl
  have x1 := X_19.out.cell 1 _ rfl
  have x2 := X_19.out.cell 2 _ rfl
  have x3 := X_19.out.cell 3 _ rfl
  have y0 := R1_24.out.cell 0 _ rfl
  have y1 := R1_24.out.cell 1 _ rfl
  have y2 := R1_24.out.cell 2 _ rfl
  have y3 := R1_24.out.cell 3 _ rfl
  go_wp2_with fail
  refine (st_same s0 A0 P1 n0 c0 q1 B0 Q1 m0 d0 v1 _ K_18.out L1_21.out (by omega) (by omega)).mono ?_; rintro e w4 ⟨rfl, hb⟩
  have S_25 := Lib.hid hb; clear hb
  have K_26 := Lib.hid (K_18.out.keep S_25.out)
  have X_27 := Lib.hid (X_19.out.below S_25.out)
  have M_28 := Lib.hid (M_20.out.keep S_25.out)
  have L1_29 := Lib.hid (L1_21.out.keep S_25.out)
  have V1_30 := Lib.hid (V1_22.out.keep S_25.out)
  have R1_31 := Lib.hid (R1_24.out.below S_25.out)
  have B_32 := Lib.hid (then_ B_23.out S_25.out)
  clear K_18 X_19 M_20 L1_21 V1_22 R1_24 B_23
  clear S_25
  clear x0 x1 x2 x3
  clear y0 y1 y2 y3
  go_wp2_with fail
  refine (live_any _).mono ?_; rintro e w5 ⟨rfl, hb⟩
  have S_33 := Lib.hid hb; clear hb
  have K_34 := Lib.hid (K_26.out.keep S_33.out)
  have X_35 := Lib.hid (X_27.out.below S_33.out)
  have M_36 := Lib.hid (M_28.out.keep S_33.out)
  have L1_37 := Lib.hid (L1_29.out.keep S_33.out)
  have V1_38 := Lib.hid (V1_30.out.keep S_33.out)
  have R1_39 := Lib.hid (R1_31.out.below S_33.out)
  have B_40 := Lib.hid (then_ B_32.out S_33.out)
  clear K_26 X_27 M_28 L1_29 V1_30 R1_31 B_32
  clear S_33
  go_wp2
  go_ret
  exact ⟨rfl, B_40.out⟩
theorem idle (w : World) (s0 : St) (A0 : Option Addr) (n0 c0 : Nat) (B0 : Option Addr) (m0 d0 : Nat) (A1 : Option Addr) (n1 c1 : Nat) (l1 : List Mu) (a2 : Int) (k0 : StAt w s0 A0 n0 c0 B0 m0 d0) (k1 : Mus w A1 n1 c1 l1) (w2 : (Lit.int .i64 a2).wf = true) (hf : fewS s0 = true) (hm : mayB s0 = true) (hn : n1 ≤ 40) (hs : l1.all shMu = true) (he : applyE s0 l1 = 0) (hv : eventsOf s0 l1 = []) :
    Calls Try.prog 5 #[s0.agg A0 n0 c0 B0 m0 d0, .slice A1 n1 c1, .int .i64 a2] w fun e w' => e = .returned (.bool true) ∧ Below w.heap.size w w' := by
  have HF := Lib.hid hf; have HM := Lib.hid hm; have HS := Lib.hid hs; have MS := Lib.hid (may_st.1 hm)
  have hb0 := k0.kv.len; have hb1 := k0.ev.len; have hb2 := MS.out.good.len; have hb3 := MS.out.len
  have HB : Hid (n0 + m0 ≤ 900000) := Lib.hid (by omega)
  have HE := Lib.hid he; have HV := Lib.hid hv
  clear hf hm hs he hv
  have K_0 := Lib.hid (k0.keep (new1 w (.cells (stCells s0 A0 n0 c0 B0 m0 d0) 25)))
  have X_0 := Lib.hid (own_new w (stCells s0 A0 n0 c0 B0 m0 d0) 25)
  have M_0 := Lib.hid (k1.keep (new1 w (.cells (stCells s0 A0 n0 c0 B0 m0 d0) 25)))
  have B_0 := Lib.hid (new1 w (.cells (stCells s0 A0 n0 c0 B0 m0 d0) 25))
  clear k0 k1
  go_enter Try.func5, Try.ntmps5
  have x0 := X_0.out.cell 0 _ rfl
  have x1 := X_0.out.cell 1 _ rfl
  have x2 := X_0.out.cell 2 _ rfl
  have x3 := X_0.out.cell 3 _ rfl
  go_wp2_with fail
  refine (few_st s0 A0 n0 c0 B0 m0 d0 _ K_0.out).mono ?_; rintro e w1 ⟨rfl, hb⟩
  rw [HF.out]
  have S_1 := Lib.hid hb; clear hb
  have K_2 := Lib.hid (K_0.out.keep S_1.out)
  have X_3 := Lib.hid (X_0.out.below S_1.out)
  have M_4 := Lib.hid (M_0.out.keep S_1.out)
  have B_5 := Lib.hid (then_ B_0.out S_1.out)
  clear K_0 X_0 M_0 B_0
  clear S_1
  clear x0 x1 x2 x3
  have x0 := X_3.out.cell 0 _ rfl
  have x1 := X_3.out.cell 1 _ rfl
  have x2 := X_3.out.cell 2 _ rfl
  have x3 := X_3.out.cell 3 _ rfl
  go_wp2_with fail
  refine (mvmay_any s0 A0 n0 c0 B0 m0 d0 _ K_2.out).mono ?_; rintro e w2 ⟨rfl, hb⟩
  rw [HM.out]
  have S_6 := Lib.hid hb; clear hb
  have K_7 := Lib.hid (K_2.out.keep S_6.out)
  have X_8 := Lib.hid (X_3.out.below S_6.out)
  have M_9 := Lib.hid (M_4.out.keep S_6.out)
  have B_10 := Lib.hid (then_ B_5.out S_6.out)
  clear K_2 X_3 M_4 B_5
  clear S_6
  clear x0 x1 x2 x3
  go_wp2_with fail
  refine (short_any A1 n1 c1 l1 _ M_9.out).mono ?_; rintro e w' ⟨rfl, rfl⟩
  rw [HS.out]
  have x0 := X_8.out.cell 0 _ rfl
  have x1 := X_8.out.cell 1 _ rfl
  have x2 := X_8.out.cell 2 _ rfl
  have x3 := X_8.out.cell 3 _ rfl
  go_wp2_with fail
  refine ((apply_any s0 A0 n0 c0 B0 m0 d0 A1 n1 c1 l1 _ K_7.out M_9.out MS.out).mono fun e w' h => ap_of (s' := s0) (es := []) (x := 0) (idle_of HE.out HV.out) h).mono ?_; rintro e w3 ⟨P1, p1, q1, Q1, u1, v1, E1, en1, ec1, rfl, h1, g1, hb⟩
  have S_11 := Lib.hid hb; clear hb
  have K_12 := Lib.hid (K_7.out.keep S_11.out)
  have X_13 := Lib.hid (X_8.out.below S_11.out)
  have M_14 := Lib.hid (M_9.out.keep S_11.out)
  have B_15 := Lib.hid (then_ B_10.out S_11.out)
  clear K_7 X_8 M_9 B_10
  clear S_11
  clear x0 x1 x2 x3
  have L1_16 := Lib.hid (h1)
  have V1_17 := Lib.hid (g1)
  clear h1 g1
  have K_18 := Lib.hid (K_12.out.keep (new1 w3 (.cells (#[.int .i64 s0.rev, .int .i64 s0.low, .slice P1 p1 q1, .slice Q1 u1 v1]) 25)))
  have X_19 := Lib.hid (X_13.out.below (new1 w3 (.cells (#[.int .i64 s0.rev, .int .i64 s0.low, .slice P1 p1 q1, .slice Q1 u1 v1]) 25)))
  have M_20 := Lib.hid (M_14.out.keep (new1 w3 (.cells (#[.int .i64 s0.rev, .int .i64 s0.low, .slice P1 p1 q1, .slice Q1 u1 v1]) 25)))
  have L1_21 := Lib.hid (L1_16.out.keep (new1 w3 (.cells (#[.int .i64 s0.rev, .int .i64 s0.low, .slice P1 p1 q1, .slice Q1 u1 v1]) 25)))
  have V1_22 := Lib.hid (V1_17.out.keep (new1 w3 (.cells (#[.int .i64 s0.rev, .int .i64 s0.low, .slice P1 p1 q1, .slice Q1 u1 v1]) 25)))
  have B_23 := Lib.hid (then_ B_15.out (new1 w3 (.cells (#[.int .i64 s0.rev, .int .i64 s0.low, .slice P1 p1 q1, .slice Q1 u1 v1]) 25)))
  clear K_12 X_13 M_14 L1_16 V1_17 B_15
  have R1_24 := Lib.hid (own_new w3 (#[.int .i64 s0.rev, .int .i64 s0.low, .slice P1 p1 q1, .slice Q1 u1 v1]) 25)
  obtain rfl : en1 = 0 := by have h := V1_22.out.len; simpa using h.symm
  obtain rfl : n0 = p1 := hb0.symm.trans L1_21.out.kv.len
  obtain rfl : m0 = u1 := hb1.symm.trans L1_21.out.ev.len
  have x0 := X_19.out.cell 0 _ rfl
  have x1 := X_19.out.cell 1 _ rfl
  have x2 := X_19.out.cell 2 _ rfl
  have x3 := X_19.out.cell 3 _ rfl
  have y0 := R1_24.out.cell 0 _ rfl
  have y1 := R1_24.out.cell 1 _ rfl
  have y2 := R1_24.out.cell 2 _ rfl
  have y3 := R1_24.out.cell 3 _ rfl
  go_wp2_with fail
  refine (st_same s0 A0 P1 n0 c0 q1 B0 Q1 m0 d0 v1 _ K_18.out L1_21.out (by omega) (by omega)).mono ?_; rintro e w4 ⟨rfl, hb⟩
  have S_25 := Lib.hid hb; clear hb
  have K_26 := Lib.hid (K_18.out.keep S_25.out)
  have X_27 := Lib.hid (X_19.out.below S_25.out)
  have M_28 := Lib.hid (M_20.out.keep S_25.out)
  have L1_29 := Lib.hid (L1_21.out.keep S_25.out)
  have V1_30 := Lib.hid (V1_22.out.keep S_25.out)
  have R1_31 := Lib.hid (R1_24.out.below S_25.out)
  have B_32 := Lib.hid (then_ B_23.out S_25.out)
  clear K_18 X_19 M_20 L1_21 V1_22 R1_24 B_23
  clear S_25
  clear x0 x1 x2 x3
  clear y0 y1 y2 y3
  go_wp2_with fail
  refine (live_any _).mono ?_; rintro e w5 ⟨rfl, hb⟩
  have S_33 := Lib.hid hb; clear hb
  have K_34 := Lib.hid (K_26.out.keep S_33.out)
  have X_35 := Lib.hid (X_27.out.below S_33.out)
  have M_36 := Lib.hid (M_28.out.keep S_33.out)
  have L1_37 := Lib.hid (L1_29.out.keep S_33.out)
  have V1_38 := Lib.hid (V1_30.out.keep S_33.out)
  have R1_39 := Lib.hid (R1_31.out.below S_33.out)
  have B_40 := Lib.hid (then_ B_32.out S_33.out)
  clear K_26 X_27 M_28 L1_29 V1_30 R1_31 B_32
  clear S_33
  go_wp2
  go_ret
  exact ⟨rfl, B_40.out⟩
theorem at_len (s : St) (t : Int) : (atL s t).length ≤ s.base.length + s.log.length := by
  unfold atL nowL
  have h1 := foldL_len s.log s.rev s.base
  have h2 := foldL_len s.log t s.base
  split
  · omega
  · split
    · omega
    · simp
theorem done_now (w : World) (s0 : St) (A0 : Option Addr) (n0 c0 : Nat) (B0 : Option Addr) (m0 d0 : Nat) (A1 : Option Addr) (n1 c1 : Nat) (l1 : List Mu) (a2 : Int) (k0 : StAt w s0 A0 n0 c0 B0 m0 d0) (k1 : Mus w A1 n1 c1 l1) (w2 : (Lit.int .i64 a2).wf = true) (hf : fewS s0 = true) (hm : mayB s0 = true) (hn : n1 ≤ 40) (hs : l1.all shMu = true) (he : applyE s0 l1 = 0) (hv : eventsOf s0 l1 ≠ []) (h0 : a2 = 0) :
    Calls Try.prog 5 #[s0.agg A0 n0 c0 B0 m0 d0, .slice A1 n1 c1, .int .i64 a2] w fun e w' => e = .returned (.bool true) ∧ Below w.heap.size w w' := by
  have HF := Lib.hid hf; have HM := Lib.hid hm; have HS := Lib.hid hs; have MS := Lib.hid (may_st.1 hm)
  have hb0 := k0.kv.len; have hb1 := k0.ev.len; have hb2 := MS.out.good.len; have hb3 := MS.out.len
  have HB : Hid (n0 + m0 ≤ 900000) := Lib.hid (by omega)
  have HE := Lib.hid he
  obtain ⟨HV⟩ : Nonempty (Hid (eventsOf s0 l1 ≠ [])) := ⟨Lib.hid hv⟩
  have MA : Hid (MaySt (doneS s0 l1)) := Lib.hid (done_may MS.out ⟨he, hv⟩)
  have MB := Lib.hid (may_st.2 MA.out)
  have ha2 := MA.out.good.len; have ha3 := MA.out.len
  have hr1 := MS.out.low; have hr2 := MS.out.le; have hr3 := MS.out.max; have hr4 := MA.out.max
  have AN := Lib.hid (at_now MA.out (by show s0.rev + 1 ≠ 0; omega))
  have hrev : ((doneS s0 l1).rev != s0.rev + 1) = false := by simp [doneS]
  have hlow : ((doneS s0 l1).low != s0.low) = false := by simp [doneS]
  have hep : 0 < (eventsOf s0 l1).length := List.length_pos_iff.2 hv
  have hll : (doneS s0 l1).log.length = s0.log.length + (eventsOf s0 l1).length := by simp [doneS]
  have h0a : (a2 != 0) = false := by simp [h0]
  have HI := Lib.hid (inI_of w2)
  clear hf hm hs he hv h0
  have K_0 := Lib.hid (k0.keep (new1 w (.cells (stCells s0 A0 n0 c0 B0 m0 d0) 25)))
  have X_0 := Lib.hid (own_new w (stCells s0 A0 n0 c0 B0 m0 d0) 25)
  have M_0 := Lib.hid (k1.keep (new1 w (.cells (stCells s0 A0 n0 c0 B0 m0 d0) 25)))
  have B_0 := Lib.hid (new1 w (.cells (stCells s0 A0 n0 c0 B0 m0 d0) 25))
  clear k0 k1
  go_enter Try.func5, Try.ntmps5
  have x0 := X_0.out.cell 0 _ rfl
  have x1 := X_0.out.cell 1 _ rfl
  have x2 := X_0.out.cell 2 _ rfl
  have x3 := X_0.out.cell 3 _ rfl
  go_wp2_with fail
  refine (few_st s0 A0 n0 c0 B0 m0 d0 _ K_0.out).mono ?_; rintro e w1 ⟨rfl, hb⟩
  rw [HF.out]
  have S_1 := Lib.hid hb; clear hb
  have K_2 := Lib.hid (K_0.out.keep S_1.out)
  have X_3 := Lib.hid (X_0.out.below S_1.out)
  have M_4 := Lib.hid (M_0.out.keep S_1.out)
  have B_5 := Lib.hid (then_ B_0.out S_1.out)
  clear K_0 X_0 M_0 B_0
  clear S_1
  clear x0 x1 x2 x3
  have x0 := X_3.out.cell 0 _ rfl
  have x1 := X_3.out.cell 1 _ rfl
  have x2 := X_3.out.cell 2 _ rfl
  have x3 := X_3.out.cell 3 _ rfl
  go_wp2_with fail
  refine (mvmay_any s0 A0 n0 c0 B0 m0 d0 _ K_2.out).mono ?_; rintro e w2 ⟨rfl, hb⟩
  rw [HM.out]
  have S_6 := Lib.hid hb; clear hb
  have K_7 := Lib.hid (K_2.out.keep S_6.out)
  have X_8 := Lib.hid (X_3.out.below S_6.out)
  have M_9 := Lib.hid (M_4.out.keep S_6.out)
  have B_10 := Lib.hid (then_ B_5.out S_6.out)
  clear K_2 X_3 M_4 B_5
  clear S_6
  clear x0 x1 x2 x3
  go_wp2_with fail
  refine (short_any A1 n1 c1 l1 _ M_9.out).mono ?_; rintro e w' ⟨rfl, rfl⟩
  rw [HS.out]
  have x0 := X_8.out.cell 0 _ rfl
  have x1 := X_8.out.cell 1 _ rfl
  have x2 := X_8.out.cell 2 _ rfl
  have x3 := X_8.out.cell 3 _ rfl
  go_wp2_with fail
  refine ((apply_any s0 A0 n0 c0 B0 m0 d0 A1 n1 c1 l1 _ K_7.out M_9.out MS.out).mono fun e w' h => ap_of (s' := (doneS s0 l1)) (es := (eventsOf s0 l1)) (x := 0) (done_of HE.out HV.out) h).mono ?_; rintro e w3 ⟨P1, p1, q1, Q1, u1, v1, E1, en1, ec1, rfl, h1, g1, hb⟩
  have S_11 := Lib.hid hb; clear hb
  have K_12 := Lib.hid (K_7.out.keep S_11.out)
  have X_13 := Lib.hid (X_8.out.below S_11.out)
  have M_14 := Lib.hid (M_9.out.keep S_11.out)
  have B_15 := Lib.hid (then_ B_10.out S_11.out)
  clear K_7 X_8 M_9 B_10
  clear S_11
  clear x0 x1 x2 x3
  have L1_16 := Lib.hid (h1)
  have V1_17 := Lib.hid (g1)
  clear h1 g1
  have K_18 := Lib.hid (K_12.out.keep (new1 w3 (.cells (#[.int .i64 (doneS s0 l1).rev, .int .i64 (doneS s0 l1).low, .slice P1 p1 q1, .slice Q1 u1 v1]) 25)))
  have X_19 := Lib.hid (X_13.out.below (new1 w3 (.cells (#[.int .i64 (doneS s0 l1).rev, .int .i64 (doneS s0 l1).low, .slice P1 p1 q1, .slice Q1 u1 v1]) 25)))
  have M_20 := Lib.hid (M_14.out.keep (new1 w3 (.cells (#[.int .i64 (doneS s0 l1).rev, .int .i64 (doneS s0 l1).low, .slice P1 p1 q1, .slice Q1 u1 v1]) 25)))
  have L1_21 := Lib.hid (L1_16.out.keep (new1 w3 (.cells (#[.int .i64 (doneS s0 l1).rev, .int .i64 (doneS s0 l1).low, .slice P1 p1 q1, .slice Q1 u1 v1]) 25)))
  have V1_22 := Lib.hid (V1_17.out.keep (new1 w3 (.cells (#[.int .i64 (doneS s0 l1).rev, .int .i64 (doneS s0 l1).low, .slice P1 p1 q1, .slice Q1 u1 v1]) 25)))
  have B_23 := Lib.hid (then_ B_15.out (new1 w3 (.cells (#[.int .i64 (doneS s0 l1).rev, .int .i64 (doneS s0 l1).low, .slice P1 p1 q1, .slice Q1 u1 v1]) 25)))
  clear K_12 X_13 M_14 L1_16 V1_17 B_15
  have R1_24 := Lib.hid (own_new w3 (#[.int .i64 (doneS s0 l1).rev, .int .i64 (doneS s0 l1).low, .slice P1 p1 q1, .slice Q1 u1 v1]) 25)
  have hp1 := L1_21.out.kv.len; have hp2 := L1_21.out.ev.len; have hp3 := V1_22.out.len
  have HP : Hid (p1 + u1 ≤ 900000) := Lib.hid (by omega)
  have hpe : 0 < en1 := by omega
  obtain rfl : u1 = m0 + en1 := by omega
  have hme : m0 + en1 ≤ 60 := by omega
  have hlq : (((m0 + en1 : Nat) : Int) != (m0 : Int) + (en1 : Int)) = false := by simp
  clear hp1 hp2 hp3 hll hep ha2 ha3
  have y0 := R1_24.out.cell 0 _ rfl
  have y1 := R1_24.out.cell 1 _ rfl
  have y2 := R1_24.out.cell 2 _ rfl
  have y3 := R1_24.out.cell 3 _ rfl
  go_wp2_with fail
  refine (mvmay_any (doneS s0 l1) P1 p1 q1 Q1 (m0 + en1) v1 _ L1_21.out).mono ?_; rintro e w4 ⟨rfl, hb⟩
  rw [MB.out]
  have S_25 := Lib.hid hb; clear hb
  have K_26 := Lib.hid (K_18.out.keep S_25.out)
  have X_27 := Lib.hid (X_19.out.below S_25.out)
  have M_28 := Lib.hid (M_20.out.keep S_25.out)
  have L1_29 := Lib.hid (L1_21.out.keep S_25.out)
  have V1_30 := Lib.hid (V1_22.out.keep S_25.out)
  have R1_31 := Lib.hid (R1_24.out.below S_25.out)
  have B_32 := Lib.hid (then_ B_23.out S_25.out)
  clear K_18 X_19 M_20 L1_21 V1_22 R1_24 B_23
  clear S_25
  clear y0 y1 y2 y3
  have y0 := R1_31.out.cell 0 _ rfl
  have y1 := R1_31.out.cell 1 _ rfl
  have y2 := R1_31.out.cell 2 _ rfl
  have y3 := R1_31.out.cell 3 _ rfl
  have x0 := X_27.out.cell 0 _ rfl
  have x1 := X_27.out.cell 1 _ rfl
  have x2 := X_27.out.cell 2 _ rfl
  have x3 := X_27.out.cell 3 _ rfl
  go_wp2_with fail
  refine (at_any s0 A0 n0 c0 B0 m0 d0 a2 _ K_26.out HB.out HI.out).mono ?_; rintro e w5 ⟨W1, i1, j1, rfl, h2, hb⟩
  have S_33 := Lib.hid hb; clear hb
  have K_34 := Lib.hid (K_26.out.keep S_33.out)
  have X_35 := Lib.hid (X_27.out.below S_33.out)
  have M_36 := Lib.hid (M_28.out.keep S_33.out)
  have L1_37 := Lib.hid (L1_29.out.keep S_33.out)
  have V1_38 := Lib.hid (V1_30.out.keep S_33.out)
  have R1_39 := Lib.hid (R1_31.out.below S_33.out)
  have B_40 := Lib.hid (then_ B_32.out S_33.out)
  clear K_26 X_27 M_28 L1_29 V1_30 R1_31 B_32
  clear S_33
  clear y0 y1 y2 y3
  clear x0 x1 x2 x3
  have WA_41 := Lib.hid (h2)
  clear h2
  have y0 := R1_39.out.cell 0 _ rfl
  have y1 := R1_39.out.cell 1 _ rfl
  have y2 := R1_39.out.cell 2 _ rfl
  have y3 := R1_39.out.cell 3 _ rfl
  go_wp2_with fail
  refine (at_any (doneS s0 l1) P1 p1 q1 Q1 (m0 + en1) v1 a2 _ L1_37.out HP.out HI.out).mono ?_; rintro e w6 ⟨W2, i2, j2, rfl, h3, hb⟩
  have S_42 := Lib.hid hb; clear hb
  have K_43 := Lib.hid (K_34.out.keep S_42.out)
  have X_44 := Lib.hid (X_35.out.below S_42.out)
  have M_45 := Lib.hid (M_36.out.keep S_42.out)
  have L1_46 := Lib.hid (L1_37.out.keep S_42.out)
  have V1_47 := Lib.hid (V1_38.out.keep S_42.out)
  have R1_48 := Lib.hid (R1_39.out.below S_42.out)
  have WA_49 := Lib.hid (WA_41.out.keep S_42.out)
  have B_50 := Lib.hid (then_ B_40.out S_42.out)
  clear K_34 X_35 M_36 L1_37 V1_38 R1_39 WA_41 B_40
  clear S_42
  clear y0 y1 y2 y3
  have WB_51 := Lib.hid (h3)
  clear h3
  have y0 := R1_48.out.cell 0 _ rfl
  have y1 := R1_48.out.cell 1 _ rfl
  have y2 := R1_48.out.cell 2 _ rfl
  have y3 := R1_48.out.cell 3 _ rfl
  have x0 := X_44.out.cell 0 _ rfl
  have x1 := X_44.out.cell 1 _ rfl
  have x2 := X_44.out.cell 2 _ rfl
  have x3 := X_44.out.cell 3 _ rfl
  go_wp2_with fail
  refine (at_any (doneS s0 l1) P1 p1 q1 Q1 (m0 + en1) v1 (doneS s0 l1).rev _ L1_46.out HP.out L1_46.out.rev).mono ?_; rintro e w7 ⟨W3, i3, j3, rfl, h4, hb⟩
  rw [AN.out.2]
  rw [AN.out.1] at h4
  have S_52 := Lib.hid hb; clear hb
  have K_53 := Lib.hid (K_43.out.keep S_52.out)
  have X_54 := Lib.hid (X_44.out.below S_52.out)
  have M_55 := Lib.hid (M_45.out.keep S_52.out)
  have L1_56 := Lib.hid (L1_46.out.keep S_52.out)
  have V1_57 := Lib.hid (V1_47.out.keep S_52.out)
  have R1_58 := Lib.hid (R1_48.out.below S_52.out)
  have WA_59 := Lib.hid (WA_49.out.keep S_52.out)
  have WB_60 := Lib.hid (WB_51.out.keep S_52.out)
  have B_61 := Lib.hid (then_ B_50.out S_52.out)
  clear K_43 X_44 M_45 L1_46 V1_47 R1_48 WA_49 WB_51 B_50
  clear S_52
  clear y0 y1 y2 y3
  clear x0 x1 x2 x3
  have WC_62 := Lib.hid (h4)
  clear h4
  have y0 := R1_58.out.cell 0 _ rfl
  have y1 := R1_58.out.cell 1 _ rfl
  have y2 := R1_58.out.cell 2 _ rfl
  have y3 := R1_58.out.cell 3 _ rfl
  go_wp2_with fail
  refine (now_any (doneS s0 l1) P1 p1 q1 Q1 (m0 + en1) v1 _ L1_56.out HP.out).mono ?_; rintro e w8 ⟨W4, i4, j4, rfl, h5, hb⟩
  have S_63 := Lib.hid hb; clear hb
  have K_64 := Lib.hid (K_53.out.keep S_63.out)
  have X_65 := Lib.hid (X_54.out.below S_63.out)
  have M_66 := Lib.hid (M_55.out.keep S_63.out)
  have L1_67 := Lib.hid (L1_56.out.keep S_63.out)
  have V1_68 := Lib.hid (V1_57.out.keep S_63.out)
  have R1_69 := Lib.hid (R1_58.out.below S_63.out)
  have WA_70 := Lib.hid (WA_59.out.keep S_63.out)
  have WB_71 := Lib.hid (WB_60.out.keep S_63.out)
  have WC_72 := Lib.hid (WC_62.out.keep S_63.out)
  have B_73 := Lib.hid (then_ B_61.out S_63.out)
  clear K_53 X_54 M_55 L1_56 V1_57 R1_58 WA_59 WB_60 WC_62 B_61
  clear S_63
  clear y0 y1 y2 y3
  have WD_74 := Lib.hid (h5)
  clear h5
  obtain rfl : i3 = i4 := WC_72.out.len.symm.trans WD_74.out.len
  have hi3 : i3 ≤ 1000000 := by have h1 := WC_72.out.len; have h2 := MA.out.now.len; omega
  go_wp2_with fail
  refine (kvs_same W3 W4 i3 j3 j4 (nowL (doneS s0 l1)) _ WC_72.out WD_74.out (by omega)).mono ?_; rintro e w9 ⟨rfl, hb⟩
  have S_75 := Lib.hid hb; clear hb
  have K_76 := Lib.hid (K_64.out.keep S_75.out)
  have X_77 := Lib.hid (X_65.out.below S_75.out)
  have M_78 := Lib.hid (M_66.out.keep S_75.out)
  have L1_79 := Lib.hid (L1_67.out.keep S_75.out)
  have V1_80 := Lib.hid (V1_68.out.keep S_75.out)
  have R1_81 := Lib.hid (R1_69.out.below S_75.out)
  have WA_82 := Lib.hid (WA_70.out.keep S_75.out)
  have WB_83 := Lib.hid (WB_71.out.keep S_75.out)
  have WC_84 := Lib.hid (WC_72.out.keep S_75.out)
  have WD_85 := Lib.hid (WD_74.out.keep S_75.out)
  have B_86 := Lib.hid (then_ B_73.out S_75.out)
  clear K_64 X_65 M_66 L1_67 V1_68 R1_69 WA_70 WB_71 WC_72 WD_74 B_73
  clear S_75
  go_wp2_with fail
  refine (live_any _).mono ?_; rintro e w10 ⟨rfl, hb⟩
  have S_87 := Lib.hid hb; clear hb
  have K_88 := Lib.hid (K_76.out.keep S_87.out)
  have X_89 := Lib.hid (X_77.out.below S_87.out)
  have M_90 := Lib.hid (M_78.out.keep S_87.out)
  have L1_91 := Lib.hid (L1_79.out.keep S_87.out)
  have V1_92 := Lib.hid (V1_80.out.keep S_87.out)
  have R1_93 := Lib.hid (R1_81.out.below S_87.out)
  have WA_94 := Lib.hid (WA_82.out.keep S_87.out)
  have WB_95 := Lib.hid (WB_83.out.keep S_87.out)
  have WC_96 := Lib.hid (WC_84.out.keep S_87.out)
  have WD_97 := Lib.hid (WD_85.out.keep S_87.out)
  have B_98 := Lib.hid (then_ B_86.out S_87.out)
  clear K_76 X_77 M_78 L1_79 V1_80 R1_81 WA_82 WB_83 WC_84 WD_85 B_86
  clear S_87
  go_wp2
  go_ret
  exact ⟨rfl, B_98.out⟩
theorem done_past (w : World) (s0 : St) (A0 : Option Addr) (n0 c0 : Nat) (B0 : Option Addr) (m0 d0 : Nat) (A1 : Option Addr) (n1 c1 : Nat) (l1 : List Mu) (a2 : Int) (k0 : StAt w s0 A0 n0 c0 B0 m0 d0) (k1 : Mus w A1 n1 c1 l1) (w2 : (Lit.int .i64 a2).wf = true) (hf : fewS s0 = true) (hm : mayB s0 = true) (hn : n1 ≤ 40) (hs : l1.all shMu = true) (he : applyE s0 l1 = 0) (hv : eventsOf s0 l1 ≠ []) (h0 : a2 ≠ 0) (h1 : a2 ≤ s0.rev) :
    Calls Try.prog 5 #[s0.agg A0 n0 c0 B0 m0 d0, .slice A1 n1 c1, .int .i64 a2] w fun e w' => e = .returned (.bool true) ∧ Below w.heap.size w w' := by
  have HF := Lib.hid hf; have HM := Lib.hid hm; have HS := Lib.hid hs; have MS := Lib.hid (may_st.1 hm)
  have hb0 := k0.kv.len; have hb1 := k0.ev.len; have hb2 := MS.out.good.len; have hb3 := MS.out.len
  have HB : Hid (n0 + m0 ≤ 900000) := Lib.hid (by omega)
  have HE := Lib.hid he
  obtain ⟨HV⟩ : Nonempty (Hid (eventsOf s0 l1 ≠ [])) := ⟨Lib.hid hv⟩
  have MA : Hid (MaySt (doneS s0 l1)) := Lib.hid (done_may MS.out ⟨he, hv⟩)
  have MB := Lib.hid (may_st.2 MA.out)
  have ha2 := MA.out.good.len; have ha3 := MA.out.len
  have hr1 := MS.out.low; have hr2 := MS.out.le; have hr3 := MS.out.max; have hr4 := MA.out.max
  have AN := Lib.hid (at_now MA.out (by show s0.rev + 1 ≠ 0; omega))
  have hrev : ((doneS s0 l1).rev != s0.rev + 1) = false := by simp [doneS]
  have hlow : ((doneS s0 l1).low != s0.low) = false := by simp [doneS]
  have hep : 0 < (eventsOf s0 l1).length := List.length_pos_iff.2 hv
  have hll : (doneS s0 l1).log.length = s0.log.length + (eventsOf s0 l1).length := by simp [doneS]
  have h0a : (a2 != 0) = true := by simp [h0]
  have DK := Lib.hid (done_keeps MS.out ⟨he, hv⟩ h0 h1)
  have h1a : decide (a2 ≤ s0.rev) = true := decide_eq_true h1
  have HI := Lib.hid (inI_of w2)
  clear hf hm hs he hv h0 h1
  have K_0 := Lib.hid (k0.keep (new1 w (.cells (stCells s0 A0 n0 c0 B0 m0 d0) 25)))
  have X_0 := Lib.hid (own_new w (stCells s0 A0 n0 c0 B0 m0 d0) 25)
  have M_0 := Lib.hid (k1.keep (new1 w (.cells (stCells s0 A0 n0 c0 B0 m0 d0) 25)))
  have B_0 := Lib.hid (new1 w (.cells (stCells s0 A0 n0 c0 B0 m0 d0) 25))
  clear k0 k1
  go_enter Try.func5, Try.ntmps5
  have x0 := X_0.out.cell 0 _ rfl
  have x1 := X_0.out.cell 1 _ rfl
  have x2 := X_0.out.cell 2 _ rfl
  have x3 := X_0.out.cell 3 _ rfl
  go_wp2_with fail
  refine (few_st s0 A0 n0 c0 B0 m0 d0 _ K_0.out).mono ?_; rintro e w1 ⟨rfl, hb⟩
  rw [HF.out]
  have S_1 := Lib.hid hb; clear hb
  have K_2 := Lib.hid (K_0.out.keep S_1.out)
  have X_3 := Lib.hid (X_0.out.below S_1.out)
  have M_4 := Lib.hid (M_0.out.keep S_1.out)
  have B_5 := Lib.hid (then_ B_0.out S_1.out)
  clear K_0 X_0 M_0 B_0
  clear S_1
  clear x0 x1 x2 x3
  have x0 := X_3.out.cell 0 _ rfl
  have x1 := X_3.out.cell 1 _ rfl
  have x2 := X_3.out.cell 2 _ rfl
  have x3 := X_3.out.cell 3 _ rfl
  go_wp2_with fail
  refine (mvmay_any s0 A0 n0 c0 B0 m0 d0 _ K_2.out).mono ?_; rintro e w2 ⟨rfl, hb⟩
  rw [HM.out]
  have S_6 := Lib.hid hb; clear hb
  have K_7 := Lib.hid (K_2.out.keep S_6.out)
  have X_8 := Lib.hid (X_3.out.below S_6.out)
  have M_9 := Lib.hid (M_4.out.keep S_6.out)
  have B_10 := Lib.hid (then_ B_5.out S_6.out)
  clear K_2 X_3 M_4 B_5
  clear S_6
  clear x0 x1 x2 x3
  go_wp2_with fail
  refine (short_any A1 n1 c1 l1 _ M_9.out).mono ?_; rintro e w' ⟨rfl, rfl⟩
  rw [HS.out]
  have x0 := X_8.out.cell 0 _ rfl
  have x1 := X_8.out.cell 1 _ rfl
  have x2 := X_8.out.cell 2 _ rfl
  have x3 := X_8.out.cell 3 _ rfl
  go_wp2_with fail
  refine ((apply_any s0 A0 n0 c0 B0 m0 d0 A1 n1 c1 l1 _ K_7.out M_9.out MS.out).mono fun e w' h => ap_of (s' := (doneS s0 l1)) (es := (eventsOf s0 l1)) (x := 0) (done_of HE.out HV.out) h).mono ?_; rintro e w3 ⟨P1, p1, q1, Q1, u1, v1, E1, en1, ec1, rfl, h1, g1, hb⟩
  have S_11 := Lib.hid hb; clear hb
  have K_12 := Lib.hid (K_7.out.keep S_11.out)
  have X_13 := Lib.hid (X_8.out.below S_11.out)
  have M_14 := Lib.hid (M_9.out.keep S_11.out)
  have B_15 := Lib.hid (then_ B_10.out S_11.out)
  clear K_7 X_8 M_9 B_10
  clear S_11
  clear x0 x1 x2 x3
  have L1_16 := Lib.hid (h1)
  have V1_17 := Lib.hid (g1)
  clear h1 g1
  have K_18 := Lib.hid (K_12.out.keep (new1 w3 (.cells (#[.int .i64 (doneS s0 l1).rev, .int .i64 (doneS s0 l1).low, .slice P1 p1 q1, .slice Q1 u1 v1]) 25)))
  have X_19 := Lib.hid (X_13.out.below (new1 w3 (.cells (#[.int .i64 (doneS s0 l1).rev, .int .i64 (doneS s0 l1).low, .slice P1 p1 q1, .slice Q1 u1 v1]) 25)))
  have M_20 := Lib.hid (M_14.out.keep (new1 w3 (.cells (#[.int .i64 (doneS s0 l1).rev, .int .i64 (doneS s0 l1).low, .slice P1 p1 q1, .slice Q1 u1 v1]) 25)))
  have L1_21 := Lib.hid (L1_16.out.keep (new1 w3 (.cells (#[.int .i64 (doneS s0 l1).rev, .int .i64 (doneS s0 l1).low, .slice P1 p1 q1, .slice Q1 u1 v1]) 25)))
  have V1_22 := Lib.hid (V1_17.out.keep (new1 w3 (.cells (#[.int .i64 (doneS s0 l1).rev, .int .i64 (doneS s0 l1).low, .slice P1 p1 q1, .slice Q1 u1 v1]) 25)))
  have B_23 := Lib.hid (then_ B_15.out (new1 w3 (.cells (#[.int .i64 (doneS s0 l1).rev, .int .i64 (doneS s0 l1).low, .slice P1 p1 q1, .slice Q1 u1 v1]) 25)))
  clear K_12 X_13 M_14 L1_16 V1_17 B_15
  have R1_24 := Lib.hid (own_new w3 (#[.int .i64 (doneS s0 l1).rev, .int .i64 (doneS s0 l1).low, .slice P1 p1 q1, .slice Q1 u1 v1]) 25)
  have hp1 := L1_21.out.kv.len; have hp2 := L1_21.out.ev.len; have hp3 := V1_22.out.len
  have HP : Hid (p1 + u1 ≤ 900000) := Lib.hid (by omega)
  have hpe : 0 < en1 := by omega
  obtain rfl : u1 = m0 + en1 := by omega
  have hme : m0 + en1 ≤ 60 := by omega
  have hlq : (((m0 + en1 : Nat) : Int) != (m0 : Int) + (en1 : Int)) = false := by simp
  clear hp1 hp2 hp3 hll hep ha2 ha3
  have y0 := R1_24.out.cell 0 _ rfl
  have y1 := R1_24.out.cell 1 _ rfl
  have y2 := R1_24.out.cell 2 _ rfl
  have y3 := R1_24.out.cell 3 _ rfl
  go_wp2_with fail
  refine (mvmay_any (doneS s0 l1) P1 p1 q1 Q1 (m0 + en1) v1 _ L1_21.out).mono ?_; rintro e w4 ⟨rfl, hb⟩
  rw [MB.out]
  have S_25 := Lib.hid hb; clear hb
  have K_26 := Lib.hid (K_18.out.keep S_25.out)
  have X_27 := Lib.hid (X_19.out.below S_25.out)
  have M_28 := Lib.hid (M_20.out.keep S_25.out)
  have L1_29 := Lib.hid (L1_21.out.keep S_25.out)
  have V1_30 := Lib.hid (V1_22.out.keep S_25.out)
  have R1_31 := Lib.hid (R1_24.out.below S_25.out)
  have B_32 := Lib.hid (then_ B_23.out S_25.out)
  clear K_18 X_19 M_20 L1_21 V1_22 R1_24 B_23
  clear S_25
  clear y0 y1 y2 y3
  have y0 := R1_31.out.cell 0 _ rfl
  have y1 := R1_31.out.cell 1 _ rfl
  have y2 := R1_31.out.cell 2 _ rfl
  have y3 := R1_31.out.cell 3 _ rfl
  have x0 := X_27.out.cell 0 _ rfl
  have x1 := X_27.out.cell 1 _ rfl
  have x2 := X_27.out.cell 2 _ rfl
  have x3 := X_27.out.cell 3 _ rfl
  go_wp2_with fail
  refine (at_any s0 A0 n0 c0 B0 m0 d0 a2 _ K_26.out HB.out HI.out).mono ?_; rintro e w5 ⟨W1, i1, j1, rfl, h2, hb⟩
  have S_33 := Lib.hid hb; clear hb
  have K_34 := Lib.hid (K_26.out.keep S_33.out)
  have X_35 := Lib.hid (X_27.out.below S_33.out)
  have M_36 := Lib.hid (M_28.out.keep S_33.out)
  have L1_37 := Lib.hid (L1_29.out.keep S_33.out)
  have V1_38 := Lib.hid (V1_30.out.keep S_33.out)
  have R1_39 := Lib.hid (R1_31.out.below S_33.out)
  have B_40 := Lib.hid (then_ B_32.out S_33.out)
  clear K_26 X_27 M_28 L1_29 V1_30 R1_31 B_32
  clear S_33
  clear y0 y1 y2 y3
  clear x0 x1 x2 x3
  have WA_41 := Lib.hid (h2)
  clear h2
  have y0 := R1_39.out.cell 0 _ rfl
  have y1 := R1_39.out.cell 1 _ rfl
  have y2 := R1_39.out.cell 2 _ rfl
  have y3 := R1_39.out.cell 3 _ rfl
  go_wp2_with fail
  refine (at_any (doneS s0 l1) P1 p1 q1 Q1 (m0 + en1) v1 a2 _ L1_37.out HP.out HI.out).mono ?_; rintro e w6 ⟨W2, i2, j2, rfl, h3, hb⟩
  have S_42 := Lib.hid hb; clear hb
  have K_43 := Lib.hid (K_34.out.keep S_42.out)
  have X_44 := Lib.hid (X_35.out.below S_42.out)
  have M_45 := Lib.hid (M_36.out.keep S_42.out)
  have L1_46 := Lib.hid (L1_37.out.keep S_42.out)
  have V1_47 := Lib.hid (V1_38.out.keep S_42.out)
  have R1_48 := Lib.hid (R1_39.out.below S_42.out)
  have WA_49 := Lib.hid (WA_41.out.keep S_42.out)
  have B_50 := Lib.hid (then_ B_40.out S_42.out)
  clear K_34 X_35 M_36 L1_37 V1_38 R1_39 WA_41 B_40
  clear S_42
  clear y0 y1 y2 y3
  have WB_51 := Lib.hid (h3)
  clear h3
  have y0 := R1_48.out.cell 0 _ rfl
  have y1 := R1_48.out.cell 1 _ rfl
  have y2 := R1_48.out.cell 2 _ rfl
  have y3 := R1_48.out.cell 3 _ rfl
  have x0 := X_44.out.cell 0 _ rfl
  have x1 := X_44.out.cell 1 _ rfl
  have x2 := X_44.out.cell 2 _ rfl
  have x3 := X_44.out.cell 3 _ rfl
  obtain rfl : i1 = i2 := by have h1 := WA_49.out.len; have h2 := WB_51.out.len; rw [DK.out.1] at h2; exact h1.symm.trans h2
  have QB : Hid (KVs w6 W2 i1 j2 (atL s0 a2)) := Lib.hid (by have h := WB_51.out; rw [DK.out.1] at h; exact h)
  have hde : (atE s0 a2 != atE (doneS s0 l1) a2) = false := by rw [DK.out.2]; simp
  have hi1 : i1 ≤ 1000000 := by have h1 := WA_49.out.len; have h2 := at_len s0 a2; omega
  go_wp2_with fail
  refine (kvs_same W1 W2 i1 j1 j2 (atL s0 a2) _ WA_49.out QB.out (by omega)).mono ?_; rintro e w7 ⟨rfl, hb⟩
  have S_52 := Lib.hid hb; clear hb
  have K_53 := Lib.hid (K_43.out.keep S_52.out)
  have X_54 := Lib.hid (X_44.out.below S_52.out)
  have M_55 := Lib.hid (M_45.out.keep S_52.out)
  have L1_56 := Lib.hid (L1_46.out.keep S_52.out)
  have V1_57 := Lib.hid (V1_47.out.keep S_52.out)
  have R1_58 := Lib.hid (R1_48.out.below S_52.out)
  have WA_59 := Lib.hid (WA_49.out.keep S_52.out)
  have WB_60 := Lib.hid (WB_51.out.keep S_52.out)
  have B_61 := Lib.hid (then_ B_50.out S_52.out)
  clear K_43 X_44 M_45 L1_46 V1_47 R1_48 WA_49 WB_51 B_50
  clear S_52
  clear y0 y1 y2 y3
  clear x0 x1 x2 x3
  have y0 := R1_58.out.cell 0 _ rfl
  have y1 := R1_58.out.cell 1 _ rfl
  have y2 := R1_58.out.cell 2 _ rfl
  have y3 := R1_58.out.cell 3 _ rfl
  go_wp2_with fail
  refine (at_any (doneS s0 l1) P1 p1 q1 Q1 (m0 + en1) v1 (doneS s0 l1).rev _ L1_56.out HP.out L1_56.out.rev).mono ?_; rintro e w8 ⟨W3, i3, j3, rfl, h4, hb⟩
  rw [AN.out.2]
  rw [AN.out.1] at h4
  have S_62 := Lib.hid hb; clear hb
  have K_63 := Lib.hid (K_53.out.keep S_62.out)
  have X_64 := Lib.hid (X_54.out.below S_62.out)
  have M_65 := Lib.hid (M_55.out.keep S_62.out)
  have L1_66 := Lib.hid (L1_56.out.keep S_62.out)
  have V1_67 := Lib.hid (V1_57.out.keep S_62.out)
  have R1_68 := Lib.hid (R1_58.out.below S_62.out)
  have WA_69 := Lib.hid (WA_59.out.keep S_62.out)
  have WB_70 := Lib.hid (WB_60.out.keep S_62.out)
  have B_71 := Lib.hid (then_ B_61.out S_62.out)
  clear K_53 X_54 M_55 L1_56 V1_57 R1_58 WA_59 WB_60 B_61
  clear S_62
  clear y0 y1 y2 y3
  have WC_72 := Lib.hid (h4)
  clear h4
  have y0 := R1_68.out.cell 0 _ rfl
  have y1 := R1_68.out.cell 1 _ rfl
  have y2 := R1_68.out.cell 2 _ rfl
  have y3 := R1_68.out.cell 3 _ rfl
  go_wp2_with fail
  refine (now_any (doneS s0 l1) P1 p1 q1 Q1 (m0 + en1) v1 _ L1_66.out HP.out).mono ?_; rintro e w9 ⟨W4, i4, j4, rfl, h5, hb⟩
  have S_73 := Lib.hid hb; clear hb
  have K_74 := Lib.hid (K_63.out.keep S_73.out)
  have X_75 := Lib.hid (X_64.out.below S_73.out)
  have M_76 := Lib.hid (M_65.out.keep S_73.out)
  have L1_77 := Lib.hid (L1_66.out.keep S_73.out)
  have V1_78 := Lib.hid (V1_67.out.keep S_73.out)
  have R1_79 := Lib.hid (R1_68.out.below S_73.out)
  have WA_80 := Lib.hid (WA_69.out.keep S_73.out)
  have WB_81 := Lib.hid (WB_70.out.keep S_73.out)
  have WC_82 := Lib.hid (WC_72.out.keep S_73.out)
  have B_83 := Lib.hid (then_ B_71.out S_73.out)
  clear K_63 X_64 M_65 L1_66 V1_67 R1_68 WA_69 WB_70 WC_72 B_71
  clear S_73
  clear y0 y1 y2 y3
  have WD_84 := Lib.hid (h5)
  clear h5
  obtain rfl : i3 = i4 := WC_82.out.len.symm.trans WD_84.out.len
  have hi3 : i3 ≤ 1000000 := by have h1 := WC_82.out.len; have h2 := MA.out.now.len; omega
  go_wp2_with fail
  refine (kvs_same W3 W4 i3 j3 j4 (nowL (doneS s0 l1)) _ WC_82.out WD_84.out (by omega)).mono ?_; rintro e w10 ⟨rfl, hb⟩
  have S_85 := Lib.hid hb; clear hb
  have K_86 := Lib.hid (K_74.out.keep S_85.out)
  have X_87 := Lib.hid (X_75.out.below S_85.out)
  have M_88 := Lib.hid (M_76.out.keep S_85.out)
  have L1_89 := Lib.hid (L1_77.out.keep S_85.out)
  have V1_90 := Lib.hid (V1_78.out.keep S_85.out)
  have R1_91 := Lib.hid (R1_79.out.below S_85.out)
  have WA_92 := Lib.hid (WA_80.out.keep S_85.out)
  have WB_93 := Lib.hid (WB_81.out.keep S_85.out)
  have WC_94 := Lib.hid (WC_82.out.keep S_85.out)
  have WD_95 := Lib.hid (WD_84.out.keep S_85.out)
  have B_96 := Lib.hid (then_ B_83.out S_85.out)
  clear K_74 X_75 M_76 L1_77 V1_78 R1_79 WA_80 WB_81 WC_82 WD_84 B_83
  clear S_85
  go_wp2_with fail
  refine (live_any _).mono ?_; rintro e w11 ⟨rfl, hb⟩
  have S_97 := Lib.hid hb; clear hb
  have K_98 := Lib.hid (K_86.out.keep S_97.out)
  have X_99 := Lib.hid (X_87.out.below S_97.out)
  have M_100 := Lib.hid (M_88.out.keep S_97.out)
  have L1_101 := Lib.hid (L1_89.out.keep S_97.out)
  have V1_102 := Lib.hid (V1_90.out.keep S_97.out)
  have R1_103 := Lib.hid (R1_91.out.below S_97.out)
  have WA_104 := Lib.hid (WA_92.out.keep S_97.out)
  have WB_105 := Lib.hid (WB_93.out.keep S_97.out)
  have WC_106 := Lib.hid (WC_94.out.keep S_97.out)
  have WD_107 := Lib.hid (WD_95.out.keep S_97.out)
  have B_108 := Lib.hid (then_ B_96.out S_97.out)
  clear K_86 X_87 M_88 L1_89 V1_90 R1_91 WA_92 WB_93 WC_94 WD_95 B_96
  clear S_97
  go_wp2
  go_ret
  exact ⟨rfl, B_108.out⟩
theorem done_later (w : World) (s0 : St) (A0 : Option Addr) (n0 c0 : Nat) (B0 : Option Addr) (m0 d0 : Nat) (A1 : Option Addr) (n1 c1 : Nat) (l1 : List Mu) (a2 : Int) (k0 : StAt w s0 A0 n0 c0 B0 m0 d0) (k1 : Mus w A1 n1 c1 l1) (w2 : (Lit.int .i64 a2).wf = true) (hf : fewS s0 = true) (hm : mayB s0 = true) (hn : n1 ≤ 40) (hs : l1.all shMu = true) (he : applyE s0 l1 = 0) (hv : eventsOf s0 l1 ≠ []) (h0 : a2 ≠ 0) (h1 : s0.rev < a2) :
    Calls Try.prog 5 #[s0.agg A0 n0 c0 B0 m0 d0, .slice A1 n1 c1, .int .i64 a2] w fun e w' => e = .returned (.bool true) ∧ Below w.heap.size w w' := by
  have HF := Lib.hid hf; have HM := Lib.hid hm; have HS := Lib.hid hs; have MS := Lib.hid (may_st.1 hm)
  have hb0 := k0.kv.len; have hb1 := k0.ev.len; have hb2 := MS.out.good.len; have hb3 := MS.out.len
  have HB : Hid (n0 + m0 ≤ 900000) := Lib.hid (by omega)
  have HE := Lib.hid he
  obtain ⟨HV⟩ : Nonempty (Hid (eventsOf s0 l1 ≠ [])) := ⟨Lib.hid hv⟩
  have MA : Hid (MaySt (doneS s0 l1)) := Lib.hid (done_may MS.out ⟨he, hv⟩)
  have MB := Lib.hid (may_st.2 MA.out)
  have ha2 := MA.out.good.len; have ha3 := MA.out.len
  have hr1 := MS.out.low; have hr2 := MS.out.le; have hr3 := MS.out.max; have hr4 := MA.out.max
  have AN := Lib.hid (at_now MA.out (by show s0.rev + 1 ≠ 0; omega))
  have hrev : ((doneS s0 l1).rev != s0.rev + 1) = false := by simp [doneS]
  have hlow : ((doneS s0 l1).low != s0.low) = false := by simp [doneS]
  have hep : 0 < (eventsOf s0 l1).length := List.length_pos_iff.2 hv
  have hll : (doneS s0 l1).log.length = s0.log.length + (eventsOf s0 l1).length := by simp [doneS]
  have h0a : (a2 != 0) = true := by simp [h0]
  have h1a : decide (a2 ≤ s0.rev) = false := decide_eq_false (by omega)
  have HI := Lib.hid (inI_of w2)
  clear hf hm hs he hv h0 h1
  have K_0 := Lib.hid (k0.keep (new1 w (.cells (stCells s0 A0 n0 c0 B0 m0 d0) 25)))
  have X_0 := Lib.hid (own_new w (stCells s0 A0 n0 c0 B0 m0 d0) 25)
  have M_0 := Lib.hid (k1.keep (new1 w (.cells (stCells s0 A0 n0 c0 B0 m0 d0) 25)))
  have B_0 := Lib.hid (new1 w (.cells (stCells s0 A0 n0 c0 B0 m0 d0) 25))
  clear k0 k1
  go_enter Try.func5, Try.ntmps5
  have x0 := X_0.out.cell 0 _ rfl
  have x1 := X_0.out.cell 1 _ rfl
  have x2 := X_0.out.cell 2 _ rfl
  have x3 := X_0.out.cell 3 _ rfl
  go_wp2_with fail
  refine (few_st s0 A0 n0 c0 B0 m0 d0 _ K_0.out).mono ?_; rintro e w1 ⟨rfl, hb⟩
  rw [HF.out]
  have S_1 := Lib.hid hb; clear hb
  have K_2 := Lib.hid (K_0.out.keep S_1.out)
  have X_3 := Lib.hid (X_0.out.below S_1.out)
  have M_4 := Lib.hid (M_0.out.keep S_1.out)
  have B_5 := Lib.hid (then_ B_0.out S_1.out)
  clear K_0 X_0 M_0 B_0
  clear S_1
  clear x0 x1 x2 x3
  have x0 := X_3.out.cell 0 _ rfl
  have x1 := X_3.out.cell 1 _ rfl
  have x2 := X_3.out.cell 2 _ rfl
  have x3 := X_3.out.cell 3 _ rfl
  go_wp2_with fail
  refine (mvmay_any s0 A0 n0 c0 B0 m0 d0 _ K_2.out).mono ?_; rintro e w2 ⟨rfl, hb⟩
  rw [HM.out]
  have S_6 := Lib.hid hb; clear hb
  have K_7 := Lib.hid (K_2.out.keep S_6.out)
  have X_8 := Lib.hid (X_3.out.below S_6.out)
  have M_9 := Lib.hid (M_4.out.keep S_6.out)
  have B_10 := Lib.hid (then_ B_5.out S_6.out)
  clear K_2 X_3 M_4 B_5
  clear S_6
  clear x0 x1 x2 x3
  go_wp2_with fail
  refine (short_any A1 n1 c1 l1 _ M_9.out).mono ?_; rintro e w' ⟨rfl, rfl⟩
  rw [HS.out]
  have x0 := X_8.out.cell 0 _ rfl
  have x1 := X_8.out.cell 1 _ rfl
  have x2 := X_8.out.cell 2 _ rfl
  have x3 := X_8.out.cell 3 _ rfl
  go_wp2_with fail
  refine ((apply_any s0 A0 n0 c0 B0 m0 d0 A1 n1 c1 l1 _ K_7.out M_9.out MS.out).mono fun e w' h => ap_of (s' := (doneS s0 l1)) (es := (eventsOf s0 l1)) (x := 0) (done_of HE.out HV.out) h).mono ?_; rintro e w3 ⟨P1, p1, q1, Q1, u1, v1, E1, en1, ec1, rfl, h1, g1, hb⟩
  have S_11 := Lib.hid hb; clear hb
  have K_12 := Lib.hid (K_7.out.keep S_11.out)
  have X_13 := Lib.hid (X_8.out.below S_11.out)
  have M_14 := Lib.hid (M_9.out.keep S_11.out)
  have B_15 := Lib.hid (then_ B_10.out S_11.out)
  clear K_7 X_8 M_9 B_10
  clear S_11
  clear x0 x1 x2 x3
  have L1_16 := Lib.hid (h1)
  have V1_17 := Lib.hid (g1)
  clear h1 g1
  have K_18 := Lib.hid (K_12.out.keep (new1 w3 (.cells (#[.int .i64 (doneS s0 l1).rev, .int .i64 (doneS s0 l1).low, .slice P1 p1 q1, .slice Q1 u1 v1]) 25)))
  have X_19 := Lib.hid (X_13.out.below (new1 w3 (.cells (#[.int .i64 (doneS s0 l1).rev, .int .i64 (doneS s0 l1).low, .slice P1 p1 q1, .slice Q1 u1 v1]) 25)))
  have M_20 := Lib.hid (M_14.out.keep (new1 w3 (.cells (#[.int .i64 (doneS s0 l1).rev, .int .i64 (doneS s0 l1).low, .slice P1 p1 q1, .slice Q1 u1 v1]) 25)))
  have L1_21 := Lib.hid (L1_16.out.keep (new1 w3 (.cells (#[.int .i64 (doneS s0 l1).rev, .int .i64 (doneS s0 l1).low, .slice P1 p1 q1, .slice Q1 u1 v1]) 25)))
  have V1_22 := Lib.hid (V1_17.out.keep (new1 w3 (.cells (#[.int .i64 (doneS s0 l1).rev, .int .i64 (doneS s0 l1).low, .slice P1 p1 q1, .slice Q1 u1 v1]) 25)))
  have B_23 := Lib.hid (then_ B_15.out (new1 w3 (.cells (#[.int .i64 (doneS s0 l1).rev, .int .i64 (doneS s0 l1).low, .slice P1 p1 q1, .slice Q1 u1 v1]) 25)))
  clear K_12 X_13 M_14 L1_16 V1_17 B_15
  have R1_24 := Lib.hid (own_new w3 (#[.int .i64 (doneS s0 l1).rev, .int .i64 (doneS s0 l1).low, .slice P1 p1 q1, .slice Q1 u1 v1]) 25)
  have hp1 := L1_21.out.kv.len; have hp2 := L1_21.out.ev.len; have hp3 := V1_22.out.len
  have HP : Hid (p1 + u1 ≤ 900000) := Lib.hid (by omega)
  have hpe : 0 < en1 := by omega
  obtain rfl : u1 = m0 + en1 := by omega
  have hme : m0 + en1 ≤ 60 := by omega
  have hlq : (((m0 + en1 : Nat) : Int) != (m0 : Int) + (en1 : Int)) = false := by simp
  clear hp1 hp2 hp3 hll hep ha2 ha3
  have y0 := R1_24.out.cell 0 _ rfl
  have y1 := R1_24.out.cell 1 _ rfl
  have y2 := R1_24.out.cell 2 _ rfl
  have y3 := R1_24.out.cell 3 _ rfl
  go_wp2_with fail
  refine (mvmay_any (doneS s0 l1) P1 p1 q1 Q1 (m0 + en1) v1 _ L1_21.out).mono ?_; rintro e w4 ⟨rfl, hb⟩
  rw [MB.out]
  have S_25 := Lib.hid hb; clear hb
  have K_26 := Lib.hid (K_18.out.keep S_25.out)
  have X_27 := Lib.hid (X_19.out.below S_25.out)
  have M_28 := Lib.hid (M_20.out.keep S_25.out)
  have L1_29 := Lib.hid (L1_21.out.keep S_25.out)
  have V1_30 := Lib.hid (V1_22.out.keep S_25.out)
  have R1_31 := Lib.hid (R1_24.out.below S_25.out)
  have B_32 := Lib.hid (then_ B_23.out S_25.out)
  clear K_18 X_19 M_20 L1_21 V1_22 R1_24 B_23
  clear S_25
  clear y0 y1 y2 y3
  have y0 := R1_31.out.cell 0 _ rfl
  have y1 := R1_31.out.cell 1 _ rfl
  have y2 := R1_31.out.cell 2 _ rfl
  have y3 := R1_31.out.cell 3 _ rfl
  have x0 := X_27.out.cell 0 _ rfl
  have x1 := X_27.out.cell 1 _ rfl
  have x2 := X_27.out.cell 2 _ rfl
  have x3 := X_27.out.cell 3 _ rfl
  go_wp2_with fail
  refine (at_any s0 A0 n0 c0 B0 m0 d0 a2 _ K_26.out HB.out HI.out).mono ?_; rintro e w5 ⟨W1, i1, j1, rfl, h2, hb⟩
  have S_33 := Lib.hid hb; clear hb
  have K_34 := Lib.hid (K_26.out.keep S_33.out)
  have X_35 := Lib.hid (X_27.out.below S_33.out)
  have M_36 := Lib.hid (M_28.out.keep S_33.out)
  have L1_37 := Lib.hid (L1_29.out.keep S_33.out)
  have V1_38 := Lib.hid (V1_30.out.keep S_33.out)
  have R1_39 := Lib.hid (R1_31.out.below S_33.out)
  have B_40 := Lib.hid (then_ B_32.out S_33.out)
  clear K_26 X_27 M_28 L1_29 V1_30 R1_31 B_32
  clear S_33
  clear y0 y1 y2 y3
  clear x0 x1 x2 x3
  have WA_41 := Lib.hid (h2)
  clear h2
  have y0 := R1_39.out.cell 0 _ rfl
  have y1 := R1_39.out.cell 1 _ rfl
  have y2 := R1_39.out.cell 2 _ rfl
  have y3 := R1_39.out.cell 3 _ rfl
  go_wp2_with fail
  refine (at_any (doneS s0 l1) P1 p1 q1 Q1 (m0 + en1) v1 a2 _ L1_37.out HP.out HI.out).mono ?_; rintro e w6 ⟨W2, i2, j2, rfl, h3, hb⟩
  have S_42 := Lib.hid hb; clear hb
  have K_43 := Lib.hid (K_34.out.keep S_42.out)
  have X_44 := Lib.hid (X_35.out.below S_42.out)
  have M_45 := Lib.hid (M_36.out.keep S_42.out)
  have L1_46 := Lib.hid (L1_37.out.keep S_42.out)
  have V1_47 := Lib.hid (V1_38.out.keep S_42.out)
  have R1_48 := Lib.hid (R1_39.out.below S_42.out)
  have WA_49 := Lib.hid (WA_41.out.keep S_42.out)
  have B_50 := Lib.hid (then_ B_40.out S_42.out)
  clear K_34 X_35 M_36 L1_37 V1_38 R1_39 WA_41 B_40
  clear S_42
  clear y0 y1 y2 y3
  have WB_51 := Lib.hid (h3)
  clear h3
  have y0 := R1_48.out.cell 0 _ rfl
  have y1 := R1_48.out.cell 1 _ rfl
  have y2 := R1_48.out.cell 2 _ rfl
  have y3 := R1_48.out.cell 3 _ rfl
  have x0 := X_44.out.cell 0 _ rfl
  have x1 := X_44.out.cell 1 _ rfl
  have x2 := X_44.out.cell 2 _ rfl
  have x3 := X_44.out.cell 3 _ rfl
  go_wp2_with fail
  refine (at_any (doneS s0 l1) P1 p1 q1 Q1 (m0 + en1) v1 (doneS s0 l1).rev _ L1_46.out HP.out L1_46.out.rev).mono ?_; rintro e w7 ⟨W3, i3, j3, rfl, h4, hb⟩
  rw [AN.out.2]
  rw [AN.out.1] at h4
  have S_52 := Lib.hid hb; clear hb
  have K_53 := Lib.hid (K_43.out.keep S_52.out)
  have X_54 := Lib.hid (X_44.out.below S_52.out)
  have M_55 := Lib.hid (M_45.out.keep S_52.out)
  have L1_56 := Lib.hid (L1_46.out.keep S_52.out)
  have V1_57 := Lib.hid (V1_47.out.keep S_52.out)
  have R1_58 := Lib.hid (R1_48.out.below S_52.out)
  have WA_59 := Lib.hid (WA_49.out.keep S_52.out)
  have WB_60 := Lib.hid (WB_51.out.keep S_52.out)
  have B_61 := Lib.hid (then_ B_50.out S_52.out)
  clear K_43 X_44 M_45 L1_46 V1_47 R1_48 WA_49 WB_51 B_50
  clear S_52
  clear y0 y1 y2 y3
  clear x0 x1 x2 x3
  have WC_62 := Lib.hid (h4)
  clear h4
  have y0 := R1_58.out.cell 0 _ rfl
  have y1 := R1_58.out.cell 1 _ rfl
  have y2 := R1_58.out.cell 2 _ rfl
  have y3 := R1_58.out.cell 3 _ rfl
  go_wp2_with fail
  refine (now_any (doneS s0 l1) P1 p1 q1 Q1 (m0 + en1) v1 _ L1_56.out HP.out).mono ?_; rintro e w8 ⟨W4, i4, j4, rfl, h5, hb⟩
  have S_63 := Lib.hid hb; clear hb
  have K_64 := Lib.hid (K_53.out.keep S_63.out)
  have X_65 := Lib.hid (X_54.out.below S_63.out)
  have M_66 := Lib.hid (M_55.out.keep S_63.out)
  have L1_67 := Lib.hid (L1_56.out.keep S_63.out)
  have V1_68 := Lib.hid (V1_57.out.keep S_63.out)
  have R1_69 := Lib.hid (R1_58.out.below S_63.out)
  have WA_70 := Lib.hid (WA_59.out.keep S_63.out)
  have WB_71 := Lib.hid (WB_60.out.keep S_63.out)
  have WC_72 := Lib.hid (WC_62.out.keep S_63.out)
  have B_73 := Lib.hid (then_ B_61.out S_63.out)
  clear K_53 X_54 M_55 L1_56 V1_57 R1_58 WA_59 WB_60 WC_62 B_61
  clear S_63
  clear y0 y1 y2 y3
  have WD_74 := Lib.hid (h5)
  clear h5
  obtain rfl : i3 = i4 := WC_72.out.len.symm.trans WD_74.out.len
  have hi3 : i3 ≤ 1000000 := by have h1 := WC_72.out.len; have h2 := MA.out.now.len; omega
  go_wp2_with fail
  refine (kvs_same W3 W4 i3 j3 j4 (nowL (doneS s0 l1)) _ WC_72.out WD_74.out (by omega)).mono ?_; rintro e w9 ⟨rfl, hb⟩
  have S_75 := Lib.hid hb; clear hb
  have K_76 := Lib.hid (K_64.out.keep S_75.out)
  have X_77 := Lib.hid (X_65.out.below S_75.out)
  have M_78 := Lib.hid (M_66.out.keep S_75.out)
  have L1_79 := Lib.hid (L1_67.out.keep S_75.out)
  have V1_80 := Lib.hid (V1_68.out.keep S_75.out)
  have R1_81 := Lib.hid (R1_69.out.below S_75.out)
  have WA_82 := Lib.hid (WA_70.out.keep S_75.out)
  have WB_83 := Lib.hid (WB_71.out.keep S_75.out)
  have WC_84 := Lib.hid (WC_72.out.keep S_75.out)
  have WD_85 := Lib.hid (WD_74.out.keep S_75.out)
  have B_86 := Lib.hid (then_ B_73.out S_75.out)
  clear K_64 X_65 M_66 L1_67 V1_68 R1_69 WA_70 WB_71 WC_72 WD_74 B_73
  clear S_75
  go_wp2_with fail
  refine (live_any _).mono ?_; rintro e w10 ⟨rfl, hb⟩
  have S_87 := Lib.hid hb; clear hb
  have K_88 := Lib.hid (K_76.out.keep S_87.out)
  have X_89 := Lib.hid (X_77.out.below S_87.out)
  have M_90 := Lib.hid (M_78.out.keep S_87.out)
  have L1_91 := Lib.hid (L1_79.out.keep S_87.out)
  have V1_92 := Lib.hid (V1_80.out.keep S_87.out)
  have R1_93 := Lib.hid (R1_81.out.below S_87.out)
  have WA_94 := Lib.hid (WA_82.out.keep S_87.out)
  have WB_95 := Lib.hid (WB_83.out.keep S_87.out)
  have WC_96 := Lib.hid (WC_84.out.keep S_87.out)
  have WD_97 := Lib.hid (WD_85.out.keep S_87.out)
  have B_98 := Lib.hid (then_ B_86.out S_87.out)
  clear K_76 X_77 M_78 L1_79 V1_80 R1_81 WA_82 WB_83 WC_84 WD_85 B_86
  clear S_87
  go_wp2
  go_ret
  exact ⟨rfl, B_98.out⟩
theorem walk (w : World) (s0 : St) (A0 : Option Addr) (n0 c0 : Nat) (B0 : Option Addr) (m0 d0 : Nat) (A1 : Option Addr) (n1 c1 : Nat) (l1 : List Mu) (a2 : Int) (k0 : StAt w s0 A0 n0 c0 B0 m0 d0) (k1 : Mus w A1 n1 c1 l1) (w2 : (Lit.int .i64 a2).wf = true) :
    Calls Try.prog 5 #[s0.agg A0 n0 c0 B0 m0 d0, .slice A1 n1 c1, .int .i64 a2] w fun e w' => e = .returned (.bool true) ∧ Below w.heap.size w w' := by
  cases hf : fewS s0 with
  | false => exact no_few w s0 A0 n0 c0 B0 m0 d0 A1 n1 c1 l1 a2 k0 k1 w2 hf
  | true =>
    cases hm : mayB s0 with
    | false => exact no_may w s0 A0 n0 c0 B0 m0 d0 A1 n1 c1 l1 a2 k0 k1 w2 hf hm
    | true =>
      by_cases hn : n1 ≤ 40
      · cases hs : l1.all shMu with
        | false => exact no_short w s0 A0 n0 c0 B0 m0 d0 A1 n1 c1 l1 a2 k0 k1 w2 hf hm hn hs
        | true =>
          by_cases he : applyE s0 l1 = 0
          · by_cases hv : eventsOf s0 l1 = []
            · exact idle w s0 A0 n0 c0 B0 m0 d0 A1 n1 c1 l1 a2 k0 k1 w2 hf hm hn hs he hv
            · by_cases h0 : a2 = 0
              · exact done_now w s0 A0 n0 c0 B0 m0 d0 A1 n1 c1 l1 a2 k0 k1 w2 hf hm hn hs he hv h0
              · by_cases h1 : a2 ≤ s0.rev
                · exact done_past w s0 A0 n0 c0 B0 m0 d0 A1 n1 c1 l1 a2 k0 k1 w2 hf hm hn hs he hv h0 h1
                · exact done_later w s0 A0 n0 c0 B0 m0 d0 A1 n1 c1 l1 a2 k0 k1 w2 hf hm hn hs he hv h0 (by omega)
          · exact err w s0 A0 n0 c0 B0 m0 d0 A1 n1 c1 l1 a2 k0 k1 w2 hf hm hn hs he
      · exact no_len w s0 A0 n0 c0 B0 m0 d0 A1 n1 c1 l1 a2 k0 k1 w2 hf hm (by omega)

theorem own : ownKnob Try.prog.godebug = none := by kernel_rfl
theorem laidOut : laidOutB Try.prog = true := by kernel_rfl

set_option maxRecDepth 100000 in
theorem lifted (os : Os) (started : os.Started) (H : Type) (enc : TypeId × Value → H) :
    ReturnsInHanded {} Try.checked os 5 .any (Rows.mvccMaySpec.pre6 enc Try.prog Try.f5 Rows.mvccMayRow.domain false) (Rows.mvccMaySpec.post enc Try.prog Try.f5 false true false false) := by
  refine returnsInHanded_of_change (C := Try.checked) own started (by kernel_rfl) Try.func5
    (ChangeSpec.witness6 (enc := enc) (C := Try.checked) false ⟨#[], #[.agg #[.int .i64 0, .int .i64 0, .slice none 0 0, .slice none 0 0], .slice none 0 0, (.int .i64 0)], []⟩ 8 (by kernel_rfl) (by kernel_rfl) (by kernel_rfl) (by kernel_rfl)) ?_
  intro W base args ds gs before hval0 hW hcnd _
  have hval : ∀ (j : Nat) t v, Try.f5.params[j]? = some t → args[j]? = some v → Value.okWide Try.prog W .any base t v := hval0
  have hW' := hW
  obtain ⟨p, q, hA0, hV, rfl, hfz, hnd⟩ := hW
  have hA : DataW.TrodAll enc Try.prog W 0 (fun _ => true) true Try.f5.params.toList args.toList ds p := hA0
  rw [Try.params5] at hA hval
  obtain ⟨v0, vs0, d0, ds0, p0, q0, hargs, rfl, rfl, h0, r0⟩ := trodAll_cons hA
  obtain ⟨v1, vs1, d1, ds1, p1, q1, rfl, rfl, rfl, h1, r1⟩ := trodAll_cons r0
  obtain ⟨v2, vs2, d2, ds2, p2, q2, rfl, rfl, rfl, h2, r2⟩ := trodAll_cons r1
  obtain ⟨rfl, rfl, rfl⟩ := trodAll_nil r2
  obtain rfl : args = #[v0, v1, v2] := by cases args; simp_all
  obtain ⟨rfl, rfl⟩ := trodVars_none hV
  obtain ⟨s0, A0, n0, c0, B0, m0, d0, rfl, k0⟩ := open_st (hval 0 25 v0 rfl rfl) h0
  obtain ⟨A1, n1, c1, l1, rfl, k1⟩ := open_mus (hval 1 34 v1 rfl rfl) h1
  obtain ⟨a2, rfl, rfl, rfl, w2⟩ := open_int Try.underlying3 (hval 2 3 v2 rfl rfl) h2
  clear hA0 hval0
  refine (walk W s0 A0 n0 c0 B0 m0 d0 A1 n1 c1 l1 a2 k0 k1 w2).mono fun e W' ⟨he, bel⟩ => ?_
  subst he
  exact ⟨_, rfl, _, _, _, [], _, [], hW', trodAll_mk1 (shut_bool Try.underlying4 _), (trodAll_cons_mk (Below.trod laidOut (by kernel_rfl) (of_decide_eq_true (by kernel_rfl)) h0 bel (fun x hx => hW'.lt x (by simp [hx]))) (trodAll_cons_mk (Below.trod laidOut (by kernel_rfl) (of_decide_eq_true (by kernel_rfl)) h1 bel (fun x hx => hW'.lt x (by simp [hx]))) (trodAll_cons_mk (shut_int Try.underlying3 w2) trodAll_mk0))), rfl, bel.frame _, fun h => by cases h⟩

theorem over : Rows.mvccMayRow.holds Try.pinned (OpenSpec.ofChange Rows.mvccMaySpec) :=
  OpenClaim.holds_of_wide 5 Try.f5 rfl rfl rfl rfl rfl rfl rfl ⟨rfl, rfl, rfl, rfl, rfl⟩ rfl rfl rfl rfl rfl (by kernel_rfl) Try.func5 (by kernel_rfl)
    (of_decide_eq_true (by kernel_rfl)) (by unfold Func.isWrapper; first | (rw [if_pos (by decide +kernel)]; kernel_rfl) | (rw [if_neg (by decide +kernel)]; exact ⟨rfl, rfl⟩))
    (fun os started H enc _ => lifted os started H enc)

theorem proved : Rows.MvccMaySaid := over
#print axioms proved
end Go.Proofs.Ytlffhehpeeiogaa.mvccMay
