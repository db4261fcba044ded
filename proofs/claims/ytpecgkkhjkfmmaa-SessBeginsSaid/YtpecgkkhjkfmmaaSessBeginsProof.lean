/- For every time, every TTL and every span the law SessBegins answers true: a session that begins is alive for what is safe, to be kept in the second half of that; the longer the lease, the longer it lasts; never as long as the lease. No condition. -/
import Derived.Test.YtpecgkkhjkfmmaaSsUse
import Derived.Lib.QuietBelow
import Derived.Test.YtpecgkkhjkfmmaaRows
namespace Go.Proofs.Ytpecgkkhjkfmmaa.sessBegins
open Go.ChangeShapes Go.WideShapes Go.ChangeAt Go.RowKit Go.Sort Go.Proofs.Ytpecgkkhjkfmmaa.P
open Go.ChangeMaps (open_string shut_string)
set_option maxHeartbeats 1000000
set_option linter.unusedVariables false
set_option linter.unusedSimpArgs false
set_option maxRecDepth 100000

theorem out0 (w : World) (a0 a1 a2 : Int) (h0 : a0 < 0) :
    Calls Try.prog 12 #[.int .i64 a0, .int .i64 a1, .int .i64 a2] w fun e w' => e = .returned (.bool true) ∧ Below w.heap.size w w' := by
  go_enter Try.func12, Try.ntmps12
  go_wp2_with fail
  refine (live_any _).mono ?_; rintro e w1 ⟨rfl, hb⟩
  have HB := Lib.hid hb; clear hb
  go_wp2
  go_ret
  exact ⟨rfl, HB.out⟩
theorem out1 (w : World) (a0 a1 a2 : Int) (h0 : ¬ a0 < 0) (h1 : 549755813888 < a0) :
    Calls Try.prog 12 #[.int .i64 a0, .int .i64 a1, .int .i64 a2] w fun e w' => e = .returned (.bool true) ∧ Below w.heap.size w w' := by
  go_enter Try.func12, Try.ntmps12
  go_wp2_with fail
  refine (live_any _).mono ?_; rintro e w1 ⟨rfl, hb⟩
  have HB := Lib.hid hb; clear hb
  go_wp2
  go_ret
  exact ⟨rfl, HB.out⟩
theorem out2 (w : World) (a0 a1 a2 : Int) (h0 : ¬ a0 < 0) (h1 : ¬ 549755813888 < a0) (h2 : a1 < 2) :
    Calls Try.prog 12 #[.int .i64 a0, .int .i64 a1, .int .i64 a2] w fun e w' => e = .returned (.bool true) ∧ Below w.heap.size w w' := by
  go_enter Try.func12, Try.ntmps12
  go_wp2_with fail
  refine (live_any _).mono ?_; rintro e w1 ⟨rfl, hb⟩
  have HB := Lib.hid hb; clear hb
  go_wp2
  go_ret
  exact ⟨rfl, HB.out⟩
theorem out3 (w : World) (a0 a1 a2 : Int) (h0 : ¬ a0 < 0) (h1 : ¬ 549755813888 < a0) (h2 : ¬ a1 < 2) (h3 : 1000 ≤ a1) :
    Calls Try.prog 12 #[.int .i64 a0, .int .i64 a1, .int .i64 a2] w fun e w' => e = .returned (.bool true) ∧ Below w.heap.size w w' := by
  go_enter Try.func12, Try.ntmps12
  go_wp2_with fail
  refine (live_any _).mono ?_; rintro e w1 ⟨rfl, hb⟩
  have HB := Lib.hid hb; clear hb
  go_wp2
  go_ret
  exact ⟨rfl, HB.out⟩
theorem out4 (w : World) (a0 a1 a2 : Int) (h0 : ¬ a0 < 0) (h1 : ¬ 549755813888 < a0) (h2 : ¬ a1 < 2) (h3 : ¬ 1000 ≤ a1) (h4 : a2 < 0) :
    Calls Try.prog 12 #[.int .i64 a0, .int .i64 a1, .int .i64 a2] w fun e w' => e = .returned (.bool true) ∧ Below w.heap.size w w' := by
  go_enter Try.func12, Try.ntmps12
  go_wp2_with fail
  refine (live_any _).mono ?_; rintro e w1 ⟨rfl, hb⟩
  have HB := Lib.hid hb; clear hb
  go_wp2
  go_ret
  exact ⟨rfl, HB.out⟩
theorem out5 (w : World) (a0 a1 a2 : Int) (h0 : ¬ a0 < 0) (h1 : ¬ 549755813888 < a0) (h2 : ¬ a1 < 2) (h3 : ¬ 1000 ≤ a1) (h4 : ¬ a2 < 0) (h5 : 2000 < a2) :
    Calls Try.prog 12 #[.int .i64 a0, .int .i64 a1, .int .i64 a2] w fun e w' => e = .returned (.bool true) ∧ Below w.heap.size w w' := by
  go_enter Try.func12, Try.ntmps12
  go_wp2_with fail
  refine (live_any _).mono ?_; rintro e w1 ⟨rfl, hb⟩
  have HB := Lib.hid hb; clear hb
  go_wp2
  go_ret
  exact ⟨rfl, HB.out⟩
theorem begins_math (a1 : Int) (h : 2 ≤ a1) (k : a1 < 1000) : ∃ x x2 hf hg : Int, safeP a1 = x ∧ safeP (a1 + 1) = x2 ∧ x / 2 = hf ∧ x2 / 2 = hg ∧ 1 ≤ x ∧ x ≤ x2 ∧ x < a1 ∧ x2 ≤ 882 ∧ 2 * hf ≤ x ∧ x ≤ 2 * hf + 1 := by
  have e1 : safeP a1 = a1 * 15 / 17 := by unfold safeP; rw [if_neg (by omega)]
  have e2 : safeP (a1 + 1) = (a1 + 1) * 15 / 17 := by unfold safeP; rw [if_neg (by omega)]
  exact ⟨_, _, _, _, e1, e2, rfl, rfl, by omega, by omega, by omega, by omega, by omega, by omega⟩
theorem main_td (w : World) (a0 a1 a2 : Int) (h0 : ¬ a0 < 0) (h1 : ¬ 549755813888 < a0) (h2 : ¬ a1 < 2) (h3 : ¬ 1000 ≤ a1) (h4 : ¬ a2 < 0) (h5 : ¬ 2000 < a2) (ha : a0 + a2 < a0 + safeP a1) (hd : a0 + safeP a1 / 2 ≤ a0 + a2) :
    Calls Try.prog 12 #[.int .i64 a0, .int .i64 a1, .int .i64 a2] w fun e w' => e = .returned (.bool true) ∧ Below w.heap.size w w' := by
  obtain ⟨x, x2, hf, hg, e1, e2, e3, e4, m1, m2, m3, m4, m5, m6⟩ := begins_math a1 (by omega) (by omega)
  have hat : atN a0 = true := atN_iff.2 ⟨by omega, by omega⟩
  have CP := Lib.hid (fun w => sbegin_is a0 1 a1 x hf (by decide) ⟨by decide, by decide⟩ ⟨by omega, by omega⟩ e1 (by omega) e3 hat w)
  have CQ := Lib.hid (fun w => sbegin_is a0 1 (a1 + 1) x2 hg (by decide) ⟨by decide, by decide⟩ ⟨by omega, by omega⟩ e2 (by omega) e4 hat w)
  rw [e1, e3] at hd
  rw [e1] at ha
  clear e1 e2 e3 e4 hat
  obtain ⟨u, hu⟩ : ∃ u, u = a0 + x := ⟨_, rfl⟩
  obtain ⟨v, hv⟩ : ∃ v, v = a0 + hf := ⟨_, rfl⟩
  obtain ⟨u2, hu2⟩ : ∃ u2, u2 = a0 + x2 := ⟨_, rfl⟩
  obtain ⟨v2, hv2⟩ : ∃ v2, v2 = a0 + hg := ⟨_, rfl⟩
  rw [← hu, ← hv] at CP
  rw [← hu2, ← hv2] at CQ
  have t1 : decide (u2 < u) = false := decide_eq_false (by omega)
  have t2 : wrap64 (u - a0) = x := by rw [IntWalk.wrap64_in _ (by omega)]; omega
  have t3 : decide (a1 ≤ x) = false := decide_eq_false (by omega)
  have t4 : decide (u ≤ a0) = false := decide_eq_false (by omega)
  have t6 : wrap64 (v - a0) = hf := by rw [IntWalk.wrap64_in _ (by omega)]; omega
  have t7 : wrap64 (2 * hf) = 2 * hf := IntWalk.wrap64_in _ (by omega)
  have t8 : wrap64 (2 * hf + 1) = 2 * hf + 1 := IntWalk.wrap64_in _ (by omega)
  have t9 : decide (2 * hf ≤ x) = true := decide_eq_true (by omega)
  have t10 : decide (x ≤ 2 * hf + 1) = true := decide_eq_true (by omega)
  have t11 : wrap64 (v - 1) = v - 1 := IntWalk.wrap64_in _ (by omega)
  have t12 : wrap64 (a1 + 1) = a1 + 1 := IntWalk.wrap64_in _ (by omega)
  have t13 : decide (a0 + a2 < u) = true := decide_eq_true (by omega)
  have CA := Lib.hid (fun w => salive_is 1 a1 u v (a0 + a2) true (by decide) t13 w)
  have CD := Lib.hid (fun w => sdue_is 1 a1 u v (a0 + a2) true (by decide) (by rw [t13]; exact decide_eq_true (by omega)) w)
  have CB := Lib.hid (fun w => salive_is 1 (a1 + 1) u2 v2 (a0 + a2) true (by decide) (decide_eq_true (by omega)) w)
  have CE := Lib.hid (fun w => sdue_is 1 a1 u v v true (by decide) (by rw [decide_eq_true (show v < u by omega), decide_eq_true (Int.le_refl v)]; rfl) w)
  have CF := Lib.hid (fun w => sdue_is 1 a1 u v (v - 1) false (by decide) (by rw [decide_eq_false (show ¬ v ≤ v - 1 by omega), Bool.and_false]) w)
  clear hu hv hu2 hv2 m1 m2 m3 m4 m5 m6
  go_enter Try.func12, Try.ntmps12
  go_wp2_with fail
  refine (CP.out _).mono ?_; rintro e w1 ⟨rfl, hb⟩
  have S_1 := Lib.hid hb; clear hb
  have B_2 := Lib.hid (S_1.out)
  clear S_1
  have B_3 := Lib.hid (then_ B_2.out (new1 w1 (.cells #[.int .i64 1, .int .i64 a1, .int .i64 u, .int .i64 v] 53)))
  clear B_2
  have P_4 := Lib.hid (own_new w1 #[.int .i64 1, .int .i64 a1, .int .i64 u, .int .i64 v] 53)
  go_wp2_with fail
  refine (CQ.out _).mono ?_; rintro e w2 ⟨rfl, hb⟩
  have S_5 := Lib.hid hb; clear hb
  have P_6 := Lib.hid (P_4.out.below S_5.out)
  have B_7 := Lib.hid (then_ B_3.out S_5.out)
  clear P_4 B_3
  clear S_5
  have P_8 := Lib.hid (P_6.out.below (new1 w2 (.cells #[.int .i64 1, .int .i64 (a1 + 1), .int .i64 u2, .int .i64 v2] 53)))
  have B_9 := Lib.hid (then_ B_7.out (new1 w2 (.cells #[.int .i64 1, .int .i64 (a1 + 1), .int .i64 u2, .int .i64 v2] 53)))
  clear P_6 B_7
  have Q_10 := Lib.hid (own_new w2 #[.int .i64 1, .int .i64 (a1 + 1), .int .i64 u2, .int .i64 v2] 53)
  have pc0 := P_8.out.cell 0 _ rfl
  have pc1 := P_8.out.cell 1 _ rfl
  have pc2 := P_8.out.cell 2 _ rfl
  have pc3 := P_8.out.cell 3 _ rfl
  have qc0 := Q_10.out.cell 0 _ rfl
  have qc1 := Q_10.out.cell 1 _ rfl
  have qc2 := Q_10.out.cell 2 _ rfl
  have qc3 := Q_10.out.cell 3 _ rfl
  go_wp2_with fail
  obtain ⟨W, hW⟩ : ∃ W, W = w2.alloc (.cells #[.int .i64 1, .int .i64 (a1 + 1), .int .i64 u2, .int .i64 v2] 53) := ⟨_, rfl⟩
  rw [← hW]
  clear pc0 pc1 pc2 pc3
  clear qc0 qc1 qc2 qc3
  rw [← hW] at P_8
  rw [← hW] at Q_10
  rw [← hW] at B_9
  clear hW
  have pc0 := P_8.out.cell 0 _ rfl
  have pc1 := P_8.out.cell 1 _ rfl
  have pc2 := P_8.out.cell 2 _ rfl
  have pc3 := P_8.out.cell 3 _ rfl
  have rpc0 := fun d os => cell_regrown pc0 d os
  have rpc1 := fun d os => cell_regrown pc1 d os
  have rpc2 := fun d os => cell_regrown pc2 d os
  have rpc3 := fun d os => cell_regrown pc3 d os
  have qc0 := Q_10.out.cell 0 _ rfl
  have qc1 := Q_10.out.cell 1 _ rfl
  have qc2 := Q_10.out.cell 2 _ rfl
  have qc3 := Q_10.out.cell 3 _ rfl
  have rqc0 := fun d os => cell_regrown qc0 d os
  have rqc1 := fun d os => cell_regrown qc1 d os
  have rqc2 := fun d os => cell_regrown qc2 d os
  have rqc3 := fun d os => cell_regrown qc3 d os
  have cA := fun d os => Calls.regrown_of (d := d) (os := os) (w := W) (CA.out _)
  have cD := fun d os => Calls.regrown_of (d := d) (os := os) (w := W) (CD.out _)
  have cB := fun d os => Calls.regrown_of (d := d) (os := os) (w := W) (CB.out _)
  refine wp_region_quiet_below (by kernel_rfl) (by kernel_rfl) ?_
  repeat (go_big_quiet_step (first | (with_reducible exact cA _ _) | (with_reducible exact cD _ _) | (with_reducible exact cB _ _)))
  refine wpQuiet_nil ?_
  intro V hV
  obtain ⟨⟨d, os⟩, rfl⟩ := hV
  obtain ⟨V, hV⟩ : ∃ V, V = grow (redrawn W d) os := ⟨_, rfl⟩
  rw [← hV]
  have BV := Lib.hid (show Below W.heap.size W V by rw [hV]; exact below_regrown _ _ _)
  clear hV
  clear rpc0 pc0 rpc1 pc1 rpc2 pc2 rpc3 pc3 rqc0 qc0 rqc1 qc1 rqc2 qc2 rqc3 qc3
  have P_11 := Lib.hid (P_8.out.below BV.out)
  have Q_12 := Lib.hid (Q_10.out.below BV.out)
  have B_13 := Lib.hid (then_ B_9.out BV.out)
  clear P_8 Q_10 B_9
  have pc0 := P_11.out.cell 0 _ rfl
  have pc1 := P_11.out.cell 1 _ rfl
  have pc2 := P_11.out.cell 2 _ rfl
  have pc3 := P_11.out.cell 3 _ rfl
  go_wp2_with fail
  refine (CE.out _).mono ?_; rintro e w4 ⟨rfl, hb⟩
  have S_14 := Lib.hid hb; clear hb
  have P_15 := Lib.hid (P_11.out.below S_14.out)
  have Q_16 := Lib.hid (Q_12.out.below S_14.out)
  have B_17 := Lib.hid (then_ B_13.out S_14.out)
  clear P_11 Q_12 B_13
  clear S_14
  clear pc0 pc1 pc2 pc3
  have pc0 := P_15.out.cell 0 _ rfl
  have pc1 := P_15.out.cell 1 _ rfl
  have pc2 := P_15.out.cell 2 _ rfl
  have pc3 := P_15.out.cell 3 _ rfl
  go_wp2_with fail
  refine (CF.out _).mono ?_; rintro e w5 ⟨rfl, hb⟩
  have S_18 := Lib.hid hb; clear hb
  have P_19 := Lib.hid (P_15.out.below S_18.out)
  have Q_20 := Lib.hid (Q_16.out.below S_18.out)
  have B_21 := Lib.hid (then_ B_17.out S_18.out)
  clear P_15 Q_16 B_17
  clear S_18
  clear pc0 pc1 pc2 pc3
  go_wp2_with fail
  refine (live_any _).mono ?_; rintro e w6 ⟨rfl, hb⟩
  have S_22 := Lib.hid hb; clear hb
  have P_23 := Lib.hid (P_19.out.below S_22.out)
  have Q_24 := Lib.hid (Q_20.out.below S_22.out)
  have B_25 := Lib.hid (then_ B_21.out S_22.out)
  clear P_19 Q_20 B_21
  clear S_22
  go_wp2
  go_ret
  exact ⟨rfl, B_25.out⟩
theorem main_tf (w : World) (a0 a1 a2 : Int) (h0 : ¬ a0 < 0) (h1 : ¬ 549755813888 < a0) (h2 : ¬ a1 < 2) (h3 : ¬ 1000 ≤ a1) (h4 : ¬ a2 < 0) (h5 : ¬ 2000 < a2) (ha : a0 + a2 < a0 + safeP a1) (hd : ¬ a0 + safeP a1 / 2 ≤ a0 + a2) :
    Calls Try.prog 12 #[.int .i64 a0, .int .i64 a1, .int .i64 a2] w fun e w' => e = .returned (.bool true) ∧ Below w.heap.size w w' := by
  obtain ⟨x, x2, hf, hg, e1, e2, e3, e4, m1, m2, m3, m4, m5, m6⟩ := begins_math a1 (by omega) (by omega)
  have hat : atN a0 = true := atN_iff.2 ⟨by omega, by omega⟩
  have CP := Lib.hid (fun w => sbegin_is a0 1 a1 x hf (by decide) ⟨by decide, by decide⟩ ⟨by omega, by omega⟩ e1 (by omega) e3 hat w)
  have CQ := Lib.hid (fun w => sbegin_is a0 1 (a1 + 1) x2 hg (by decide) ⟨by decide, by decide⟩ ⟨by omega, by omega⟩ e2 (by omega) e4 hat w)
  rw [e1, e3] at hd
  rw [e1] at ha
  clear e1 e2 e3 e4 hat
  obtain ⟨u, hu⟩ : ∃ u, u = a0 + x := ⟨_, rfl⟩
  obtain ⟨v, hv⟩ : ∃ v, v = a0 + hf := ⟨_, rfl⟩
  obtain ⟨u2, hu2⟩ : ∃ u2, u2 = a0 + x2 := ⟨_, rfl⟩
  obtain ⟨v2, hv2⟩ : ∃ v2, v2 = a0 + hg := ⟨_, rfl⟩
  rw [← hu, ← hv] at CP
  rw [← hu2, ← hv2] at CQ
  have t1 : decide (u2 < u) = false := decide_eq_false (by omega)
  have t2 : wrap64 (u - a0) = x := by rw [IntWalk.wrap64_in _ (by omega)]; omega
  have t3 : decide (a1 ≤ x) = false := decide_eq_false (by omega)
  have t4 : decide (u ≤ a0) = false := decide_eq_false (by omega)
  have t6 : wrap64 (v - a0) = hf := by rw [IntWalk.wrap64_in _ (by omega)]; omega
  have t7 : wrap64 (2 * hf) = 2 * hf := IntWalk.wrap64_in _ (by omega)
  have t8 : wrap64 (2 * hf + 1) = 2 * hf + 1 := IntWalk.wrap64_in _ (by omega)
  have t9 : decide (2 * hf ≤ x) = true := decide_eq_true (by omega)
  have t10 : decide (x ≤ 2 * hf + 1) = true := decide_eq_true (by omega)
  have t11 : wrap64 (v - 1) = v - 1 := IntWalk.wrap64_in _ (by omega)
  have t12 : wrap64 (a1 + 1) = a1 + 1 := IntWalk.wrap64_in _ (by omega)
  have t13 : decide (a0 + a2 < u) = true := decide_eq_true (by omega)
  have CA := Lib.hid (fun w => salive_is 1 a1 u v (a0 + a2) true (by decide) t13 w)
  have CD := Lib.hid (fun w => sdue_is 1 a1 u v (a0 + a2) false (by decide) (by rw [t13]; exact decide_eq_false (by omega)) w)
  have CB := Lib.hid (fun w => salive_is 1 (a1 + 1) u2 v2 (a0 + a2) true (by decide) (decide_eq_true (by omega)) w)
  have CE := Lib.hid (fun w => sdue_is 1 a1 u v v true (by decide) (by rw [decide_eq_true (show v < u by omega), decide_eq_true (Int.le_refl v)]; rfl) w)
  have CF := Lib.hid (fun w => sdue_is 1 a1 u v (v - 1) false (by decide) (by rw [decide_eq_false (show ¬ v ≤ v - 1 by omega), Bool.and_false]) w)
  clear hu hv hu2 hv2 m1 m2 m3 m4 m5 m6
  go_enter Try.func12, Try.ntmps12
  go_wp2_with fail
  refine (CP.out _).mono ?_; rintro e w1 ⟨rfl, hb⟩
  have S_1 := Lib.hid hb; clear hb
  have B_2 := Lib.hid (S_1.out)
  clear S_1
  have B_3 := Lib.hid (then_ B_2.out (new1 w1 (.cells #[.int .i64 1, .int .i64 a1, .int .i64 u, .int .i64 v] 53)))
  clear B_2
  have P_4 := Lib.hid (own_new w1 #[.int .i64 1, .int .i64 a1, .int .i64 u, .int .i64 v] 53)
  go_wp2_with fail
  refine (CQ.out _).mono ?_; rintro e w2 ⟨rfl, hb⟩
  have S_5 := Lib.hid hb; clear hb
  have P_6 := Lib.hid (P_4.out.below S_5.out)
  have B_7 := Lib.hid (then_ B_3.out S_5.out)
  clear P_4 B_3
  clear S_5
  have P_8 := Lib.hid (P_6.out.below (new1 w2 (.cells #[.int .i64 1, .int .i64 (a1 + 1), .int .i64 u2, .int .i64 v2] 53)))
  have B_9 := Lib.hid (then_ B_7.out (new1 w2 (.cells #[.int .i64 1, .int .i64 (a1 + 1), .int .i64 u2, .int .i64 v2] 53)))
  clear P_6 B_7
  have Q_10 := Lib.hid (own_new w2 #[.int .i64 1, .int .i64 (a1 + 1), .int .i64 u2, .int .i64 v2] 53)
  have pc0 := P_8.out.cell 0 _ rfl
  have pc1 := P_8.out.cell 1 _ rfl
  have pc2 := P_8.out.cell 2 _ rfl
  have pc3 := P_8.out.cell 3 _ rfl
  have qc0 := Q_10.out.cell 0 _ rfl
  have qc1 := Q_10.out.cell 1 _ rfl
  have qc2 := Q_10.out.cell 2 _ rfl
  have qc3 := Q_10.out.cell 3 _ rfl
  go_wp2_with fail
  obtain ⟨W, hW⟩ : ∃ W, W = w2.alloc (.cells #[.int .i64 1, .int .i64 (a1 + 1), .int .i64 u2, .int .i64 v2] 53) := ⟨_, rfl⟩
  rw [← hW]
  clear pc0 pc1 pc2 pc3
  clear qc0 qc1 qc2 qc3
  rw [← hW] at P_8
  rw [← hW] at Q_10
  rw [← hW] at B_9
  clear hW
  have pc0 := P_8.out.cell 0 _ rfl
  have pc1 := P_8.out.cell 1 _ rfl
  have pc2 := P_8.out.cell 2 _ rfl
  have pc3 := P_8.out.cell 3 _ rfl
  have rpc0 := fun d os => cell_regrown pc0 d os
  have rpc1 := fun d os => cell_regrown pc1 d os
  have rpc2 := fun d os => cell_regrown pc2 d os
  have rpc3 := fun d os => cell_regrown pc3 d os
  have qc0 := Q_10.out.cell 0 _ rfl
  have qc1 := Q_10.out.cell 1 _ rfl
  have qc2 := Q_10.out.cell 2 _ rfl
  have qc3 := Q_10.out.cell 3 _ rfl
  have rqc0 := fun d os => cell_regrown qc0 d os
  have rqc1 := fun d os => cell_regrown qc1 d os
  have rqc2 := fun d os => cell_regrown qc2 d os
  have rqc3 := fun d os => cell_regrown qc3 d os
  have cA := fun d os => Calls.regrown_of (d := d) (os := os) (w := W) (CA.out _)
  have cD := fun d os => Calls.regrown_of (d := d) (os := os) (w := W) (CD.out _)
  have cB := fun d os => Calls.regrown_of (d := d) (os := os) (w := W) (CB.out _)
  refine wp_region_quiet_below (by kernel_rfl) (by kernel_rfl) ?_
  repeat (go_big_quiet_step (first | (with_reducible exact cA _ _) | (with_reducible exact cD _ _) | (with_reducible exact cB _ _)))
  refine wpQuiet_nil ?_
  intro V hV
  obtain ⟨⟨d, os⟩, rfl⟩ := hV
  obtain ⟨V, hV⟩ : ∃ V, V = grow (redrawn W d) os := ⟨_, rfl⟩
  rw [← hV]
  have BV := Lib.hid (show Below W.heap.size W V by rw [hV]; exact below_regrown _ _ _)
  clear hV
  clear rpc0 pc0 rpc1 pc1 rpc2 pc2 rpc3 pc3 rqc0 qc0 rqc1 qc1 rqc2 qc2 rqc3 qc3
  have P_11 := Lib.hid (P_8.out.below BV.out)
  have Q_12 := Lib.hid (Q_10.out.below BV.out)
  have B_13 := Lib.hid (then_ B_9.out BV.out)
  clear P_8 Q_10 B_9
  have pc0 := P_11.out.cell 0 _ rfl
  have pc1 := P_11.out.cell 1 _ rfl
  have pc2 := P_11.out.cell 2 _ rfl
  have pc3 := P_11.out.cell 3 _ rfl
  go_wp2_with fail
  refine (CE.out _).mono ?_; rintro e w4 ⟨rfl, hb⟩
  have S_14 := Lib.hid hb; clear hb
  have P_15 := Lib.hid (P_11.out.below S_14.out)
  have Q_16 := Lib.hid (Q_12.out.below S_14.out)
  have B_17 := Lib.hid (then_ B_13.out S_14.out)
  clear P_11 Q_12 B_13
  clear S_14
  clear pc0 pc1 pc2 pc3
  have pc0 := P_15.out.cell 0 _ rfl
  have pc1 := P_15.out.cell 1 _ rfl
  have pc2 := P_15.out.cell 2 _ rfl
  have pc3 := P_15.out.cell 3 _ rfl
  go_wp2_with fail
  refine (CF.out _).mono ?_; rintro e w5 ⟨rfl, hb⟩
  have S_18 := Lib.hid hb; clear hb
  have P_19 := Lib.hid (P_15.out.below S_18.out)
  have Q_20 := Lib.hid (Q_16.out.below S_18.out)
  have B_21 := Lib.hid (then_ B_17.out S_18.out)
  clear P_15 Q_16 B_17
  clear S_18
  clear pc0 pc1 pc2 pc3
  go_wp2_with fail
  refine (live_any _).mono ?_; rintro e w6 ⟨rfl, hb⟩
  have S_22 := Lib.hid hb; clear hb
  have P_23 := Lib.hid (P_19.out.below S_22.out)
  have Q_24 := Lib.hid (Q_20.out.below S_22.out)
  have B_25 := Lib.hid (then_ B_21.out S_22.out)
  clear P_19 Q_20 B_21
  clear S_22
  go_wp2
  go_ret
  exact ⟨rfl, B_25.out⟩
theorem main_f (w : World) (a0 a1 a2 : Int) (h0 : ¬ a0 < 0) (h1 : ¬ 549755813888 < a0) (h2 : ¬ a1 < 2) (h3 : ¬ 1000 ≤ a1) (h4 : ¬ a2 < 0) (h5 : ¬ 2000 < a2) (ha : ¬ a0 + a2 < a0 + safeP a1) :
    Calls Try.prog 12 #[.int .i64 a0, .int .i64 a1, .int .i64 a2] w fun e w' => e = .returned (.bool true) ∧ Below w.heap.size w w' := by
  obtain ⟨x, x2, hf, hg, e1, e2, e3, e4, m1, m2, m3, m4, m5, m6⟩ := begins_math a1 (by omega) (by omega)
  have hat : atN a0 = true := atN_iff.2 ⟨by omega, by omega⟩
  have CP := Lib.hid (fun w => sbegin_is a0 1 a1 x hf (by decide) ⟨by decide, by decide⟩ ⟨by omega, by omega⟩ e1 (by omega) e3 hat w)
  have CQ := Lib.hid (fun w => sbegin_is a0 1 (a1 + 1) x2 hg (by decide) ⟨by decide, by decide⟩ ⟨by omega, by omega⟩ e2 (by omega) e4 hat w)
  rw [e1] at ha
  clear e1 e2 e3 e4 hat
  obtain ⟨u, hu⟩ : ∃ u, u = a0 + x := ⟨_, rfl⟩
  obtain ⟨v, hv⟩ : ∃ v, v = a0 + hf := ⟨_, rfl⟩
  obtain ⟨u2, hu2⟩ : ∃ u2, u2 = a0 + x2 := ⟨_, rfl⟩
  obtain ⟨v2, hv2⟩ : ∃ v2, v2 = a0 + hg := ⟨_, rfl⟩
  rw [← hu, ← hv] at CP
  rw [← hu2, ← hv2] at CQ
  have t1 : decide (u2 < u) = false := decide_eq_false (by omega)
  have t2 : wrap64 (u - a0) = x := by rw [IntWalk.wrap64_in _ (by omega)]; omega
  have t3 : decide (a1 ≤ x) = false := decide_eq_false (by omega)
  have t4 : decide (u ≤ a0) = false := decide_eq_false (by omega)
  have t6 : wrap64 (v - a0) = hf := by rw [IntWalk.wrap64_in _ (by omega)]; omega
  have t7 : wrap64 (2 * hf) = 2 * hf := IntWalk.wrap64_in _ (by omega)
  have t8 : wrap64 (2 * hf + 1) = 2 * hf + 1 := IntWalk.wrap64_in _ (by omega)
  have t9 : decide (2 * hf ≤ x) = true := decide_eq_true (by omega)
  have t10 : decide (x ≤ 2 * hf + 1) = true := decide_eq_true (by omega)
  have t11 : wrap64 (v - 1) = v - 1 := IntWalk.wrap64_in _ (by omega)
  have t12 : wrap64 (a1 + 1) = a1 + 1 := IntWalk.wrap64_in _ (by omega)
  have t13 : decide (a0 + a2 < u) = false := decide_eq_false (by omega)
  have CA := Lib.hid (fun w => salive_is 1 a1 u v (a0 + a2) false (by decide) t13 w)
  have CD := Lib.hid (fun w => sdue_is 1 a1 u v (a0 + a2) false (by decide) (by rw [t13]; rfl) w)
  have CE := Lib.hid (fun w => sdue_is 1 a1 u v v true (by decide) (by rw [decide_eq_true (show v < u by omega), decide_eq_true (Int.le_refl v)]; rfl) w)
  have CF := Lib.hid (fun w => sdue_is 1 a1 u v (v - 1) false (by decide) (by rw [decide_eq_false (show ¬ v ≤ v - 1 by omega), Bool.and_false]) w)
  clear hu hv hu2 hv2 m1 m2 m3 m4 m5 m6
  go_enter Try.func12, Try.ntmps12
  go_wp2_with fail
  refine (CP.out _).mono ?_; rintro e w1 ⟨rfl, hb⟩
  have S_1 := Lib.hid hb; clear hb
  have B_2 := Lib.hid (S_1.out)
  clear S_1
  have B_3 := Lib.hid (then_ B_2.out (new1 w1 (.cells #[.int .i64 1, .int .i64 a1, .int .i64 u, .int .i64 v] 53)))
  clear B_2
  have P_4 := Lib.hid (own_new w1 #[.int .i64 1, .int .i64 a1, .int .i64 u, .int .i64 v] 53)
  go_wp2_with fail
  refine (CQ.out _).mono ?_; rintro e w2 ⟨rfl, hb⟩
  have S_5 := Lib.hid hb; clear hb
  have P_6 := Lib.hid (P_4.out.below S_5.out)
  have B_7 := Lib.hid (then_ B_3.out S_5.out)
  clear P_4 B_3
  clear S_5
  have P_8 := Lib.hid (P_6.out.below (new1 w2 (.cells #[.int .i64 1, .int .i64 (a1 + 1), .int .i64 u2, .int .i64 v2] 53)))
  have B_9 := Lib.hid (then_ B_7.out (new1 w2 (.cells #[.int .i64 1, .int .i64 (a1 + 1), .int .i64 u2, .int .i64 v2] 53)))
  clear P_6 B_7
  have Q_10 := Lib.hid (own_new w2 #[.int .i64 1, .int .i64 (a1 + 1), .int .i64 u2, .int .i64 v2] 53)
  have pc0 := P_8.out.cell 0 _ rfl
  have pc1 := P_8.out.cell 1 _ rfl
  have pc2 := P_8.out.cell 2 _ rfl
  have pc3 := P_8.out.cell 3 _ rfl
  have qc0 := Q_10.out.cell 0 _ rfl
  have qc1 := Q_10.out.cell 1 _ rfl
  have qc2 := Q_10.out.cell 2 _ rfl
  have qc3 := Q_10.out.cell 3 _ rfl
  go_wp2_with fail
  obtain ⟨W, hW⟩ : ∃ W, W = w2.alloc (.cells #[.int .i64 1, .int .i64 (a1 + 1), .int .i64 u2, .int .i64 v2] 53) := ⟨_, rfl⟩
  rw [← hW]
  clear pc0 pc1 pc2 pc3
  clear qc0 qc1 qc2 qc3
  rw [← hW] at P_8
  rw [← hW] at Q_10
  rw [← hW] at B_9
  clear hW
  have pc0 := P_8.out.cell 0 _ rfl
  have pc1 := P_8.out.cell 1 _ rfl
  have pc2 := P_8.out.cell 2 _ rfl
  have pc3 := P_8.out.cell 3 _ rfl
  have rpc0 := fun d os => cell_regrown pc0 d os
  have rpc1 := fun d os => cell_regrown pc1 d os
  have rpc2 := fun d os => cell_regrown pc2 d os
  have rpc3 := fun d os => cell_regrown pc3 d os
  have qc0 := Q_10.out.cell 0 _ rfl
  have qc1 := Q_10.out.cell 1 _ rfl
  have qc2 := Q_10.out.cell 2 _ rfl
  have qc3 := Q_10.out.cell 3 _ rfl
  have rqc0 := fun d os => cell_regrown qc0 d os
  have rqc1 := fun d os => cell_regrown qc1 d os
  have rqc2 := fun d os => cell_regrown qc2 d os
  have rqc3 := fun d os => cell_regrown qc3 d os
  have cA := fun d os => Calls.regrown_of (d := d) (os := os) (w := W) (CA.out _)
  have cD := fun d os => Calls.regrown_of (d := d) (os := os) (w := W) (CD.out _)
  refine wp_region_quiet_below (by kernel_rfl) (by kernel_rfl) ?_
  repeat (go_big_quiet_step (first | (with_reducible exact cA _ _) | (with_reducible exact cD _ _)))
  refine wpQuiet_nil ?_
  intro V hV
  obtain ⟨⟨d, os⟩, rfl⟩ := hV
  obtain ⟨V, hV⟩ : ∃ V, V = grow (redrawn W d) os := ⟨_, rfl⟩
  rw [← hV]
  have BV := Lib.hid (show Below W.heap.size W V by rw [hV]; exact below_regrown _ _ _)
  clear hV
  clear rpc0 pc0 rpc1 pc1 rpc2 pc2 rpc3 pc3 rqc0 qc0 rqc1 qc1 rqc2 qc2 rqc3 qc3
  have P_11 := Lib.hid (P_8.out.below BV.out)
  have Q_12 := Lib.hid (Q_10.out.below BV.out)
  have B_13 := Lib.hid (then_ B_9.out BV.out)
  clear P_8 Q_10 B_9
  have pc0 := P_11.out.cell 0 _ rfl
  have pc1 := P_11.out.cell 1 _ rfl
  have pc2 := P_11.out.cell 2 _ rfl
  have pc3 := P_11.out.cell 3 _ rfl
  go_wp2_with fail
  refine (CE.out _).mono ?_; rintro e w4 ⟨rfl, hb⟩
  have S_14 := Lib.hid hb; clear hb
  have P_15 := Lib.hid (P_11.out.below S_14.out)
  have Q_16 := Lib.hid (Q_12.out.below S_14.out)
  have B_17 := Lib.hid (then_ B_13.out S_14.out)
  clear P_11 Q_12 B_13
  clear S_14
  clear pc0 pc1 pc2 pc3
  have pc0 := P_15.out.cell 0 _ rfl
  have pc1 := P_15.out.cell 1 _ rfl
  have pc2 := P_15.out.cell 2 _ rfl
  have pc3 := P_15.out.cell 3 _ rfl
  go_wp2_with fail
  refine (CF.out _).mono ?_; rintro e w5 ⟨rfl, hb⟩
  have S_18 := Lib.hid hb; clear hb
  have P_19 := Lib.hid (P_15.out.below S_18.out)
  have Q_20 := Lib.hid (Q_16.out.below S_18.out)
  have B_21 := Lib.hid (then_ B_17.out S_18.out)
  clear P_15 Q_16 B_17
  clear S_18
  clear pc0 pc1 pc2 pc3
  go_wp2_with fail
  refine (live_any _).mono ?_; rintro e w6 ⟨rfl, hb⟩
  have S_22 := Lib.hid hb; clear hb
  have P_23 := Lib.hid (P_19.out.below S_22.out)
  have Q_24 := Lib.hid (Q_20.out.below S_22.out)
  have B_25 := Lib.hid (then_ B_21.out S_22.out)
  clear P_19 Q_20 B_21
  clear S_22
  go_wp2
  go_ret
  exact ⟨rfl, B_25.out⟩

theorem walk (w : World) (a0 a1 a2 : Int) (w0 : (Lit.int .i64 a0).wf = true) (w1 : (Lit.int .i64 a1).wf = true) (w2 : (Lit.int .i64 a2).wf = true) :
    Calls Try.prog 12 #[.int .i64 a0, .int .i64 a1, .int .i64 a2] w fun e w' => e = .returned (.bool true) ∧ Below w.heap.size w w' := by
  by_cases h0 : a0 < 0
  · exact out0 w a0 a1 a2 h0
  · by_cases h1 : 549755813888 < a0
    · exact out1 w a0 a1 a2 h0 h1
    · by_cases h2 : a1 < 2
      · exact out2 w a0 a1 a2 h0 h1 h2
      · by_cases h3 : 1000 ≤ a1
        · exact out3 w a0 a1 a2 h0 h1 h2 h3
        · by_cases h4 : a2 < 0
          · exact out4 w a0 a1 a2 h0 h1 h2 h3 h4
          · by_cases h5 : 2000 < a2
            · exact out5 w a0 a1 a2 h0 h1 h2 h3 h4 h5
            · by_cases ha : a0 + a2 < a0 + safeP a1
              · by_cases hd : a0 + safeP a1 / 2 ≤ a0 + a2
                · exact main_td w a0 a1 a2 h0 h1 h2 h3 h4 h5 ha hd
                · exact main_tf w a0 a1 a2 h0 h1 h2 h3 h4 h5 ha hd
              · exact main_f w a0 a1 a2 h0 h1 h2 h3 h4 h5 ha

theorem own : ownKnob Try.prog.godebug = none := by kernel_rfl
theorem laidOut : laidOutB Try.prog = true := by kernel_rfl

set_option maxRecDepth 100000 in
theorem lifted (os : Os) (started : os.Started) (H : Type) (enc : TypeId × Value → H) :
    ReturnsInHanded {} Try.checked os 12 .any (Rows.sessBeginsSpec.pre6 enc Try.prog Try.f12 Rows.sessBeginsRow.domain false) (Rows.sessBeginsSpec.post enc Try.prog Try.f12 false true false false) := by
  refine returnsInHanded_of_change (C := Try.checked) own started (by kernel_rfl) Try.func12
    (ChangeSpec.witness6 (enc := enc) (C := Try.checked) false ⟨#[], #[(.int .i64 0), (.int .i64 0), (.int .i64 0)], []⟩ 8 (by kernel_rfl) (by kernel_rfl) (by kernel_rfl) (by kernel_rfl)) ?_
  intro W base args ds gs before hval0 hW hcnd _
  have hval : ∀ (j : Nat) t v, Try.f12.params[j]? = some t → args[j]? = some v → Value.okWide Try.prog W .any base t v := hval0
  have hW' := hW
  obtain ⟨p, q, hA0, hV, rfl, hfz, hnd⟩ := hW
  have hA : DataW.TrodAll enc Try.prog W 0 (fun _ => true) true Try.f12.params.toList args.toList ds p := hA0
  rw [Try.params12] at hA hval
  obtain ⟨v0, vs0, d0, ds0, p0, q0, hargs, rfl, rfl, h0, r0⟩ := trodAll_cons hA
  obtain ⟨v1, vs1, d1, ds1, p1, q1, rfl, rfl, rfl, h1, r1⟩ := trodAll_cons r0
  obtain ⟨v2, vs2, d2, ds2, p2, q2, rfl, rfl, rfl, h2, r2⟩ := trodAll_cons r1
  obtain ⟨rfl, rfl, rfl⟩ := trodAll_nil r2
  obtain rfl : args = #[v0, v1, v2] := by cases args; simp_all
  obtain ⟨rfl, rfl⟩ := trodVars_none hV
  obtain ⟨a0, rfl, rfl, rfl, w0⟩ := open_int Try.underlying3 (hval 0 3 v0 rfl rfl) h0
  obtain ⟨a1, rfl, rfl, rfl, w1⟩ := open_int Try.underlying3 (hval 1 3 v1 rfl rfl) h1
  obtain ⟨a2, rfl, rfl, rfl, w2⟩ := open_int Try.underlying3 (hval 2 3 v2 rfl rfl) h2
  clear hA0 hval0
  refine (walk W a0 a1 a2 w0 w1 w2).mono fun e W' ⟨he, bel⟩ => ?_
  subst he
  exact ⟨_, rfl, _, _, _, [], _, [], hW', trodAll_mk1 (shut_bool Try.underlying4 _), (trodAll_cons_mk (shut_int Try.underlying3 w0) (trodAll_cons_mk (shut_int Try.underlying3 w1) (trodAll_cons_mk (shut_int Try.underlying3 w2) trodAll_mk0))), rfl, bel.frame _, fun h => by cases h⟩

theorem over : Rows.sessBeginsRow.holds Try.pinned (OpenSpec.ofChange Rows.sessBeginsSpec) :=
  OpenClaim.holds_of_wide 12 Try.f12 rfl rfl rfl rfl rfl rfl rfl ⟨rfl, rfl, rfl, rfl, rfl⟩ rfl rfl rfl rfl rfl (by kernel_rfl) Try.func12 (by kernel_rfl)
    (of_decide_eq_true (by kernel_rfl)) (by unfold Func.isWrapper; first | (rw [if_pos (by decide +kernel)]; kernel_rfl) | (rw [if_neg (by decide +kernel)]; exact ⟨rfl, rfl⟩))
    (fun os started H enc _ => lifted os started H enc)

theorem proved : Rows.SessBeginsSaid := over
#print axioms proved
end Go.Proofs.Ytpecgkkhjkfmmaa.sessBegins
