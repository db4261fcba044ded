/- For all leases, every TTL, every Id and every time the law LeaseGrants answers true: Grant, Keep, May and Has answer what the document asks. No condition. -/
import Derived.Test.YtelepkofhdjagabLsOpen
import Derived.Test.YtelepkofhdjagabLsLive
import Derived.Test.YtelepkofhdjagabLsMayR
import Derived.Test.YtelepkofhdjagabLsGrantR
import Derived.Test.YtelepkofhdjagabLsKeepR
import Derived.Test.YtelepkofhdjagabLsStopR
import Derived.Test.YtelepkofhdjagabRows
namespace Go.Proofs.Ytelepkofhdjagab.leaseGrants
open Go.ChangeShapes Go.WideShapes Go.ChangeAt Go.RowKit Go.Proofs.Ytelepkofhdjagab.P
open Go.ChangeMaps (open_string shut_string)
set_option linter.unusedVariables false
set_option linter.unusedSimpArgs false
set_option maxHeartbeats 1000000
set_option maxRecDepth 100000

theorem small_out {s : Ls} (h : smallB s = true) : s.l.length ≤ 20 ∧ smallT s := by
  unfold smallB at h
  rw [Bool.and_eq_true] at h
  exact ⟨of_decide_eq_true h.2, fun x hx => of_decide_eq_true (List.all_eq_true.1 h.1 x hx)⟩
theorem grant_len (s : Ls) (ttl now : Int) : (grantS s ttl now).l.length ≤ s.l.length + 1 := by
  unfold grantS; split <;> simp
theorem keep_len (s : Ls) (id now : Int) : (keepS s id now).l.length = s.l.length := by
  unfold keepS; repeat' split
  all_goals simp
theorem walk (w : World) (s0 : Ls) (A0 : Option Addr) (n0 c0 : Nat) (a1 b1 a2 : Int) (k0 : LsAt w s0 A0 n0 c0) (w1 : (Lit.int .i64 a1).wf = true) (u1 : (Lit.int .i64 b1).wf = true) (w2 : (Lit.int .i64 a2).wf = true) :
    Calls Try.prog 3 #[s0.agg A0 n0 c0, .agg #[.int .i64 a1, .int .i64 b1], .int .i64 a2] w fun e w' => e = .returned (.bool true) ∧ Below w.heap.size w w' := by
  cases hs : smallB s0 with
  | false =>
    have HS := Lib.hid hs; clear hs
    have K_0 := Lib.hid (k0.keep (then_ (new1 w (.cells #[.int .i64 s0.next, .slice A0 n0 c0] 24)) (new1 _ (.cells #[.int .i64 a1, .int .i64 b1] 25))))
    have X_0 := Lib.hid ((own_new w #[.int .i64 s0.next, .slice A0 n0 c0] 24).alloc (.cells #[.int .i64 a1, .int .i64 b1] 25))
    have Y_0 := Lib.hid (own_new2 w (.cells #[.int .i64 s0.next, .slice A0 n0 c0] 24) #[.int .i64 a1, .int .i64 b1] 25)
    have B_0 := Lib.hid (then_ (new1 w (.cells #[.int .i64 s0.next, .slice A0 n0 c0] 24)) (new1 _ (.cells #[.int .i64 a1, .int .i64 b1] 25)))
    clear k0
    go_enter Try.func3, Try.ntmps3
    have x0 := X_0.out.cell 0 _ rfl
    have x1 := X_0.out.cell 1 _ rfl
    go_wp2_with fail
    refine (bounded_any s0 A0 n0 c0 _ K_0.out).mono ?_; rintro e w1 ⟨rfl, hb⟩
    rw [HS.out]
    have S_1 := Lib.hid hb; clear hb
    have K_2 := Lib.hid (K_0.out.keep S_1.out)
    have X_3 := Lib.hid (X_0.out.below S_1.out)
    have Y_4 := Lib.hid (Y_0.out.below S_1.out)
    have B_5 := Lib.hid (then_ B_0.out S_1.out)
    clear K_0 X_0 Y_0 B_0
    clear S_1
    clear x0 x1
    go_wp2_with fail
    refine (live_any _).mono ?_; rintro e w2 ⟨rfl, hb⟩
    have S_6 := Lib.hid hb; clear hb
    have K_7 := Lib.hid (K_2.out.keep S_6.out)
    have X_8 := Lib.hid (X_3.out.below S_6.out)
    have Y_9 := Lib.hid (Y_4.out.below S_6.out)
    have B_10 := Lib.hid (then_ B_5.out S_6.out)
    clear K_2 X_3 Y_4 B_5
    clear S_6
    go_wp2
    go_ret
    exact ⟨rfl, B_10.out⟩
  | true =>
    have HS := Lib.hid hs
    obtain ⟨hl20, hsmall⟩ := small_out hs
    have HSM := Lib.hid hsmall
    have hn0 := k0.row.row.len
    clear hs hsmall
    have K_0 := Lib.hid (k0.keep (then_ (new1 w (.cells #[.int .i64 s0.next, .slice A0 n0 c0] 24)) (new1 _ (.cells #[.int .i64 a1, .int .i64 b1] 25))))
    have X_0 := Lib.hid ((own_new w #[.int .i64 s0.next, .slice A0 n0 c0] 24).alloc (.cells #[.int .i64 a1, .int .i64 b1] 25))
    have Y_0 := Lib.hid (own_new2 w (.cells #[.int .i64 s0.next, .slice A0 n0 c0] 24) #[.int .i64 a1, .int .i64 b1] 25)
    have B_0 := Lib.hid (then_ (new1 w (.cells #[.int .i64 s0.next, .slice A0 n0 c0] 24)) (new1 _ (.cells #[.int .i64 a1, .int .i64 b1] 25)))
    clear k0
    go_enter Try.func3, Try.ntmps3
    have x0 := X_0.out.cell 0 _ rfl
    have x1 := X_0.out.cell 1 _ rfl
    go_wp2_with fail
    refine (bounded_any s0 A0 n0 c0 _ K_0.out).mono ?_; rintro e w1 ⟨rfl, hb⟩
    rw [HS.out]
    have S_1 := Lib.hid hb; clear hb
    have K_2 := Lib.hid (K_0.out.keep S_1.out)
    have X_3 := Lib.hid (X_0.out.below S_1.out)
    have Y_4 := Lib.hid (Y_0.out.below S_1.out)
    have B_5 := Lib.hid (then_ B_0.out S_1.out)
    clear K_0 X_0 Y_0 B_0
    clear S_1
    clear x0 x1
    have x0 := X_3.out.cell 0 _ rfl
    have x1 := X_3.out.cell 1 _ rfl
    have y0 := Y_4.out.cell 0 _ rfl
    have y1 := Y_4.out.cell 1 _ rfl
    go_wp2_with fail
    refine (grant_any s0 A0 n0 c0 a1 a2 _ K_2.out (by omega)).mono ?_; rintro e w2 ⟨A1, n1, c1, rfl, h1, hb⟩
    have S_6 := Lib.hid hb; clear hb
    have K_7 := Lib.hid (K_2.out.keep S_6.out)
    have X_8 := Lib.hid (X_3.out.below S_6.out)
    have Y_9 := Lib.hid (Y_4.out.below S_6.out)
    have B_10 := Lib.hid (then_ B_5.out S_6.out)
    clear K_2 X_3 Y_4 B_5
    clear S_6
    have L1_11 := Lib.hid (h1)
    clear h1
    have K_12 := Lib.hid (K_7.out.keep (new1 w2 (.cells #[.int .i64 (grantS s0 a1 a2).next, .slice A1 n1 c1] 24)))
    have X_13 := Lib.hid (X_8.out.below (new1 w2 (.cells #[.int .i64 (grantS s0 a1 a2).next, .slice A1 n1 c1] 24)))
    have Y_14 := Lib.hid (Y_9.out.below (new1 w2 (.cells #[.int .i64 (grantS s0 a1 a2).next, .slice A1 n1 c1] 24)))
    have L1_15 := Lib.hid (L1_11.out.keep (new1 w2 (.cells #[.int .i64 (grantS s0 a1 a2).next, .slice A1 n1 c1] 24)))
    have B_16 := Lib.hid (then_ B_10.out (new1 w2 (.cells #[.int .i64 (grantS s0 a1 a2).next, .slice A1 n1 c1] 24)))
    clear K_7 X_8 Y_9 L1_11 B_10
    have R1_17 := Lib.hid (own_new w2 #[.int .i64 (grantS s0 a1 a2).next, .slice A1 n1 c1] 24)
    clear x0 x1
    clear y0 y1
    have x0 := X_13.out.cell 0 _ rfl
    have x1 := X_13.out.cell 1 _ rfl
    have y0 := Y_14.out.cell 0 _ rfl
    have y1 := Y_14.out.cell 1 _ rfl
    go_wp2_with fail
    refine (grant_ref s0 A0 n0 c0 a1 a2 _ K_12.out (by omega)).mono ?_; rintro e w3 ⟨A2, n2, c2, rfl, h2, hb⟩
    obtain rfl : n2 = n1 := h2.row.row.len.symm.trans L1_15.out.row.row.len
    have S_18 := Lib.hid hb; clear hb
    have K_19 := Lib.hid (K_12.out.keep S_18.out)
    have X_20 := Lib.hid (X_13.out.below S_18.out)
    have Y_21 := Lib.hid (Y_14.out.below S_18.out)
    have L1_22 := Lib.hid (L1_15.out.keep S_18.out)
    have R1_23 := Lib.hid (R1_17.out.below S_18.out)
    have B_24 := Lib.hid (then_ B_16.out S_18.out)
    clear K_12 X_13 Y_14 L1_15 R1_17 B_16
    clear S_18
    have L2_25 := Lib.hid (h2)
    clear h2
    have K_26 := Lib.hid (K_19.out.keep (new1 w3 (.cells #[.int .i64 (grantS s0 a1 a2).next, .slice A2 n2 c2] 24)))
    have X_27 := Lib.hid (X_20.out.below (new1 w3 (.cells #[.int .i64 (grantS s0 a1 a2).next, .slice A2 n2 c2] 24)))
    have Y_28 := Lib.hid (Y_21.out.below (new1 w3 (.cells #[.int .i64 (grantS s0 a1 a2).next, .slice A2 n2 c2] 24)))
    have L1_29 := Lib.hid (L1_22.out.keep (new1 w3 (.cells #[.int .i64 (grantS s0 a1 a2).next, .slice A2 n2 c2] 24)))
    have R1_30 := Lib.hid (R1_23.out.below (new1 w3 (.cells #[.int .i64 (grantS s0 a1 a2).next, .slice A2 n2 c2] 24)))
    have L2_31 := Lib.hid (L2_25.out.keep (new1 w3 (.cells #[.int .i64 (grantS s0 a1 a2).next, .slice A2 n2 c2] 24)))
    have B_32 := Lib.hid (then_ B_24.out (new1 w3 (.cells #[.int .i64 (grantS s0 a1 a2).next, .slice A2 n2 c2] 24)))
    clear K_19 X_20 Y_21 L1_22 R1_23 L2_25 B_24
    have R2_33 := Lib.hid (own_new w3 #[.int .i64 (grantS s0 a1 a2).next, .slice A2 n2 c2] 24)
    clear x0 x1
    clear y0 y1
    have x0 := X_27.out.cell 0 _ rfl
    have x1 := X_27.out.cell 1 _ rfl
    have y0 := Y_28.out.cell 0 _ rfl
    have y1 := Y_28.out.cell 1 _ rfl
    go_wp2_with fail
    refine (keep_any s0 A0 n0 c0 b1 a2 _ K_26.out (by omega) HSM.out).mono ?_; rintro e w4 ⟨A3, n3, c3, rfl, h3, hb⟩
    have S_34 := Lib.hid hb; clear hb
    have K_35 := Lib.hid (K_26.out.keep S_34.out)
    have X_36 := Lib.hid (X_27.out.below S_34.out)
    have Y_37 := Lib.hid (Y_28.out.below S_34.out)
    have L1_38 := Lib.hid (L1_29.out.keep S_34.out)
    have R1_39 := Lib.hid (R1_30.out.below S_34.out)
    have L2_40 := Lib.hid (L2_31.out.keep S_34.out)
    have R2_41 := Lib.hid (R2_33.out.below S_34.out)
    have B_42 := Lib.hid (then_ B_32.out S_34.out)
    clear K_26 X_27 Y_28 L1_29 R1_30 L2_31 R2_33 B_32
    clear S_34
    have L3_43 := Lib.hid (h3)
    clear h3
    have K_44 := Lib.hid (K_35.out.keep (new1 w4 (.cells #[.int .i64 (keepS s0 b1 a2).next, .slice A3 n3 c3] 24)))
    have X_45 := Lib.hid (X_36.out.below (new1 w4 (.cells #[.int .i64 (keepS s0 b1 a2).next, .slice A3 n3 c3] 24)))
    have Y_46 := Lib.hid (Y_37.out.below (new1 w4 (.cells #[.int .i64 (keepS s0 b1 a2).next, .slice A3 n3 c3] 24)))
    have L1_47 := Lib.hid (L1_38.out.keep (new1 w4 (.cells #[.int .i64 (keepS s0 b1 a2).next, .slice A3 n3 c3] 24)))
    have R1_48 := Lib.hid (R1_39.out.below (new1 w4 (.cells #[.int .i64 (keepS s0 b1 a2).next, .slice A3 n3 c3] 24)))
    have L2_49 := Lib.hid (L2_40.out.keep (new1 w4 (.cells #[.int .i64 (keepS s0 b1 a2).next, .slice A3 n3 c3] 24)))
    have R2_50 := Lib.hid (R2_41.out.below (new1 w4 (.cells #[.int .i64 (keepS s0 b1 a2).next, .slice A3 n3 c3] 24)))
    have L3_51 := Lib.hid (L3_43.out.keep (new1 w4 (.cells #[.int .i64 (keepS s0 b1 a2).next, .slice A3 n3 c3] 24)))
    have B_52 := Lib.hid (then_ B_42.out (new1 w4 (.cells #[.int .i64 (keepS s0 b1 a2).next, .slice A3 n3 c3] 24)))
    clear K_35 X_36 Y_37 L1_38 R1_39 L2_40 R2_41 L3_43 B_42
    have R3_53 := Lib.hid (own_new w4 #[.int .i64 (keepS s0 b1 a2).next, .slice A3 n3 c3] 24)
    clear x0 x1
    clear y0 y1
    have x0 := X_45.out.cell 0 _ rfl
    have x1 := X_45.out.cell 1 _ rfl
    have y0 := Y_46.out.cell 0 _ rfl
    have y1 := Y_46.out.cell 1 _ rfl
    go_wp2_with fail
    refine (keep_ref s0 A0 n0 c0 b1 a2 _ K_44.out (by omega) HSM.out).mono ?_; rintro e w5 ⟨A4, n4, c4, rfl, h4, hb⟩
    obtain rfl : n4 = n3 := h4.row.row.len.symm.trans L3_51.out.row.row.len
    have S_54 := Lib.hid hb; clear hb
    have K_55 := Lib.hid (K_44.out.keep S_54.out)
    have X_56 := Lib.hid (X_45.out.below S_54.out)
    have Y_57 := Lib.hid (Y_46.out.below S_54.out)
    have L1_58 := Lib.hid (L1_47.out.keep S_54.out)
    have R1_59 := Lib.hid (R1_48.out.below S_54.out)
    have L2_60 := Lib.hid (L2_49.out.keep S_54.out)
    have R2_61 := Lib.hid (R2_50.out.below S_54.out)
    have L3_62 := Lib.hid (L3_51.out.keep S_54.out)
    have R3_63 := Lib.hid (R3_53.out.below S_54.out)
    have B_64 := Lib.hid (then_ B_52.out S_54.out)
    clear K_44 X_45 Y_46 L1_47 R1_48 L2_49 R2_50 L3_51 R3_53 B_52
    clear S_54
    have L4_65 := Lib.hid (h4)
    clear h4
    have K_66 := Lib.hid (K_55.out.keep (new1 w5 (.cells #[.int .i64 (keepS s0 b1 a2).next, .slice A4 n4 c4] 24)))
    have X_67 := Lib.hid (X_56.out.below (new1 w5 (.cells #[.int .i64 (keepS s0 b1 a2).next, .slice A4 n4 c4] 24)))
    have Y_68 := Lib.hid (Y_57.out.below (new1 w5 (.cells #[.int .i64 (keepS s0 b1 a2).next, .slice A4 n4 c4] 24)))
    have L1_69 := Lib.hid (L1_58.out.keep (new1 w5 (.cells #[.int .i64 (keepS s0 b1 a2).next, .slice A4 n4 c4] 24)))
    have R1_70 := Lib.hid (R1_59.out.below (new1 w5 (.cells #[.int .i64 (keepS s0 b1 a2).next, .slice A4 n4 c4] 24)))
    have L2_71 := Lib.hid (L2_60.out.keep (new1 w5 (.cells #[.int .i64 (keepS s0 b1 a2).next, .slice A4 n4 c4] 24)))
    have R2_72 := Lib.hid (R2_61.out.below (new1 w5 (.cells #[.int .i64 (keepS s0 b1 a2).next, .slice A4 n4 c4] 24)))
    have L3_73 := Lib.hid (L3_62.out.keep (new1 w5 (.cells #[.int .i64 (keepS s0 b1 a2).next, .slice A4 n4 c4] 24)))
    have R3_74 := Lib.hid (R3_63.out.below (new1 w5 (.cells #[.int .i64 (keepS s0 b1 a2).next, .slice A4 n4 c4] 24)))
    have L4_75 := Lib.hid (L4_65.out.keep (new1 w5 (.cells #[.int .i64 (keepS s0 b1 a2).next, .slice A4 n4 c4] 24)))
    have B_76 := Lib.hid (then_ B_64.out (new1 w5 (.cells #[.int .i64 (keepS s0 b1 a2).next, .slice A4 n4 c4] 24)))
    clear K_55 X_56 Y_57 L1_58 R1_59 L2_60 R2_61 L3_62 R3_63 L4_65 B_64
    have R4_77 := Lib.hid (own_new w5 #[.int .i64 (keepS s0 b1 a2).next, .slice A4 n4 c4] 24)
    clear x0 x1
    clear y0 y1
    have hn2 : n2 ≤ 1000000 := by have h1 := L2_71.out.row.row.len; have h2 := grant_len s0 a1 a2; omega
    have hn4 : n4 ≤ 1000000 := by have h1 := L4_75.out.row.row.len; have h2 := keep_len s0 b1 a2; omega
    have e1 : (grantI s0 a1 a2 == grantI s0 a1 a2) = true := by simp
    have e2 : (grantE s0 a1 a2 == grantE s0 a1 a2) = true := by simp
    have e3 : (keepT s0 b1 a2 == keepT s0 b1 a2) = true := by simp
    have e4 : (keepE s0 b1 a2 == keepE s0 b1 a2) = true := by simp
    have e5 : (mayL s0 == mayL s0) = true := by simp
    have e6 : (hasL s0 b1 == hasL s0 b1) = true := by simp
    have x0 := fun d os => cell_regrown (X_67.out.cell 0 _ rfl) d os
    have x1 := fun d os => cell_regrown (X_67.out.cell 1 _ rfl) d os
    have y0 := fun d os => cell_regrown (Y_68.out.cell 0 _ rfl) d os
    have y1 := fun d os => cell_regrown (Y_68.out.cell 1 _ rfl) d os
    have r10 := fun d os => cell_regrown (R1_70.out.cell 0 _ rfl) d os
    have r11 := fun d os => cell_regrown (R1_70.out.cell 1 _ rfl) d os
    have r20 := fun d os => cell_regrown (R2_72.out.cell 0 _ rfl) d os
    have r21 := fun d os => cell_regrown (R2_72.out.cell 1 _ rfl) d os
    have r30 := fun d os => cell_regrown (R3_74.out.cell 0 _ rfl) d os
    have r31 := fun d os => cell_regrown (R3_74.out.cell 1 _ rfl) d os
    have r40 := fun d os => cell_regrown (R4_77.out.cell 0 _ rfl) d os
    have r41 := fun d os => cell_regrown (R4_77.out.cell 1 _ rfl) d os
    have cS1 := fun d os => Calls.regrown_of (d := d) (os := os) (w := w5.alloc (.cells #[.int .i64 (keepS s0 b1 a2).next, .slice A4 n4 c4] 24)) (ls_same (grantS s0 a1 a2) A1 A2 n2 c1 c2 _ (L1_69.out.keep (below_regrown _ d os)) (L2_71.out.keep (below_regrown _ d os)) hn2)
    have cS2 := fun d os => Calls.regrown_of (d := d) (os := os) (w := w5.alloc (.cells #[.int .i64 (keepS s0 b1 a2).next, .slice A4 n4 c4] 24)) (ls_same (keepS s0 b1 a2) A3 A4 n4 c3 c4 _ (L3_73.out.keep (below_regrown _ d os)) (L4_75.out.keep (below_regrown _ d os)) hn4)
    have cM := fun d os => Calls.regrown_of (d := d) (os := os) (w := w5.alloc (.cells #[.int .i64 (keepS s0 b1 a2).next, .slice A4 n4 c4] 24)) (lmay_any s0 A0 n0 c0 _ (K_66.out.keep (below_regrown _ d os)))
    have cR := fun d os => Calls.regrown_of (d := d) (os := os) (w := w5.alloc (.cells #[.int .i64 (keepS s0 b1 a2).next, .slice A4 n4 c4] 24)) (lmay_ref s0 A0 n0 c0 _ (K_66.out.keep (below_regrown _ d os)))
    have cH := fun d os => Calls.regrown_of (d := d) (os := os) (w := w5.alloc (.cells #[.int .i64 (keepS s0 b1 a2).next, .slice A4 n4 c4] 24)) (has_any s0 A0 n0 c0 b1 _ (K_66.out.keep (below_regrown _ d os)))
    have cG := fun d os => Calls.regrown_of (d := d) (os := os) (w := w5.alloc (.cells #[.int .i64 (keepS s0 b1 a2).next, .slice A4 n4 c4] 24)) (has_ref s0 A0 n0 c0 b1 _ (K_66.out.keep (below_regrown _ d os)))
    have cL := fun d os => Calls.regrown_of (d := d) (os := os) (w := w5.alloc (.cells #[.int .i64 (keepS s0 b1 a2).next, .slice A4 n4 c4] 24)) (live_any _)
    go_wp2
    refine wp_region_quiet_below (by kernel_rfl) (by kernel_rfl) ?_
    repeat (go_big_quiet_step (first | (with_reducible exact cS1 _ _) | (with_reducible exact cS2 _ _) | (with_reducible exact cM _ _) | (with_reducible exact cR _ _) | (with_reducible exact cH _ _) | (with_reducible exact cG _ _) | (with_reducible exact cL _ _)))
    refine wpQuiet_nil ?_
    intro _ hw'
    obtain ⟨⟨d, os⟩, rfl⟩ := hw'
    go_wp2
    go_ret
    exact ⟨rfl, below_grow B_76.out B_76.out.size _ _⟩

theorem own : ownKnob Try.prog.godebug = none := by kernel_rfl
theorem laidOut : laidOutB Try.prog = true := by kernel_rfl

set_option maxRecDepth 100000 in
theorem lifted (os : Os) (started : os.Started) (H : Type) (enc : TypeId × Value → H) :
    ReturnsInHanded {} Try.checked os 3 .any (Rows.leaseGrantsSpec.pre6 enc Try.prog Try.f3 Rows.leaseGrantsRow.domain false) (Rows.leaseGrantsSpec.post enc Try.prog Try.f3 false true false false) := by
  refine returnsInHanded_of_change (C := Try.checked) own started (by kernel_rfl) Try.func3
    (ChangeSpec.witness6 (enc := enc) (C := Try.checked) false ⟨#[], #[.agg #[.int .i64 0, .slice none 0 0], .agg #[.int .i64 0, .int .i64 0], (.int .i64 0)], []⟩ 8 (by kernel_rfl) (by kernel_rfl) (by kernel_rfl) (by kernel_rfl)) ?_
  intro W base args ds gs before hval0 hW hcnd _
  have hval : ∀ (j : Nat) t v, Try.f3.params[j]? = some t → args[j]? = some v → Value.okWide Try.prog W .any base t v := hval0
  have hW' := hW
  obtain ⟨p, q, hA0, hV, rfl, hfz, hnd⟩ := hW
  have hA : DataW.TrodAll enc Try.prog W 0 (fun _ => true) true Try.f3.params.toList args.toList ds p := hA0
  rw [Try.params3] at hA hval
  obtain ⟨v0, vs0, d0, ds0, p0, q0, hargs, rfl, rfl, h0, r0⟩ := trodAll_cons hA
  obtain ⟨v1, vs1, d1, ds1, p1, q1, rfl, rfl, rfl, h1, r1⟩ := trodAll_cons r0
  obtain ⟨v2, vs2, d2, ds2, p2, q2, rfl, rfl, rfl, h2, r2⟩ := trodAll_cons r1
  obtain ⟨rfl, rfl, rfl⟩ := trodAll_nil r2
  obtain rfl : args = #[v0, v1, v2] := by cases args; simp_all
  obtain ⟨rfl, rfl⟩ := trodVars_none hV
  obtain ⟨s0, A0, n0, c0, rfl, k0⟩ := open_ls (hval 0 24 v0 rfl rfl) h0
  obtain ⟨a1, b1, rfl, rfl, rfl, w1, u1⟩ := open_two_int Try.underlying25 Try.underlying3 (by kernel_rfl) (by kernel_rfl) (hval 1 25 v1 rfl rfl) h1
  obtain ⟨a2, rfl, rfl, rfl, w2⟩ := open_int Try.underlying3 (hval 2 3 v2 rfl rfl) h2
  clear hA0 hval0
  refine (walk W s0 A0 n0 c0 a1 b1 a2 k0 w1 u1 w2).mono fun e W' ⟨he, bel⟩ => ?_
  subst he
  exact ⟨_, rfl, _, _, _, [], _, [], hW', trodAll_mk1 (shut_bool Try.underlying4 _), (trodAll_cons_mk (Below.trod laidOut (by kernel_rfl) (of_decide_eq_true (by kernel_rfl)) h0 bel (fun x hx => hW'.lt x (by simp [hx]))) (trodAll_cons_mk (shut_two_int Try.underlying25 Try.underlying3 (by kernel_rfl) (by kernel_rfl) w1 u1) (trodAll_cons_mk (shut_int Try.underlying3 w2) trodAll_mk0))), rfl, bel.frame _, fun h => by cases h⟩

theorem over : Rows.leaseGrantsRow.holds Try.pinned (OpenSpec.ofChange Rows.leaseGrantsSpec) :=
  OpenClaim.holds_of_wide 3 Try.f3 rfl rfl rfl rfl rfl rfl rfl ⟨rfl, rfl, rfl, rfl, rfl⟩ rfl rfl rfl rfl rfl (by kernel_rfl) Try.func3 (by kernel_rfl)
    (of_decide_eq_true (by kernel_rfl)) (by unfold Func.isWrapper; first | (rw [if_pos (by decide +kernel)]; kernel_rfl) | (rw [if_neg (by decide +kernel)]; exact ⟨rfl, rfl⟩))
    (fun os started H enc _ => lifted os started H enc)

theorem proved : Rows.LeaseGrantsSaid := over
#print axioms proved
end Go.Proofs.Ytelepkofhdjagab.leaseGrants
