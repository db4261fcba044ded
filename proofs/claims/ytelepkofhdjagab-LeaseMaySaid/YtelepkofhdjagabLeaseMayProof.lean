/- For all leases, every TTL, every Id and every time the law LeaseMay answers true: of leases that may be come leases that may be; an error changes nothing. No condition. -/
import Derived.Test.YtelepkofhdjagabLsOpen
import Derived.Test.YtelepkofhdjagabLsLive
import Derived.Test.YtelepkofhdjagabLsMayR
import Derived.Test.YtelepkofhdjagabLsGrantR
import Derived.Test.YtelepkofhdjagabLsKeepR
import Derived.Test.YtelepkofhdjagabLsStopR
import Derived.Test.YtelepkofhdjagabRows
namespace Go.Proofs.Ytelepkofhdjagab.leaseMay
open Go.ChangeShapes Go.WideShapes Go.ChangeAt Go.RowKit Go.Proofs.Ytelepkofhdjagab.P
open Go.ChangeMaps (open_string shut_string)
set_option linter.unusedVariables false
set_option linter.unusedSimpArgs false
set_option maxHeartbeats 4000000
set_option maxRecDepth 100000

theorem grant_len (s : Ls) (ttl now : Int) : (grantS s ttl now).l.length ≤ s.l.length + 1 := by
  unfold grantS; split <;> simp
theorem keep_len (s : Ls) (id now : Int) : (keepS s id now).l.length = s.l.length := by
  unfold keepS; repeat' split
  all_goals simp
theorem end_len (s : Ls) (id : Int) : (endS s id).l.length ≤ s.l.length := by
  unfold endS; split
  · simp; omega
  · exact Nat.le_refl _
theorem no_way (w : World) (s0 : Ls) (A0 : Option Addr) (n0 c0 : Nat) (a1 b1 a2 : Int) (k0 : LsAt w s0 A0 n0 c0) (w1 : (Lit.int .i64 a1).wf = true) (u1 : (Lit.int .i64 b1).wf = true) (w2 : (Lit.int .i64 a2).wf = true) (hm : mayL s0 = false) :
    Calls Try.prog 5 #[s0.agg A0 n0 c0, .agg #[.int .i64 a1, .int .i64 b1], .int .i64 a2] w fun e w' => e = .returned (.bool true) ∧ Below w.heap.size w w' := by
  have HM := Lib.hid hm; clear hm
  have K_0 := Lib.hid (k0.keep (then_ (new1 w (.cells #[.int .i64 s0.next, .slice A0 n0 c0] 24)) (new1 _ (.cells #[.int .i64 a1, .int .i64 b1] 25))))
  have X_0 := Lib.hid ((own_new w #[.int .i64 s0.next, .slice A0 n0 c0] 24).alloc (.cells #[.int .i64 a1, .int .i64 b1] 25))
  have Y_0 := Lib.hid (own_new2 w (.cells #[.int .i64 s0.next, .slice A0 n0 c0] 24) #[.int .i64 a1, .int .i64 b1] 25)
  have B_0 := Lib.hid (then_ (new1 w (.cells #[.int .i64 s0.next, .slice A0 n0 c0] 24)) (new1 _ (.cells #[.int .i64 a1, .int .i64 b1] 25)))
  clear k0
  go_enter Try.func5, Try.ntmps5
  have x0 := X_0.out.cell 0 _ rfl
  have x1 := X_0.out.cell 1 _ rfl
  go_wp2_with fail
  refine (lmay_any s0 A0 n0 c0 _ K_0.out).mono ?_; rintro e w1 ⟨rfl, hb⟩
  rw [HM.out]
  have S_1 := Lib.hid hb; clear hb
  have K_2 := Lib.hid (K_0.out.keep S_1.out)
  have X_3 := Lib.hid (X_0.out.below S_1.out)
  have Y_4 := Lib.hid (Y_0.out.below S_1.out)
  have B_5 := Lib.hid (then_ B_0.out S_1.out)
  clear K_0 X_0 Y_0 B_0
  clear S_1
  clear x0 x1
  have e5 : (mayL s0 == mayL s0) = true := by simp
  have x0 := fun d os => cell_regrown (X_3.out.cell 0 _ rfl) d os
  have x1 := fun d os => cell_regrown (X_3.out.cell 1 _ rfl) d os
  have y0 := fun d os => cell_regrown (Y_4.out.cell 0 _ rfl) d os
  have y1 := fun d os => cell_regrown (Y_4.out.cell 1 _ rfl) d os
  have cM := fun d os => Calls.regrown_of (d := d) (os := os) (w := w1) (lmay_any s0 A0 n0 c0 _ (K_2.out.keep (below_regrown _ d os)))
  have cR := fun d os => Calls.regrown_of (d := d) (os := os) (w := w1) (lmay_ref s0 A0 n0 c0 _ (K_2.out.keep (below_regrown _ d os)))
  have cL := fun d os => Calls.regrown_of (d := d) (os := os) (w := w1) (live_any _)
  go_wp2
  refine wp_region_quiet_below (by kernel_rfl) (by kernel_rfl) ?_
  repeat (go_big_quiet_step (first | (with_reducible exact cM _ _) | (with_reducible exact cR _ _) | (with_reducible exact cL _ _)))
  refine wpQuiet_nil ?_
  intro _ hw'
  obtain ⟨⟨d, os⟩, rfl⟩ := hw'
  go_wp2
  go_ret
  exact ⟨rfl, below_grow B_5.out B_5.out.size _ _⟩
theorem go_ok_in (w : World) (s0 : Ls) (A0 : Option Addr) (n0 c0 : Nat) (a1 b1 a2 : Int) (k0 : LsAt w s0 A0 n0 c0) (w1 : (Lit.int .i64 a1).wf = true) (u1 : (Lit.int .i64 b1).wf = true) (w2 : (Lit.int .i64 a2).wf = true) (hm : mayL s0 = true) (hd : grantE s0 a1 a2 = 0) (hh : hasL s0 b1 = true) (hat : 0 ≤ a2 ∧ a2 ≤ 1099511627775) :
    Calls Try.prog 5 #[s0.agg A0 n0 c0, .agg #[.int .i64 a1, .int .i64 b1], .int .i64 a2] w fun e w' => e = .returned (.bool true) ∧ Below w.heap.size w w' := by
  have HM := Lib.hid hm
  have MS := Lib.hid ((mayL_iff s0).1 hm)
  have hlo := MS.out.lo
  have hhi := MS.out.hi
  have hl8 := MS.out.len
  have hn0 := k0.row.row.len
  have HSM : Hid (smallT s0) := Lib.hid (fun x hx => by have := okLe_iff.1 (MS.out.ok x hx); omega)
  have M1 : Hid (mayL (grantS s0 a1 a2) = true) := Lib.hid ((mayL_iff _).2 (MS.out.grant a1 a2))
  have M2 : Hid (mayL (keepS s0 b1 a2) = true) := Lib.hid ((mayL_iff _).2 (MS.out.keep b1 a2))
  have M3 : Hid (mayL (endS s0 b1) = true) := Lib.hid ((mayL_iff _).2 (MS.out.drop b1))
  have HH := Lib.hid hh
  have GI := Lib.hid (grant_is hd)
  have hd1 : (grantE s0 a1 a2 == 0) = true := by simp [hd]
  have hd2 : (grantE s0 a1 a2 != 0) = false := by simp [hd]
  have hq1 : (grantI s0 a1 a2 == s0.next + 1) = true := by simp [GI.out.2]
  have G1 : Hid (hasL (grantS s0 a1 a2) (grantI s0 a1 a2) = true) := Lib.hid (by rw [GI.out.2]; exact grant_has hd)
  have G2 : Hid (hasL s0 (grantI s0 a1 a2) = false) := Lib.hid (by rw [GI.out.2]; exact grant_new MS.out)
  have hk : decide (keepE s0 b1 a2 = 0) = true := by rw [keep_has, hh]; simp [atB]; omega
  have hf : decide (endE s0 b1 = 0) = true := by rw [end_has, hh]
  have hk0 : keepE s0 b1 a2 = 0 := of_decide_eq_true hk
  have hk1 : (keepE s0 b1 a2 == 0) = true := by simp [hk0]
  have hk2 : (keepE s0 b1 a2 != 0) = false := by simp [hk0]
  have hf0 : endE s0 b1 = 0 := of_decide_eq_true hf
  have hf1 : (endE s0 b1 == 0) = true := by simp [hf0]
  have hf2 : (endE s0 b1 != 0) = false := by simp [hf0]
  have EG := Lib.hid (end_gone MS.out b1)
  clear hm hd hh hk hf hk0 hf0
  have K_0 := Lib.hid (k0.keep (then_ (new1 w (.cells #[.int .i64 s0.next, .slice A0 n0 c0] 24)) (new1 _ (.cells #[.int .i64 a1, .int .i64 b1] 25))))
  have X_0 := Lib.hid ((own_new w #[.int .i64 s0.next, .slice A0 n0 c0] 24).alloc (.cells #[.int .i64 a1, .int .i64 b1] 25))
  have Y_0 := Lib.hid (own_new2 w (.cells #[.int .i64 s0.next, .slice A0 n0 c0] 24) #[.int .i64 a1, .int .i64 b1] 25)
  have B_0 := Lib.hid (then_ (new1 w (.cells #[.int .i64 s0.next, .slice A0 n0 c0] 24)) (new1 _ (.cells #[.int .i64 a1, .int .i64 b1] 25)))
  clear k0
  go_enter Try.func5, Try.ntmps5
  have x0 := X_0.out.cell 0 _ rfl
  have x1 := X_0.out.cell 1 _ rfl
  go_wp2_with fail
  refine (lmay_any s0 A0 n0 c0 _ K_0.out).mono ?_; rintro e w1 ⟨rfl, hb⟩
  rw [HM.out]
  have S_1 := Lib.hid hb; clear hb
  have K_2 := Lib.hid (K_0.out.keep S_1.out)
  have X_3 := Lib.hid (X_0.out.below S_1.out)
  have Y_4 := Lib.hid (Y_0.out.below S_1.out)
  have B_5 := Lib.hid (then_ B_0.out S_1.out)
  clear K_0 X_0 Y_0 B_0
  clear S_1
  clear x0 x1
  have x0 := X_3.out.cell 0 _ rfl
  have x1 := X_3.out.cell 1 _ rfl
  go_wp2_with fail
  refine (lmay_ref s0 A0 n0 c0 _ K_2.out).mono ?_; rintro e w2 ⟨rfl, hb⟩
  rw [HM.out]
  have S_6 := Lib.hid hb; clear hb
  have K_7 := Lib.hid (K_2.out.keep S_6.out)
  have X_8 := Lib.hid (X_3.out.below S_6.out)
  have Y_9 := Lib.hid (Y_4.out.below S_6.out)
  have B_10 := Lib.hid (then_ B_5.out S_6.out)
  clear K_2 X_3 Y_4 B_5
  clear S_6
  clear x0 x1
  have x0 := X_8.out.cell 0 _ rfl
  have x1 := X_8.out.cell 1 _ rfl
  have y0 := Y_9.out.cell 0 _ rfl
  have y1 := Y_9.out.cell 1 _ rfl
  go_wp2_with fail
  refine (grant_any s0 A0 n0 c0 a1 a2 _ K_7.out (by omega)).mono ?_; rintro e w3 ⟨A1, n1, c1, rfl, h1, hb⟩
  have S_11 := Lib.hid hb; clear hb
  have K_12 := Lib.hid (K_7.out.keep S_11.out)
  have X_13 := Lib.hid (X_8.out.below S_11.out)
  have Y_14 := Lib.hid (Y_9.out.below S_11.out)
  have B_15 := Lib.hid (then_ B_10.out S_11.out)
  clear K_7 X_8 Y_9 B_10
  clear S_11
  have L1_16 := Lib.hid (h1)
  clear h1
  have K_17 := Lib.hid (K_12.out.keep (new1 w3 (.cells #[.int .i64 (grantS s0 a1 a2).next, .slice A1 n1 c1] 24)))
  have X_18 := Lib.hid (X_13.out.below (new1 w3 (.cells #[.int .i64 (grantS s0 a1 a2).next, .slice A1 n1 c1] 24)))
  have Y_19 := Lib.hid (Y_14.out.below (new1 w3 (.cells #[.int .i64 (grantS s0 a1 a2).next, .slice A1 n1 c1] 24)))
  have L1_20 := Lib.hid (L1_16.out.keep (new1 w3 (.cells #[.int .i64 (grantS s0 a1 a2).next, .slice A1 n1 c1] 24)))
  have B_21 := Lib.hid (then_ B_15.out (new1 w3 (.cells #[.int .i64 (grantS s0 a1 a2).next, .slice A1 n1 c1] 24)))
  clear K_12 X_13 Y_14 L1_16 B_15
  have R1_22 := Lib.hid (own_new w3 #[.int .i64 (grantS s0 a1 a2).next, .slice A1 n1 c1] 24)
  clear x0 x1
  clear y0 y1
  have x0 := X_18.out.cell 0 _ rfl
  have x1 := X_18.out.cell 1 _ rfl
  have y0 := Y_19.out.cell 0 _ rfl
  have y1 := Y_19.out.cell 1 _ rfl
  go_wp2_with fail
  refine (keep_any s0 A0 n0 c0 b1 a2 _ K_17.out (by omega) HSM.out).mono ?_; rintro e w4 ⟨A2, n2, c2, rfl, h2, hb⟩
  have S_23 := Lib.hid hb; clear hb
  have K_24 := Lib.hid (K_17.out.keep S_23.out)
  have X_25 := Lib.hid (X_18.out.below S_23.out)
  have Y_26 := Lib.hid (Y_19.out.below S_23.out)
  have L1_27 := Lib.hid (L1_20.out.keep S_23.out)
  have R1_28 := Lib.hid (R1_22.out.below S_23.out)
  have B_29 := Lib.hid (then_ B_21.out S_23.out)
  clear K_17 X_18 Y_19 L1_20 R1_22 B_21
  clear S_23
  have L2_30 := Lib.hid (h2)
  clear h2
  have K_31 := Lib.hid (K_24.out.keep (new1 w4 (.cells #[.int .i64 (keepS s0 b1 a2).next, .slice A2 n2 c2] 24)))
  have X_32 := Lib.hid (X_25.out.below (new1 w4 (.cells #[.int .i64 (keepS s0 b1 a2).next, .slice A2 n2 c2] 24)))
  have Y_33 := Lib.hid (Y_26.out.below (new1 w4 (.cells #[.int .i64 (keepS s0 b1 a2).next, .slice A2 n2 c2] 24)))
  have L1_34 := Lib.hid (L1_27.out.keep (new1 w4 (.cells #[.int .i64 (keepS s0 b1 a2).next, .slice A2 n2 c2] 24)))
  have R1_35 := Lib.hid (R1_28.out.below (new1 w4 (.cells #[.int .i64 (keepS s0 b1 a2).next, .slice A2 n2 c2] 24)))
  have L2_36 := Lib.hid (L2_30.out.keep (new1 w4 (.cells #[.int .i64 (keepS s0 b1 a2).next, .slice A2 n2 c2] 24)))
  have B_37 := Lib.hid (then_ B_29.out (new1 w4 (.cells #[.int .i64 (keepS s0 b1 a2).next, .slice A2 n2 c2] 24)))
  clear K_24 X_25 Y_26 L1_27 R1_28 L2_30 B_29
  have R2_38 := Lib.hid (own_new w4 #[.int .i64 (keepS s0 b1 a2).next, .slice A2 n2 c2] 24)
  clear x0 x1
  clear y0 y1
  have x0 := X_32.out.cell 0 _ rfl
  have x1 := X_32.out.cell 1 _ rfl
  have y0 := Y_33.out.cell 0 _ rfl
  have y1 := Y_33.out.cell 1 _ rfl
  go_wp2_with fail
  refine (end_any s0 A0 n0 c0 b1 _ K_31.out (by omega)).mono ?_; rintro e w5 ⟨A3, n3, c3, rfl, h3, hb⟩
  have S_39 := Lib.hid hb; clear hb
  have K_40 := Lib.hid (K_31.out.keep S_39.out)
  have X_41 := Lib.hid (X_32.out.below S_39.out)
  have Y_42 := Lib.hid (Y_33.out.below S_39.out)
  have L1_43 := Lib.hid (L1_34.out.keep S_39.out)
  have R1_44 := Lib.hid (R1_35.out.below S_39.out)
  have L2_45 := Lib.hid (L2_36.out.keep S_39.out)
  have R2_46 := Lib.hid (R2_38.out.below S_39.out)
  have B_47 := Lib.hid (then_ B_37.out S_39.out)
  clear K_31 X_32 Y_33 L1_34 R1_35 L2_36 R2_38 B_37
  clear S_39
  have L3_48 := Lib.hid (h3)
  clear h3
  have K_49 := Lib.hid (K_40.out.keep (new1 w5 (.cells #[.int .i64 (endS s0 b1).next, .slice A3 n3 c3] 24)))
  have X_50 := Lib.hid (X_41.out.below (new1 w5 (.cells #[.int .i64 (endS s0 b1).next, .slice A3 n3 c3] 24)))
  have Y_51 := Lib.hid (Y_42.out.below (new1 w5 (.cells #[.int .i64 (endS s0 b1).next, .slice A3 n3 c3] 24)))
  have L1_52 := Lib.hid (L1_43.out.keep (new1 w5 (.cells #[.int .i64 (endS s0 b1).next, .slice A3 n3 c3] 24)))
  have R1_53 := Lib.hid (R1_44.out.below (new1 w5 (.cells #[.int .i64 (endS s0 b1).next, .slice A3 n3 c3] 24)))
  have L2_54 := Lib.hid (L2_45.out.keep (new1 w5 (.cells #[.int .i64 (endS s0 b1).next, .slice A3 n3 c3] 24)))
  have R2_55 := Lib.hid (R2_46.out.below (new1 w5 (.cells #[.int .i64 (endS s0 b1).next, .slice A3 n3 c3] 24)))
  have L3_56 := Lib.hid (L3_48.out.keep (new1 w5 (.cells #[.int .i64 (endS s0 b1).next, .slice A3 n3 c3] 24)))
  have B_57 := Lib.hid (then_ B_47.out (new1 w5 (.cells #[.int .i64 (endS s0 b1).next, .slice A3 n3 c3] 24)))
  clear K_40 X_41 Y_42 L1_43 R1_44 L2_45 R2_46 L3_48 B_47
  have R3_58 := Lib.hid (own_new w5 #[.int .i64 (endS s0 b1).next, .slice A3 n3 c3] 24)
  clear x0 x1
  clear y0 y1
  have hn1 : n1 ≤ 1000000 := by have h1 := L1_52.out.row.row.len; have h2 := grant_len s0 a1 a2; omega
  have hn2 : n2 ≤ 1000000 := by have h1 := L2_54.out.row.row.len; have h2 := keep_len s0 b1 a2; omega
  have hn3 : n3 ≤ 1000000 := by have h1 := L3_56.out.row.row.len; have h2 := end_len s0 b1; omega
  have r10 := R1_53.out.cell 0 _ rfl
  have r11 := R1_53.out.cell 1 _ rfl
  go_wp2_with fail
  refine (lmay_any (grantS s0 a1 a2) A1 n1 c1 _ L1_52.out).mono ?_; rintro e w6 ⟨rfl, hb⟩
  rw [M1.out]
  have S_59 := Lib.hid hb; clear hb
  have K_60 := Lib.hid (K_49.out.keep S_59.out)
  have X_61 := Lib.hid (X_50.out.below S_59.out)
  have Y_62 := Lib.hid (Y_51.out.below S_59.out)
  have L1_63 := Lib.hid (L1_52.out.keep S_59.out)
  have R1_64 := Lib.hid (R1_53.out.below S_59.out)
  have L2_65 := Lib.hid (L2_54.out.keep S_59.out)
  have R2_66 := Lib.hid (R2_55.out.below S_59.out)
  have L3_67 := Lib.hid (L3_56.out.keep S_59.out)
  have R3_68 := Lib.hid (R3_58.out.below S_59.out)
  have B_69 := Lib.hid (then_ B_57.out S_59.out)
  clear K_49 X_50 Y_51 L1_52 R1_53 L2_54 R2_55 L3_56 R3_58 B_57
  clear S_59
  clear r10 r11
  have r20 := R2_66.out.cell 0 _ rfl
  have r21 := R2_66.out.cell 1 _ rfl
  go_wp2_with fail
  refine (lmay_any (keepS s0 b1 a2) A2 n2 c2 _ L2_65.out).mono ?_; rintro e w7 ⟨rfl, hb⟩
  rw [M2.out]
  have S_70 := Lib.hid hb; clear hb
  have K_71 := Lib.hid (K_60.out.keep S_70.out)
  have X_72 := Lib.hid (X_61.out.below S_70.out)
  have Y_73 := Lib.hid (Y_62.out.below S_70.out)
  have L1_74 := Lib.hid (L1_63.out.keep S_70.out)
  have R1_75 := Lib.hid (R1_64.out.below S_70.out)
  have L2_76 := Lib.hid (L2_65.out.keep S_70.out)
  have R2_77 := Lib.hid (R2_66.out.below S_70.out)
  have L3_78 := Lib.hid (L3_67.out.keep S_70.out)
  have R3_79 := Lib.hid (R3_68.out.below S_70.out)
  have B_80 := Lib.hid (then_ B_69.out S_70.out)
  clear K_60 X_61 Y_62 L1_63 R1_64 L2_65 R2_66 L3_67 R3_68 B_69
  clear S_70
  clear r20 r21
  have r30 := R3_79.out.cell 0 _ rfl
  have r31 := R3_79.out.cell 1 _ rfl
  go_wp2_with fail
  refine (lmay_any (endS s0 b1) A3 n3 c3 _ L3_78.out).mono ?_; rintro e w8 ⟨rfl, hb⟩
  rw [M3.out]
  have S_81 := Lib.hid hb; clear hb
  have K_82 := Lib.hid (K_71.out.keep S_81.out)
  have X_83 := Lib.hid (X_72.out.below S_81.out)
  have Y_84 := Lib.hid (Y_73.out.below S_81.out)
  have L1_85 := Lib.hid (L1_74.out.keep S_81.out)
  have R1_86 := Lib.hid (R1_75.out.below S_81.out)
  have L2_87 := Lib.hid (L2_76.out.keep S_81.out)
  have R2_88 := Lib.hid (R2_77.out.below S_81.out)
  have L3_89 := Lib.hid (L3_78.out.keep S_81.out)
  have R3_90 := Lib.hid (R3_79.out.below S_81.out)
  have B_91 := Lib.hid (then_ B_80.out S_81.out)
  clear K_71 X_72 Y_73 L1_74 R1_75 L2_76 R2_77 L3_78 R3_79 B_80
  clear S_81
  clear r30 r31
  have x0 := X_83.out.cell 0 _ rfl
  have x1 := X_83.out.cell 1 _ rfl
  have y0 := Y_84.out.cell 0 _ rfl
  have y1 := Y_84.out.cell 1 _ rfl
  go_wp2_with fail
  refine (has_any s0 A0 n0 c0 b1 _ K_82.out).mono ?_; rintro e w9 ⟨rfl, hb⟩
  rw [HH.out]
  have S_92 := Lib.hid hb; clear hb
  have K_93 := Lib.hid (K_82.out.keep S_92.out)
  have X_94 := Lib.hid (X_83.out.below S_92.out)
  have Y_95 := Lib.hid (Y_84.out.below S_92.out)
  have L1_96 := Lib.hid (L1_85.out.keep S_92.out)
  have R1_97 := Lib.hid (R1_86.out.below S_92.out)
  have L2_98 := Lib.hid (L2_87.out.keep S_92.out)
  have R2_99 := Lib.hid (R2_88.out.below S_92.out)
  have L3_100 := Lib.hid (L3_89.out.keep S_92.out)
  have R3_101 := Lib.hid (R3_90.out.below S_92.out)
  have B_102 := Lib.hid (then_ B_91.out S_92.out)
  clear K_82 X_83 Y_84 L1_85 R1_86 L2_87 R2_88 L3_89 R3_90 B_91
  clear S_92
  clear x0 x1
  clear y0 y1
  obtain rfl : n1 = n0 + 1 := by have h := L1_96.out.row.row.len; rw [GI.out.1] at h; simp at h; omega
  have hq4 : (((n0 + 1 : Nat) : Int) == (n0 : Int) + 1) = true := by simp
  have r10 := R1_97.out.cell 0 _ rfl
  have r11 := R1_97.out.cell 1 _ rfl
  have x0 := X_94.out.cell 0 _ rfl
  have x1 := X_94.out.cell 1 _ rfl
  go_wp2_with fail
  refine (has_any (grantS s0 a1 a2) A1 (n0 + 1) c1 (grantI s0 a1 a2) _ L1_96.out).mono ?_; rintro e w10 ⟨rfl, hb⟩
  rw [G1.out]
  have S_103 := Lib.hid hb; clear hb
  have K_104 := Lib.hid (K_93.out.keep S_103.out)
  have X_105 := Lib.hid (X_94.out.below S_103.out)
  have Y_106 := Lib.hid (Y_95.out.below S_103.out)
  have L1_107 := Lib.hid (L1_96.out.keep S_103.out)
  have R1_108 := Lib.hid (R1_97.out.below S_103.out)
  have L2_109 := Lib.hid (L2_98.out.keep S_103.out)
  have R2_110 := Lib.hid (R2_99.out.below S_103.out)
  have L3_111 := Lib.hid (L3_100.out.keep S_103.out)
  have R3_112 := Lib.hid (R3_101.out.below S_103.out)
  have B_113 := Lib.hid (then_ B_102.out S_103.out)
  clear K_93 X_94 Y_95 L1_96 R1_97 L2_98 R2_99 L3_100 R3_101 B_102
  clear S_103
  clear r10 r11
  clear x0 x1
  have x0 := X_105.out.cell 0 _ rfl
  have x1 := X_105.out.cell 1 _ rfl
  have r10 := R1_108.out.cell 0 _ rfl
  have r11 := R1_108.out.cell 1 _ rfl
  go_wp2_with fail
  refine (has_any s0 A0 n0 c0 (grantI s0 a1 a2) _ K_104.out).mono ?_; rintro e w11 ⟨rfl, hb⟩
  rw [G2.out]
  have S_114 := Lib.hid hb; clear hb
  have K_115 := Lib.hid (K_104.out.keep S_114.out)
  have X_116 := Lib.hid (X_105.out.below S_114.out)
  have Y_117 := Lib.hid (Y_106.out.below S_114.out)
  have L1_118 := Lib.hid (L1_107.out.keep S_114.out)
  have R1_119 := Lib.hid (R1_108.out.below S_114.out)
  have L2_120 := Lib.hid (L2_109.out.keep S_114.out)
  have R2_121 := Lib.hid (R2_110.out.below S_114.out)
  have L3_122 := Lib.hid (L3_111.out.keep S_114.out)
  have R3_123 := Lib.hid (R3_112.out.below S_114.out)
  have B_124 := Lib.hid (then_ B_113.out S_114.out)
  clear K_104 X_105 Y_106 L1_107 R1_108 L2_109 R2_110 L3_111 R3_112 B_113
  clear S_114
  clear x0 x1
  clear r10 r11
  have r10 := R1_119.out.cell 0 _ rfl
  have r11 := R1_119.out.cell 1 _ rfl
  have x0 := X_116.out.cell 0 _ rfl
  have x1 := X_116.out.cell 1 _ rfl
  have r30 := R3_123.out.cell 0 _ rfl
  have r31 := R3_123.out.cell 1 _ rfl
  have y0 := Y_117.out.cell 0 _ rfl
  have y1 := Y_117.out.cell 1 _ rfl
  obtain ⟨ha1, ha2⟩ := hat
  have da1 : decide (0 ≤ a2) = true := decide_eq_true ha1
  have da2 : decide (a2 ≤ 1099511627775) = true := decide_eq_true ha2
  go_wp2_with fail
  refine (has_any (endS s0 b1) A3 n3 c3 b1 _ L3_122.out).mono ?_; rintro e w12 ⟨rfl, hb⟩
  rw [EG.out]
  have S_125 := Lib.hid hb; clear hb
  have K_126 := Lib.hid (K_115.out.keep S_125.out)
  have X_127 := Lib.hid (X_116.out.below S_125.out)
  have Y_128 := Lib.hid (Y_117.out.below S_125.out)
  have L1_129 := Lib.hid (L1_118.out.keep S_125.out)
  have R1_130 := Lib.hid (R1_119.out.below S_125.out)
  have L2_131 := Lib.hid (L2_120.out.keep S_125.out)
  have R2_132 := Lib.hid (R2_121.out.below S_125.out)
  have L3_133 := Lib.hid (L3_122.out.keep S_125.out)
  have R3_134 := Lib.hid (R3_123.out.below S_125.out)
  have B_135 := Lib.hid (then_ B_124.out S_125.out)
  clear K_115 X_116 Y_117 L1_118 R1_119 L2_120 R2_121 L3_122 R3_123 B_124
  clear S_125
  go_wp2_with fail
  refine (live_any _).mono ?_; rintro e w13 ⟨rfl, hb⟩
  have S_136 := Lib.hid hb; clear hb
  have K_137 := Lib.hid (K_126.out.keep S_136.out)
  have X_138 := Lib.hid (X_127.out.below S_136.out)
  have Y_139 := Lib.hid (Y_128.out.below S_136.out)
  have L1_140 := Lib.hid (L1_129.out.keep S_136.out)
  have R1_141 := Lib.hid (R1_130.out.below S_136.out)
  have L2_142 := Lib.hid (L2_131.out.keep S_136.out)
  have R2_143 := Lib.hid (R2_132.out.below S_136.out)
  have L3_144 := Lib.hid (L3_133.out.keep S_136.out)
  have R3_145 := Lib.hid (R3_134.out.below S_136.out)
  have B_146 := Lib.hid (then_ B_135.out S_136.out)
  clear K_126 X_127 Y_128 L1_129 R1_130 L2_131 R2_132 L3_133 R3_134 B_135
  clear S_136
  go_wp2
  go_ret
  exact ⟨rfl, B_146.out⟩
theorem go_ok_low (w : World) (s0 : Ls) (A0 : Option Addr) (n0 c0 : Nat) (a1 b1 a2 : Int) (k0 : LsAt w s0 A0 n0 c0) (w1 : (Lit.int .i64 a1).wf = true) (u1 : (Lit.int .i64 b1).wf = true) (w2 : (Lit.int .i64 a2).wf = true) (hm : mayL s0 = true) (hd : grantE s0 a1 a2 = 0) (hh : hasL s0 b1 = true) (hat : a2 < 0) :
    Calls Try.prog 5 #[s0.agg A0 n0 c0, .agg #[.int .i64 a1, .int .i64 b1], .int .i64 a2] w fun e w' => e = .returned (.bool true) ∧ Below w.heap.size w w' := by
  have HM := Lib.hid hm
  have MS := Lib.hid ((mayL_iff s0).1 hm)
  have hlo := MS.out.lo
  have hhi := MS.out.hi
  have hl8 := MS.out.len
  have hn0 := k0.row.row.len
  have HSM : Hid (smallT s0) := Lib.hid (fun x hx => by have := okLe_iff.1 (MS.out.ok x hx); omega)
  have M1 : Hid (mayL (grantS s0 a1 a2) = true) := Lib.hid ((mayL_iff _).2 (MS.out.grant a1 a2))
  have M2 : Hid (mayL (keepS s0 b1 a2) = true) := Lib.hid ((mayL_iff _).2 (MS.out.keep b1 a2))
  have M3 : Hid (mayL (endS s0 b1) = true) := Lib.hid ((mayL_iff _).2 (MS.out.drop b1))
  have HH := Lib.hid hh
  have GI := Lib.hid (grant_is hd)
  have hd1 : (grantE s0 a1 a2 == 0) = true := by simp [hd]
  have hd2 : (grantE s0 a1 a2 != 0) = false := by simp [hd]
  have hq1 : (grantI s0 a1 a2 == s0.next + 1) = true := by simp [GI.out.2]
  have G1 : Hid (hasL (grantS s0 a1 a2) (grantI s0 a1 a2) = true) := Lib.hid (by rw [GI.out.2]; exact grant_has hd)
  have G2 : Hid (hasL s0 (grantI s0 a1 a2) = false) := Lib.hid (by rw [GI.out.2]; exact grant_new MS.out)
  have hk : decide (keepE s0 b1 a2 = 0) = false := by rw [keep_has, hh]; simp [atB]; omega
  have hf : decide (endE s0 b1 = 0) = true := by rw [end_has, hh]
  have hk0 : keepE s0 b1 a2 ≠ 0 := of_decide_eq_false hk
  have hk1 : (keepE s0 b1 a2 == 0) = false := by simp [hk0]
  have hk2 : (keepE s0 b1 a2 != 0) = true := by simp [hk0]
  have KS := Lib.hid (keep_same hk0)
  have hq2 : (keepT s0 b1 a2 != 0) = false := by simp [KS.out.2]
  have hf0 : endE s0 b1 = 0 := of_decide_eq_true hf
  have hf1 : (endE s0 b1 == 0) = true := by simp [hf0]
  have hf2 : (endE s0 b1 != 0) = false := by simp [hf0]
  have EG := Lib.hid (end_gone MS.out b1)
  clear hm hd hh hk hf hk0 hf0
  have K_0 := Lib.hid (k0.keep (then_ (new1 w (.cells #[.int .i64 s0.next, .slice A0 n0 c0] 24)) (new1 _ (.cells #[.int .i64 a1, .int .i64 b1] 25))))
  have X_0 := Lib.hid ((own_new w #[.int .i64 s0.next, .slice A0 n0 c0] 24).alloc (.cells #[.int .i64 a1, .int .i64 b1] 25))
  have Y_0 := Lib.hid (own_new2 w (.cells #[.int .i64 s0.next, .slice A0 n0 c0] 24) #[.int .i64 a1, .int .i64 b1] 25)
  have B_0 := Lib.hid (then_ (new1 w (.cells #[.int .i64 s0.next, .slice A0 n0 c0] 24)) (new1 _ (.cells #[.int .i64 a1, .int .i64 b1] 25)))
  clear k0
  go_enter Try.func5, Try.ntmps5
  have x0 := X_0.out.cell 0 _ rfl
  have x1 := X_0.out.cell 1 _ rfl
  go_wp2_with fail
  refine (lmay_any s0 A0 n0 c0 _ K_0.out).mono ?_; rintro e w1 ⟨rfl, hb⟩
  rw [HM.out]
  have S_1 := Lib.hid hb; clear hb
  have K_2 := Lib.hid (K_0.out.keep S_1.out)
  have X_3 := Lib.hid (X_0.out.below S_1.out)
  have Y_4 := Lib.hid (Y_0.out.below S_1.out)
  have B_5 := Lib.hid (then_ B_0.out S_1.out)
  clear K_0 X_0 Y_0 B_0
  clear S_1
  clear x0 x1
  have x0 := X_3.out.cell 0 _ rfl
  have x1 := X_3.out.cell 1 _ rfl
  go_wp2_with fail
  refine (lmay_ref s0 A0 n0 c0 _ K_2.out).mono ?_; rintro e w2 ⟨rfl, hb⟩
  rw [HM.out]
  have S_6 := Lib.hid hb; clear hb
  have K_7 := Lib.hid (K_2.out.keep S_6.out)
  have X_8 := Lib.hid (X_3.out.below S_6.out)
  have Y_9 := Lib.hid (Y_4.out.below S_6.out)
  have B_10 := Lib.hid (then_ B_5.out S_6.out)
  clear K_2 X_3 Y_4 B_5
  clear S_6
  clear x0 x1
  have x0 := X_8.out.cell 0 _ rfl
  have x1 := X_8.out.cell 1 _ rfl
  have y0 := Y_9.out.cell 0 _ rfl
  have y1 := Y_9.out.cell 1 _ rfl
  go_wp2_with fail
  refine (grant_any s0 A0 n0 c0 a1 a2 _ K_7.out (by omega)).mono ?_; rintro e w3 ⟨A1, n1, c1, rfl, h1, hb⟩
  have S_11 := Lib.hid hb; clear hb
  have K_12 := Lib.hid (K_7.out.keep S_11.out)
  have X_13 := Lib.hid (X_8.out.below S_11.out)
  have Y_14 := Lib.hid (Y_9.out.below S_11.out)
  have B_15 := Lib.hid (then_ B_10.out S_11.out)
  clear K_7 X_8 Y_9 B_10
  clear S_11
  have L1_16 := Lib.hid (h1)
  clear h1
  have K_17 := Lib.hid (K_12.out.keep (new1 w3 (.cells #[.int .i64 (grantS s0 a1 a2).next, .slice A1 n1 c1] 24)))
  have X_18 := Lib.hid (X_13.out.below (new1 w3 (.cells #[.int .i64 (grantS s0 a1 a2).next, .slice A1 n1 c1] 24)))
  have Y_19 := Lib.hid (Y_14.out.below (new1 w3 (.cells #[.int .i64 (grantS s0 a1 a2).next, .slice A1 n1 c1] 24)))
  have L1_20 := Lib.hid (L1_16.out.keep (new1 w3 (.cells #[.int .i64 (grantS s0 a1 a2).next, .slice A1 n1 c1] 24)))
  have B_21 := Lib.hid (then_ B_15.out (new1 w3 (.cells #[.int .i64 (grantS s0 a1 a2).next, .slice A1 n1 c1] 24)))
  clear K_12 X_13 Y_14 L1_16 B_15
  have R1_22 := Lib.hid (own_new w3 #[.int .i64 (grantS s0 a1 a2).next, .slice A1 n1 c1] 24)
  clear x0 x1
  clear y0 y1
  have x0 := X_18.out.cell 0 _ rfl
  have x1 := X_18.out.cell 1 _ rfl
  have y0 := Y_19.out.cell 0 _ rfl
  have y1 := Y_19.out.cell 1 _ rfl
  go_wp2_with fail
  refine (keep_any s0 A0 n0 c0 b1 a2 _ K_17.out (by omega) HSM.out).mono ?_; rintro e w4 ⟨A2, n2, c2, rfl, h2, hb⟩
  have S_23 := Lib.hid hb; clear hb
  have K_24 := Lib.hid (K_17.out.keep S_23.out)
  have X_25 := Lib.hid (X_18.out.below S_23.out)
  have Y_26 := Lib.hid (Y_19.out.below S_23.out)
  have L1_27 := Lib.hid (L1_20.out.keep S_23.out)
  have R1_28 := Lib.hid (R1_22.out.below S_23.out)
  have B_29 := Lib.hid (then_ B_21.out S_23.out)
  clear K_17 X_18 Y_19 L1_20 R1_22 B_21
  clear S_23
  have L2_30 := Lib.hid (h2)
  clear h2
  have K_31 := Lib.hid (K_24.out.keep (new1 w4 (.cells #[.int .i64 (keepS s0 b1 a2).next, .slice A2 n2 c2] 24)))
  have X_32 := Lib.hid (X_25.out.below (new1 w4 (.cells #[.int .i64 (keepS s0 b1 a2).next, .slice A2 n2 c2] 24)))
  have Y_33 := Lib.hid (Y_26.out.below (new1 w4 (.cells #[.int .i64 (keepS s0 b1 a2).next, .slice A2 n2 c2] 24)))
  have L1_34 := Lib.hid (L1_27.out.keep (new1 w4 (.cells #[.int .i64 (keepS s0 b1 a2).next, .slice A2 n2 c2] 24)))
  have R1_35 := Lib.hid (R1_28.out.below (new1 w4 (.cells #[.int .i64 (keepS s0 b1 a2).next, .slice A2 n2 c2] 24)))
  have L2_36 := Lib.hid (L2_30.out.keep (new1 w4 (.cells #[.int .i64 (keepS s0 b1 a2).next, .slice A2 n2 c2] 24)))
  have B_37 := Lib.hid (then_ B_29.out (new1 w4 (.cells #[.int .i64 (keepS s0 b1 a2).next, .slice A2 n2 c2] 24)))
  clear K_24 X_25 Y_26 L1_27 R1_28 L2_30 B_29
  have R2_38 := Lib.hid (own_new w4 #[.int .i64 (keepS s0 b1 a2).next, .slice A2 n2 c2] 24)
  clear x0 x1
  clear y0 y1
  have x0 := X_32.out.cell 0 _ rfl
  have x1 := X_32.out.cell 1 _ rfl
  have y0 := Y_33.out.cell 0 _ rfl
  have y1 := Y_33.out.cell 1 _ rfl
  go_wp2_with fail
  refine (end_any s0 A0 n0 c0 b1 _ K_31.out (by omega)).mono ?_; rintro e w5 ⟨A3, n3, c3, rfl, h3, hb⟩
  have S_39 := Lib.hid hb; clear hb
  have K_40 := Lib.hid (K_31.out.keep S_39.out)
  have X_41 := Lib.hid (X_32.out.below S_39.out)
  have Y_42 := Lib.hid (Y_33.out.below S_39.out)
  have L1_43 := Lib.hid (L1_34.out.keep S_39.out)
  have R1_44 := Lib.hid (R1_35.out.below S_39.out)
  have L2_45 := Lib.hid (L2_36.out.keep S_39.out)
  have R2_46 := Lib.hid (R2_38.out.below S_39.out)
  have B_47 := Lib.hid (then_ B_37.out S_39.out)
  clear K_31 X_32 Y_33 L1_34 R1_35 L2_36 R2_38 B_37
  clear S_39
  have L3_48 := Lib.hid (h3)
  clear h3
  have K_49 := Lib.hid (K_40.out.keep (new1 w5 (.cells #[.int .i64 (endS s0 b1).next, .slice A3 n3 c3] 24)))
  have X_50 := Lib.hid (X_41.out.below (new1 w5 (.cells #[.int .i64 (endS s0 b1).next, .slice A3 n3 c3] 24)))
  have Y_51 := Lib.hid (Y_42.out.below (new1 w5 (.cells #[.int .i64 (endS s0 b1).next, .slice A3 n3 c3] 24)))
  have L1_52 := Lib.hid (L1_43.out.keep (new1 w5 (.cells #[.int .i64 (endS s0 b1).next, .slice A3 n3 c3] 24)))
  have R1_53 := Lib.hid (R1_44.out.below (new1 w5 (.cells #[.int .i64 (endS s0 b1).next, .slice A3 n3 c3] 24)))
  have L2_54 := Lib.hid (L2_45.out.keep (new1 w5 (.cells #[.int .i64 (endS s0 b1).next, .slice A3 n3 c3] 24)))
  have R2_55 := Lib.hid (R2_46.out.below (new1 w5 (.cells #[.int .i64 (endS s0 b1).next, .slice A3 n3 c3] 24)))
  have L3_56 := Lib.hid (L3_48.out.keep (new1 w5 (.cells #[.int .i64 (endS s0 b1).next, .slice A3 n3 c3] 24)))
  have B_57 := Lib.hid (then_ B_47.out (new1 w5 (.cells #[.int .i64 (endS s0 b1).next, .slice A3 n3 c3] 24)))
  clear K_40 X_41 Y_42 L1_43 R1_44 L2_45 R2_46 L3_48 B_47
  have R3_58 := Lib.hid (own_new w5 #[.int .i64 (endS s0 b1).next, .slice A3 n3 c3] 24)
  clear x0 x1
  clear y0 y1
  have hn1 : n1 ≤ 1000000 := by have h1 := L1_52.out.row.row.len; have h2 := grant_len s0 a1 a2; omega
  have hn2 : n2 ≤ 1000000 := by have h1 := L2_54.out.row.row.len; have h2 := keep_len s0 b1 a2; omega
  have hn3 : n3 ≤ 1000000 := by have h1 := L3_56.out.row.row.len; have h2 := end_len s0 b1; omega
  have r10 := R1_53.out.cell 0 _ rfl
  have r11 := R1_53.out.cell 1 _ rfl
  go_wp2_with fail
  refine (lmay_any (grantS s0 a1 a2) A1 n1 c1 _ L1_52.out).mono ?_; rintro e w6 ⟨rfl, hb⟩
  rw [M1.out]
  have S_59 := Lib.hid hb; clear hb
  have K_60 := Lib.hid (K_49.out.keep S_59.out)
  have X_61 := Lib.hid (X_50.out.below S_59.out)
  have Y_62 := Lib.hid (Y_51.out.below S_59.out)
  have L1_63 := Lib.hid (L1_52.out.keep S_59.out)
  have R1_64 := Lib.hid (R1_53.out.below S_59.out)
  have L2_65 := Lib.hid (L2_54.out.keep S_59.out)
  have R2_66 := Lib.hid (R2_55.out.below S_59.out)
  have L3_67 := Lib.hid (L3_56.out.keep S_59.out)
  have R3_68 := Lib.hid (R3_58.out.below S_59.out)
  have B_69 := Lib.hid (then_ B_57.out S_59.out)
  clear K_49 X_50 Y_51 L1_52 R1_53 L2_54 R2_55 L3_56 R3_58 B_57
  clear S_59
  clear r10 r11
  have r20 := R2_66.out.cell 0 _ rfl
  have r21 := R2_66.out.cell 1 _ rfl
  go_wp2_with fail
  refine (lmay_any (keepS s0 b1 a2) A2 n2 c2 _ L2_65.out).mono ?_; rintro e w7 ⟨rfl, hb⟩
  rw [M2.out]
  have S_70 := Lib.hid hb; clear hb
  have K_71 := Lib.hid (K_60.out.keep S_70.out)
  have X_72 := Lib.hid (X_61.out.below S_70.out)
  have Y_73 := Lib.hid (Y_62.out.below S_70.out)
  have L1_74 := Lib.hid (L1_63.out.keep S_70.out)
  have R1_75 := Lib.hid (R1_64.out.below S_70.out)
  have L2_76 := Lib.hid (L2_65.out.keep S_70.out)
  have R2_77 := Lib.hid (R2_66.out.below S_70.out)
  have L3_78 := Lib.hid (L3_67.out.keep S_70.out)
  have R3_79 := Lib.hid (R3_68.out.below S_70.out)
  have B_80 := Lib.hid (then_ B_69.out S_70.out)
  clear K_60 X_61 Y_62 L1_63 R1_64 L2_65 R2_66 L3_67 R3_68 B_69
  clear S_70
  clear r20 r21
  have r30 := R3_79.out.cell 0 _ rfl
  have r31 := R3_79.out.cell 1 _ rfl
  go_wp2_with fail
  refine (lmay_any (endS s0 b1) A3 n3 c3 _ L3_78.out).mono ?_; rintro e w8 ⟨rfl, hb⟩
  rw [M3.out]
  have S_81 := Lib.hid hb; clear hb
  have K_82 := Lib.hid (K_71.out.keep S_81.out)
  have X_83 := Lib.hid (X_72.out.below S_81.out)
  have Y_84 := Lib.hid (Y_73.out.below S_81.out)
  have L1_85 := Lib.hid (L1_74.out.keep S_81.out)
  have R1_86 := Lib.hid (R1_75.out.below S_81.out)
  have L2_87 := Lib.hid (L2_76.out.keep S_81.out)
  have R2_88 := Lib.hid (R2_77.out.below S_81.out)
  have L3_89 := Lib.hid (L3_78.out.keep S_81.out)
  have R3_90 := Lib.hid (R3_79.out.below S_81.out)
  have B_91 := Lib.hid (then_ B_80.out S_81.out)
  clear K_71 X_72 Y_73 L1_74 R1_75 L2_76 R2_77 L3_78 R3_79 B_80
  clear S_81
  clear r30 r31
  have Q2 : Hid (LsAt w8 s0 A2 n2 c2) := Lib.hid (by have h := L2_87.out; rw [KS.out.1] at h; exact h)
  obtain rfl : n0 = n2 := hn0.symm.trans Q2.out.row.row.len
  have r20 := R2_88.out.cell 0 _ rfl
  have r21 := R2_88.out.cell 1 _ rfl
  have x0 := X_83.out.cell 0 _ rfl
  have x1 := X_83.out.cell 1 _ rfl
  have SM2 := Lib.hid (ls_same s0 A2 A0 n0 c2 c0 _ Q2.out K_82.out (by omega))
  go_wp2_with fail
  refine ((show Calls Try.prog 21 #[Ls.agg (keepS s0 b1 a2) A2 n0 c2, s0.agg A0 n0 c0] _ _ by rw [KS.out.1]; exact SM2.out)).mono ?_; rintro e w9 ⟨rfl, hb⟩
  have S_92 := Lib.hid hb; clear hb
  have K_93 := Lib.hid (K_82.out.keep S_92.out)
  have X_94 := Lib.hid (X_83.out.below S_92.out)
  have Y_95 := Lib.hid (Y_84.out.below S_92.out)
  have L1_96 := Lib.hid (L1_85.out.keep S_92.out)
  have R1_97 := Lib.hid (R1_86.out.below S_92.out)
  have L2_98 := Lib.hid (L2_87.out.keep S_92.out)
  have R2_99 := Lib.hid (R2_88.out.below S_92.out)
  have L3_100 := Lib.hid (L3_89.out.keep S_92.out)
  have R3_101 := Lib.hid (R3_90.out.below S_92.out)
  have B_102 := Lib.hid (then_ B_91.out S_92.out)
  clear K_82 X_83 Y_84 L1_85 R1_86 L2_87 R2_88 L3_89 R3_90 B_91
  clear S_92
  clear r20 r21
  clear x0 x1
  have x0 := X_94.out.cell 0 _ rfl
  have x1 := X_94.out.cell 1 _ rfl
  have y0 := Y_95.out.cell 0 _ rfl
  have y1 := Y_95.out.cell 1 _ rfl
  go_wp2_with fail
  refine (has_any s0 A0 n0 c0 b1 _ K_93.out).mono ?_; rintro e w10 ⟨rfl, hb⟩
  rw [HH.out]
  have S_103 := Lib.hid hb; clear hb
  have K_104 := Lib.hid (K_93.out.keep S_103.out)
  have X_105 := Lib.hid (X_94.out.below S_103.out)
  have Y_106 := Lib.hid (Y_95.out.below S_103.out)
  have L1_107 := Lib.hid (L1_96.out.keep S_103.out)
  have R1_108 := Lib.hid (R1_97.out.below S_103.out)
  have L2_109 := Lib.hid (L2_98.out.keep S_103.out)
  have R2_110 := Lib.hid (R2_99.out.below S_103.out)
  have L3_111 := Lib.hid (L3_100.out.keep S_103.out)
  have R3_112 := Lib.hid (R3_101.out.below S_103.out)
  have B_113 := Lib.hid (then_ B_102.out S_103.out)
  clear K_93 X_94 Y_95 L1_96 R1_97 L2_98 R2_99 L3_100 R3_101 B_102
  clear S_103
  clear x0 x1
  clear y0 y1
  obtain rfl : n1 = n0 + 1 := by have h := L1_107.out.row.row.len; rw [GI.out.1] at h; simp at h; omega
  have hq4 : (((n0 + 1 : Nat) : Int) == (n0 : Int) + 1) = true := by simp
  have r10 := R1_108.out.cell 0 _ rfl
  have r11 := R1_108.out.cell 1 _ rfl
  have x0 := X_105.out.cell 0 _ rfl
  have x1 := X_105.out.cell 1 _ rfl
  go_wp2_with fail
  refine (has_any (grantS s0 a1 a2) A1 (n0 + 1) c1 (grantI s0 a1 a2) _ L1_107.out).mono ?_; rintro e w11 ⟨rfl, hb⟩
  rw [G1.out]
  have S_114 := Lib.hid hb; clear hb
  have K_115 := Lib.hid (K_104.out.keep S_114.out)
  have X_116 := Lib.hid (X_105.out.below S_114.out)
  have Y_117 := Lib.hid (Y_106.out.below S_114.out)
  have L1_118 := Lib.hid (L1_107.out.keep S_114.out)
  have R1_119 := Lib.hid (R1_108.out.below S_114.out)
  have L2_120 := Lib.hid (L2_109.out.keep S_114.out)
  have R2_121 := Lib.hid (R2_110.out.below S_114.out)
  have L3_122 := Lib.hid (L3_111.out.keep S_114.out)
  have R3_123 := Lib.hid (R3_112.out.below S_114.out)
  have B_124 := Lib.hid (then_ B_113.out S_114.out)
  clear K_104 X_105 Y_106 L1_107 R1_108 L2_109 R2_110 L3_111 R3_112 B_113
  clear S_114
  clear r10 r11
  clear x0 x1
  have x0 := X_116.out.cell 0 _ rfl
  have x1 := X_116.out.cell 1 _ rfl
  have r10 := R1_119.out.cell 0 _ rfl
  have r11 := R1_119.out.cell 1 _ rfl
  go_wp2_with fail
  refine (has_any s0 A0 n0 c0 (grantI s0 a1 a2) _ K_115.out).mono ?_; rintro e w12 ⟨rfl, hb⟩
  rw [G2.out]
  have S_125 := Lib.hid hb; clear hb
  have K_126 := Lib.hid (K_115.out.keep S_125.out)
  have X_127 := Lib.hid (X_116.out.below S_125.out)
  have Y_128 := Lib.hid (Y_117.out.below S_125.out)
  have L1_129 := Lib.hid (L1_118.out.keep S_125.out)
  have R1_130 := Lib.hid (R1_119.out.below S_125.out)
  have L2_131 := Lib.hid (L2_120.out.keep S_125.out)
  have R2_132 := Lib.hid (R2_121.out.below S_125.out)
  have L3_133 := Lib.hid (L3_122.out.keep S_125.out)
  have R3_134 := Lib.hid (R3_123.out.below S_125.out)
  have B_135 := Lib.hid (then_ B_124.out S_125.out)
  clear K_115 X_116 Y_117 L1_118 R1_119 L2_120 R2_121 L3_122 R3_123 B_124
  clear S_125
  clear x0 x1
  clear r10 r11
  have r10 := R1_130.out.cell 0 _ rfl
  have r11 := R1_130.out.cell 1 _ rfl
  have x0 := X_127.out.cell 0 _ rfl
  have x1 := X_127.out.cell 1 _ rfl
  have r30 := R3_134.out.cell 0 _ rfl
  have r31 := R3_134.out.cell 1 _ rfl
  have y0 := Y_128.out.cell 0 _ rfl
  have y1 := Y_128.out.cell 1 _ rfl
  have da1 : decide (0 ≤ a2) = false := decide_eq_false (by omega)
  go_wp2_with fail
  refine (has_any (endS s0 b1) A3 n3 c3 b1 _ L3_133.out).mono ?_; rintro e w13 ⟨rfl, hb⟩
  rw [EG.out]
  have S_136 := Lib.hid hb; clear hb
  have K_137 := Lib.hid (K_126.out.keep S_136.out)
  have X_138 := Lib.hid (X_127.out.below S_136.out)
  have Y_139 := Lib.hid (Y_128.out.below S_136.out)
  have L1_140 := Lib.hid (L1_129.out.keep S_136.out)
  have R1_141 := Lib.hid (R1_130.out.below S_136.out)
  have L2_142 := Lib.hid (L2_131.out.keep S_136.out)
  have R2_143 := Lib.hid (R2_132.out.below S_136.out)
  have L3_144 := Lib.hid (L3_133.out.keep S_136.out)
  have R3_145 := Lib.hid (R3_134.out.below S_136.out)
  have B_146 := Lib.hid (then_ B_135.out S_136.out)
  clear K_126 X_127 Y_128 L1_129 R1_130 L2_131 R2_132 L3_133 R3_134 B_135
  clear S_136
  go_wp2_with fail
  refine (live_any _).mono ?_; rintro e w14 ⟨rfl, hb⟩
  have S_147 := Lib.hid hb; clear hb
  have K_148 := Lib.hid (K_137.out.keep S_147.out)
  have X_149 := Lib.hid (X_138.out.below S_147.out)
  have Y_150 := Lib.hid (Y_139.out.below S_147.out)
  have L1_151 := Lib.hid (L1_140.out.keep S_147.out)
  have R1_152 := Lib.hid (R1_141.out.below S_147.out)
  have L2_153 := Lib.hid (L2_142.out.keep S_147.out)
  have R2_154 := Lib.hid (R2_143.out.below S_147.out)
  have L3_155 := Lib.hid (L3_144.out.keep S_147.out)
  have R3_156 := Lib.hid (R3_145.out.below S_147.out)
  have B_157 := Lib.hid (then_ B_146.out S_147.out)
  clear K_137 X_138 Y_139 L1_140 R1_141 L2_142 R2_143 L3_144 R3_145 B_146
  clear S_147
  go_wp2
  go_ret
  exact ⟨rfl, B_157.out⟩
theorem go_ok_high (w : World) (s0 : Ls) (A0 : Option Addr) (n0 c0 : Nat) (a1 b1 a2 : Int) (k0 : LsAt w s0 A0 n0 c0) (w1 : (Lit.int .i64 a1).wf = true) (u1 : (Lit.int .i64 b1).wf = true) (w2 : (Lit.int .i64 a2).wf = true) (hm : mayL s0 = true) (hd : grantE s0 a1 a2 = 0) (hh : hasL s0 b1 = true) (hat : 0 ≤ a2 ∧ 1099511627775 < a2) :
    Calls Try.prog 5 #[s0.agg A0 n0 c0, .agg #[.int .i64 a1, .int .i64 b1], .int .i64 a2] w fun e w' => e = .returned (.bool true) ∧ Below w.heap.size w w' := by
  have HM := Lib.hid hm
  have MS := Lib.hid ((mayL_iff s0).1 hm)
  have hlo := MS.out.lo
  have hhi := MS.out.hi
  have hl8 := MS.out.len
  have hn0 := k0.row.row.len
  have HSM : Hid (smallT s0) := Lib.hid (fun x hx => by have := okLe_iff.1 (MS.out.ok x hx); omega)
  have M1 : Hid (mayL (grantS s0 a1 a2) = true) := Lib.hid ((mayL_iff _).2 (MS.out.grant a1 a2))
  have M2 : Hid (mayL (keepS s0 b1 a2) = true) := Lib.hid ((mayL_iff _).2 (MS.out.keep b1 a2))
  have M3 : Hid (mayL (endS s0 b1) = true) := Lib.hid ((mayL_iff _).2 (MS.out.drop b1))
  have HH := Lib.hid hh
  have GI := Lib.hid (grant_is hd)
  have hd1 : (grantE s0 a1 a2 == 0) = true := by simp [hd]
  have hd2 : (grantE s0 a1 a2 != 0) = false := by simp [hd]
  have hq1 : (grantI s0 a1 a2 == s0.next + 1) = true := by simp [GI.out.2]
  have G1 : Hid (hasL (grantS s0 a1 a2) (grantI s0 a1 a2) = true) := Lib.hid (by rw [GI.out.2]; exact grant_has hd)
  have G2 : Hid (hasL s0 (grantI s0 a1 a2) = false) := Lib.hid (by rw [GI.out.2]; exact grant_new MS.out)
  have hk : decide (keepE s0 b1 a2 = 0) = false := by rw [keep_has, hh]; simp [atB]; omega
  have hf : decide (endE s0 b1 = 0) = true := by rw [end_has, hh]
  have hk0 : keepE s0 b1 a2 ≠ 0 := of_decide_eq_false hk
  have hk1 : (keepE s0 b1 a2 == 0) = false := by simp [hk0]
  have hk2 : (keepE s0 b1 a2 != 0) = true := by simp [hk0]
  have KS := Lib.hid (keep_same hk0)
  have hq2 : (keepT s0 b1 a2 != 0) = false := by simp [KS.out.2]
  have hf0 : endE s0 b1 = 0 := of_decide_eq_true hf
  have hf1 : (endE s0 b1 == 0) = true := by simp [hf0]
  have hf2 : (endE s0 b1 != 0) = false := by simp [hf0]
  have EG := Lib.hid (end_gone MS.out b1)
  clear hm hd hh hk hf hk0 hf0
  have K_0 := Lib.hid (k0.keep (then_ (new1 w (.cells #[.int .i64 s0.next, .slice A0 n0 c0] 24)) (new1 _ (.cells #[.int .i64 a1, .int .i64 b1] 25))))
  have X_0 := Lib.hid ((own_new w #[.int .i64 s0.next, .slice A0 n0 c0] 24).alloc (.cells #[.int .i64 a1, .int .i64 b1] 25))
  have Y_0 := Lib.hid (own_new2 w (.cells #[.int .i64 s0.next, .slice A0 n0 c0] 24) #[.int .i64 a1, .int .i64 b1] 25)
  have B_0 := Lib.hid (then_ (new1 w (.cells #[.int .i64 s0.next, .slice A0 n0 c0] 24)) (new1 _ (.cells #[.int .i64 a1, .int .i64 b1] 25)))
  clear k0
  go_enter Try.func5, Try.ntmps5
  have x0 := X_0.out.cell 0 _ rfl
  have x1 := X_0.out.cell 1 _ rfl
  go_wp2_with fail
  refine (lmay_any s0 A0 n0 c0 _ K_0.out).mono ?_; rintro e w1 ⟨rfl, hb⟩
  rw [HM.out]
  have S_1 := Lib.hid hb; clear hb
  have K_2 := Lib.hid (K_0.out.keep S_1.out)
  have X_3 := Lib.hid (X_0.out.below S_1.out)
  have Y_4 := Lib.hid (Y_0.out.below S_1.out)
  have B_5 := Lib.hid (then_ B_0.out S_1.out)
  clear K_0 X_0 Y_0 B_0
  clear S_1
  clear x0 x1
  have x0 := X_3.out.cell 0 _ rfl
  have x1 := X_3.out.cell 1 _ rfl
  go_wp2_with fail
  refine (lmay_ref s0 A0 n0 c0 _ K_2.out).mono ?_; rintro e w2 ⟨rfl, hb⟩
  rw [HM.out]
  have S_6 := Lib.hid hb; clear hb
  have K_7 := Lib.hid (K_2.out.keep S_6.out)
  have X_8 := Lib.hid (X_3.out.below S_6.out)
  have Y_9 := Lib.hid (Y_4.out.below S_6.out)
  have B_10 := Lib.hid (then_ B_5.out S_6.out)
  clear K_2 X_3 Y_4 B_5
  clear S_6
  clear x0 x1
  have x0 := X_8.out.cell 0 _ rfl
  have x1 := X_8.out.cell 1 _ rfl
  have y0 := Y_9.out.cell 0 _ rfl
  have y1 := Y_9.out.cell 1 _ rfl
  go_wp2_with fail
  refine (grant_any s0 A0 n0 c0 a1 a2 _ K_7.out (by omega)).mono ?_; rintro e w3 ⟨A1, n1, c1, rfl, h1, hb⟩
  have S_11 := Lib.hid hb; clear hb
  have K_12 := Lib.hid (K_7.out.keep S_11.out)
  have X_13 := Lib.hid (X_8.out.below S_11.out)
  have Y_14 := Lib.hid (Y_9.out.below S_11.out)
  have B_15 := Lib.hid (then_ B_10.out S_11.out)
  clear K_7 X_8 Y_9 B_10
  clear S_11
  have L1_16 := Lib.hid (h1)
  clear h1
  have K_17 := Lib.hid (K_12.out.keep (new1 w3 (.cells #[.int .i64 (grantS s0 a1 a2).next, .slice A1 n1 c1] 24)))
  have X_18 := Lib.hid (X_13.out.below (new1 w3 (.cells #[.int .i64 (grantS s0 a1 a2).next, .slice A1 n1 c1] 24)))
  have Y_19 := Lib.hid (Y_14.out.below (new1 w3 (.cells #[.int .i64 (grantS s0 a1 a2).next, .slice A1 n1 c1] 24)))
  have L1_20 := Lib.hid (L1_16.out.keep (new1 w3 (.cells #[.int .i64 (grantS s0 a1 a2).next, .slice A1 n1 c1] 24)))
  have B_21 := Lib.hid (then_ B_15.out (new1 w3 (.cells #[.int .i64 (grantS s0 a1 a2).next, .slice A1 n1 c1] 24)))
  clear K_12 X_13 Y_14 L1_16 B_15
  have R1_22 := Lib.hid (own_new w3 #[.int .i64 (grantS s0 a1 a2).next, .slice A1 n1 c1] 24)
  clear x0 x1
  clear y0 y1
  have x0 := X_18.out.cell 0 _ rfl
  have x1 := X_18.out.cell 1 _ rfl
  have y0 := Y_19.out.cell 0 _ rfl
  have y1 := Y_19.out.cell 1 _ rfl
  go_wp2_with fail
  refine (keep_any s0 A0 n0 c0 b1 a2 _ K_17.out (by omega) HSM.out).mono ?_; rintro e w4 ⟨A2, n2, c2, rfl, h2, hb⟩
  have S_23 := Lib.hid hb; clear hb
  have K_24 := Lib.hid (K_17.out.keep S_23.out)
  have X_25 := Lib.hid (X_18.out.below S_23.out)
  have Y_26 := Lib.hid (Y_19.out.below S_23.out)
  have L1_27 := Lib.hid (L1_20.out.keep S_23.out)
  have R1_28 := Lib.hid (R1_22.out.below S_23.out)
  have B_29 := Lib.hid (then_ B_21.out S_23.out)
  clear K_17 X_18 Y_19 L1_20 R1_22 B_21
  clear S_23
  have L2_30 := Lib.hid (h2)
  clear h2
  have K_31 := Lib.hid (K_24.out.keep (new1 w4 (.cells #[.int .i64 (keepS s0 b1 a2).next, .slice A2 n2 c2] 24)))
  have X_32 := Lib.hid (X_25.out.below (new1 w4 (.cells #[.int .i64 (keepS s0 b1 a2).next, .slice A2 n2 c2] 24)))
  have Y_33 := Lib.hid (Y_26.out.below (new1 w4 (.cells #[.int .i64 (keepS s0 b1 a2).next, .slice A2 n2 c2] 24)))
  have L1_34 := Lib.hid (L1_27.out.keep (new1 w4 (.cells #[.int .i64 (keepS s0 b1 a2).next, .slice A2 n2 c2] 24)))
  have R1_35 := Lib.hid (R1_28.out.below (new1 w4 (.cells #[.int .i64 (keepS s0 b1 a2).next, .slice A2 n2 c2] 24)))
  have L2_36 := Lib.hid (L2_30.out.keep (new1 w4 (.cells #[.int .i64 (keepS s0 b1 a2).next, .slice A2 n2 c2] 24)))
  have B_37 := Lib.hid (then_ B_29.out (new1 w4 (.cells #[.int .i64 (keepS s0 b1 a2).next, .slice A2 n2 c2] 24)))
  clear K_24 X_25 Y_26 L1_27 R1_28 L2_30 B_29
  have R2_38 := Lib.hid (own_new w4 #[.int .i64 (keepS s0 b1 a2).next, .slice A2 n2 c2] 24)
  clear x0 x1
  clear y0 y1
  have x0 := X_32.out.cell 0 _ rfl
  have x1 := X_32.out.cell 1 _ rfl
  have y0 := Y_33.out.cell 0 _ rfl
  have y1 := Y_33.out.cell 1 _ rfl
  go_wp2_with fail
  refine (end_any s0 A0 n0 c0 b1 _ K_31.out (by omega)).mono ?_; rintro e w5 ⟨A3, n3, c3, rfl, h3, hb⟩
  have S_39 := Lib.hid hb; clear hb
  have K_40 := Lib.hid (K_31.out.keep S_39.out)
  have X_41 := Lib.hid (X_32.out.below S_39.out)
  have Y_42 := Lib.hid (Y_33.out.below S_39.out)
  have L1_43 := Lib.hid (L1_34.out.keep S_39.out)
  have R1_44 := Lib.hid (R1_35.out.below S_39.out)
  have L2_45 := Lib.hid (L2_36.out.keep S_39.out)
  have R2_46 := Lib.hid (R2_38.out.below S_39.out)
  have B_47 := Lib.hid (then_ B_37.out S_39.out)
  clear K_31 X_32 Y_33 L1_34 R1_35 L2_36 R2_38 B_37
  clear S_39
  have L3_48 := Lib.hid (h3)
  clear h3
  have K_49 := Lib.hid (K_40.out.keep (new1 w5 (.cells #[.int .i64 (endS s0 b1).next, .slice A3 n3 c3] 24)))
  have X_50 := Lib.hid (X_41.out.below (new1 w5 (.cells #[.int .i64 (endS s0 b1).next, .slice A3 n3 c3] 24)))
  have Y_51 := Lib.hid (Y_42.out.below (new1 w5 (.cells #[.int .i64 (endS s0 b1).next, .slice A3 n3 c3] 24)))
  have L1_52 := Lib.hid (L1_43.out.keep (new1 w5 (.cells #[.int .i64 (endS s0 b1).next, .slice A3 n3 c3] 24)))
  have R1_53 := Lib.hid (R1_44.out.below (new1 w5 (.cells #[.int .i64 (endS s0 b1).next, .slice A3 n3 c3] 24)))
  have L2_54 := Lib.hid (L2_45.out.keep (new1 w5 (.cells #[.int .i64 (endS s0 b1).next, .slice A3 n3 c3] 24)))
  have R2_55 := Lib.hid (R2_46.out.below (new1 w5 (.cells #[.int .i64 (endS s0 b1).next, .slice A3 n3 c3] 24)))
  have L3_56 := Lib.hid (L3_48.out.keep (new1 w5 (.cells #[.int .i64 (endS s0 b1).next, .slice A3 n3 c3] 24)))
  have B_57 := Lib.hid (then_ B_47.out (new1 w5 (.cells #[.int .i64 (endS s0 b1).next, .slice A3 n3 c3] 24)))
  clear K_40 X_41 Y_42 L1_43 R1_44 L2_45 R2_46 L3_48 B_47
  have R3_58 := Lib.hid (own_new w5 #[.int .i64 (endS s0 b1).next, .slice A3 n3 c3] 24)
  clear x0 x1
  clear y0 y1
  have hn1 : n1 ≤ 1000000 := by have h1 := L1_52.out.row.row.len; have h2 := grant_len s0 a1 a2; omega
  have hn2 : n2 ≤ 1000000 := by have h1 := L2_54.out.row.row.len; have h2 := keep_len s0 b1 a2; omega
  have hn3 : n3 ≤ 1000000 := by have h1 := L3_56.out.row.row.len; have h2 := end_len s0 b1; omega
  have r10 := R1_53.out.cell 0 _ rfl
  have r11 := R1_53.out.cell 1 _ rfl
  go_wp2_with fail
  refine (lmay_any (grantS s0 a1 a2) A1 n1 c1 _ L1_52.out).mono ?_; rintro e w6 ⟨rfl, hb⟩
  rw [M1.out]
  have S_59 := Lib.hid hb; clear hb
  have K_60 := Lib.hid (K_49.out.keep S_59.out)
  have X_61 := Lib.hid (X_50.out.below S_59.out)
  have Y_62 := Lib.hid (Y_51.out.below S_59.out)
  have L1_63 := Lib.hid (L1_52.out.keep S_59.out)
  have R1_64 := Lib.hid (R1_53.out.below S_59.out)
  have L2_65 := Lib.hid (L2_54.out.keep S_59.out)
  have R2_66 := Lib.hid (R2_55.out.below S_59.out)
  have L3_67 := Lib.hid (L3_56.out.keep S_59.out)
  have R3_68 := Lib.hid (R3_58.out.below S_59.out)
  have B_69 := Lib.hid (then_ B_57.out S_59.out)
  clear K_49 X_50 Y_51 L1_52 R1_53 L2_54 R2_55 L3_56 R3_58 B_57
  clear S_59
  clear r10 r11
  have r20 := R2_66.out.cell 0 _ rfl
  have r21 := R2_66.out.cell 1 _ rfl
  go_wp2_with fail
  refine (lmay_any (keepS s0 b1 a2) A2 n2 c2 _ L2_65.out).mono ?_; rintro e w7 ⟨rfl, hb⟩
  rw [M2.out]
  have S_70 := Lib.hid hb; clear hb
  have K_71 := Lib.hid (K_60.out.keep S_70.out)
  have X_72 := Lib.hid (X_61.out.below S_70.out)
  have Y_73 := Lib.hid (Y_62.out.below S_70.out)
  have L1_74 := Lib.hid (L1_63.out.keep S_70.out)
  have R1_75 := Lib.hid (R1_64.out.below S_70.out)
  have L2_76 := Lib.hid (L2_65.out.keep S_70.out)
  have R2_77 := Lib.hid (R2_66.out.below S_70.out)
  have L3_78 := Lib.hid (L3_67.out.keep S_70.out)
  have R3_79 := Lib.hid (R3_68.out.below S_70.out)
  have B_80 := Lib.hid (then_ B_69.out S_70.out)
  clear K_60 X_61 Y_62 L1_63 R1_64 L2_65 R2_66 L3_67 R3_68 B_69
  clear S_70
  clear r20 r21
  have r30 := R3_79.out.cell 0 _ rfl
  have r31 := R3_79.out.cell 1 _ rfl
  go_wp2_with fail
  refine (lmay_any (endS s0 b1) A3 n3 c3 _ L3_78.out).mono ?_; rintro e w8 ⟨rfl, hb⟩
  rw [M3.out]
  have S_81 := Lib.hid hb; clear hb
  have K_82 := Lib.hid (K_71.out.keep S_81.out)
  have X_83 := Lib.hid (X_72.out.below S_81.out)
  have Y_84 := Lib.hid (Y_73.out.below S_81.out)
  have L1_85 := Lib.hid (L1_74.out.keep S_81.out)
  have R1_86 := Lib.hid (R1_75.out.below S_81.out)
  have L2_87 := Lib.hid (L2_76.out.keep S_81.out)
  have R2_88 := Lib.hid (R2_77.out.below S_81.out)
  have L3_89 := Lib.hid (L3_78.out.keep S_81.out)
  have R3_90 := Lib.hid (R3_79.out.below S_81.out)
  have B_91 := Lib.hid (then_ B_80.out S_81.out)
  clear K_71 X_72 Y_73 L1_74 R1_75 L2_76 R2_77 L3_78 R3_79 B_80
  clear S_81
  clear r30 r31
  have Q2 : Hid (LsAt w8 s0 A2 n2 c2) := Lib.hid (by have h := L2_87.out; rw [KS.out.1] at h; exact h)
  obtain rfl : n0 = n2 := hn0.symm.trans Q2.out.row.row.len
  have r20 := R2_88.out.cell 0 _ rfl
  have r21 := R2_88.out.cell 1 _ rfl
  have x0 := X_83.out.cell 0 _ rfl
  have x1 := X_83.out.cell 1 _ rfl
  have SM2 := Lib.hid (ls_same s0 A2 A0 n0 c2 c0 _ Q2.out K_82.out (by omega))
  go_wp2_with fail
  refine ((show Calls Try.prog 21 #[Ls.agg (keepS s0 b1 a2) A2 n0 c2, s0.agg A0 n0 c0] _ _ by rw [KS.out.1]; exact SM2.out)).mono ?_; rintro e w9 ⟨rfl, hb⟩
  have S_92 := Lib.hid hb; clear hb
  have K_93 := Lib.hid (K_82.out.keep S_92.out)
  have X_94 := Lib.hid (X_83.out.below S_92.out)
  have Y_95 := Lib.hid (Y_84.out.below S_92.out)
  have L1_96 := Lib.hid (L1_85.out.keep S_92.out)
  have R1_97 := Lib.hid (R1_86.out.below S_92.out)
  have L2_98 := Lib.hid (L2_87.out.keep S_92.out)
  have R2_99 := Lib.hid (R2_88.out.below S_92.out)
  have L3_100 := Lib.hid (L3_89.out.keep S_92.out)
  have R3_101 := Lib.hid (R3_90.out.below S_92.out)
  have B_102 := Lib.hid (then_ B_91.out S_92.out)
  clear K_82 X_83 Y_84 L1_85 R1_86 L2_87 R2_88 L3_89 R3_90 B_91
  clear S_92
  clear r20 r21
  clear x0 x1
  have x0 := X_94.out.cell 0 _ rfl
  have x1 := X_94.out.cell 1 _ rfl
  have y0 := Y_95.out.cell 0 _ rfl
  have y1 := Y_95.out.cell 1 _ rfl
  go_wp2_with fail
  refine (has_any s0 A0 n0 c0 b1 _ K_93.out).mono ?_; rintro e w10 ⟨rfl, hb⟩
  rw [HH.out]
  have S_103 := Lib.hid hb; clear hb
  have K_104 := Lib.hid (K_93.out.keep S_103.out)
  have X_105 := Lib.hid (X_94.out.below S_103.out)
  have Y_106 := Lib.hid (Y_95.out.below S_103.out)
  have L1_107 := Lib.hid (L1_96.out.keep S_103.out)
  have R1_108 := Lib.hid (R1_97.out.below S_103.out)
  have L2_109 := Lib.hid (L2_98.out.keep S_103.out)
  have R2_110 := Lib.hid (R2_99.out.below S_103.out)
  have L3_111 := Lib.hid (L3_100.out.keep S_103.out)
  have R3_112 := Lib.hid (R3_101.out.below S_103.out)
  have B_113 := Lib.hid (then_ B_102.out S_103.out)
  clear K_93 X_94 Y_95 L1_96 R1_97 L2_98 R2_99 L3_100 R3_101 B_102
  clear S_103
  clear x0 x1
  clear y0 y1
  obtain rfl : n1 = n0 + 1 := by have h := L1_107.out.row.row.len; rw [GI.out.1] at h; simp at h; omega
  have hq4 : (((n0 + 1 : Nat) : Int) == (n0 : Int) + 1) = true := by simp
  have r10 := R1_108.out.cell 0 _ rfl
  have r11 := R1_108.out.cell 1 _ rfl
  have x0 := X_105.out.cell 0 _ rfl
  have x1 := X_105.out.cell 1 _ rfl
  go_wp2_with fail
  refine (has_any (grantS s0 a1 a2) A1 (n0 + 1) c1 (grantI s0 a1 a2) _ L1_107.out).mono ?_; rintro e w11 ⟨rfl, hb⟩
  rw [G1.out]
  have S_114 := Lib.hid hb; clear hb
  have K_115 := Lib.hid (K_104.out.keep S_114.out)
  have X_116 := Lib.hid (X_105.out.below S_114.out)
  have Y_117 := Lib.hid (Y_106.out.below S_114.out)
  have L1_118 := Lib.hid (L1_107.out.keep S_114.out)
  have R1_119 := Lib.hid (R1_108.out.below S_114.out)
  have L2_120 := Lib.hid (L2_109.out.keep S_114.out)
  have R2_121 := Lib.hid (R2_110.out.below S_114.out)
  have L3_122 := Lib.hid (L3_111.out.keep S_114.out)
  have R3_123 := Lib.hid (R3_112.out.below S_114.out)
  have B_124 := Lib.hid (then_ B_113.out S_114.out)
  clear K_104 X_105 Y_106 L1_107 R1_108 L2_109 R2_110 L3_111 R3_112 B_113
  clear S_114
  clear r10 r11
  clear x0 x1
  have x0 := X_116.out.cell 0 _ rfl
  have x1 := X_116.out.cell 1 _ rfl
  have r10 := R1_119.out.cell 0 _ rfl
  have r11 := R1_119.out.cell 1 _ rfl
  go_wp2_with fail
  refine (has_any s0 A0 n0 c0 (grantI s0 a1 a2) _ K_115.out).mono ?_; rintro e w12 ⟨rfl, hb⟩
  rw [G2.out]
  have S_125 := Lib.hid hb; clear hb
  have K_126 := Lib.hid (K_115.out.keep S_125.out)
  have X_127 := Lib.hid (X_116.out.below S_125.out)
  have Y_128 := Lib.hid (Y_117.out.below S_125.out)
  have L1_129 := Lib.hid (L1_118.out.keep S_125.out)
  have R1_130 := Lib.hid (R1_119.out.below S_125.out)
  have L2_131 := Lib.hid (L2_120.out.keep S_125.out)
  have R2_132 := Lib.hid (R2_121.out.below S_125.out)
  have L3_133 := Lib.hid (L3_122.out.keep S_125.out)
  have R3_134 := Lib.hid (R3_123.out.below S_125.out)
  have B_135 := Lib.hid (then_ B_124.out S_125.out)
  clear K_115 X_116 Y_117 L1_118 R1_119 L2_120 R2_121 L3_122 R3_123 B_124
  clear S_125
  clear x0 x1
  clear r10 r11
  have r10 := R1_130.out.cell 0 _ rfl
  have r11 := R1_130.out.cell 1 _ rfl
  have x0 := X_127.out.cell 0 _ rfl
  have x1 := X_127.out.cell 1 _ rfl
  have r30 := R3_134.out.cell 0 _ rfl
  have r31 := R3_134.out.cell 1 _ rfl
  have y0 := Y_128.out.cell 0 _ rfl
  have y1 := Y_128.out.cell 1 _ rfl
  obtain ⟨ha1, ha2⟩ := hat
  have da1 : decide (0 ≤ a2) = true := decide_eq_true ha1
  have da2 : decide (a2 ≤ 1099511627775) = false := decide_eq_false (by omega)
  go_wp2_with fail
  refine (has_any (endS s0 b1) A3 n3 c3 b1 _ L3_133.out).mono ?_; rintro e w13 ⟨rfl, hb⟩
  rw [EG.out]
  have S_136 := Lib.hid hb; clear hb
  have K_137 := Lib.hid (K_126.out.keep S_136.out)
  have X_138 := Lib.hid (X_127.out.below S_136.out)
  have Y_139 := Lib.hid (Y_128.out.below S_136.out)
  have L1_140 := Lib.hid (L1_129.out.keep S_136.out)
  have R1_141 := Lib.hid (R1_130.out.below S_136.out)
  have L2_142 := Lib.hid (L2_131.out.keep S_136.out)
  have R2_143 := Lib.hid (R2_132.out.below S_136.out)
  have L3_144 := Lib.hid (L3_133.out.keep S_136.out)
  have R3_145 := Lib.hid (R3_134.out.below S_136.out)
  have B_146 := Lib.hid (then_ B_135.out S_136.out)
  clear K_126 X_127 Y_128 L1_129 R1_130 L2_131 R2_132 L3_133 R3_134 B_135
  clear S_136
  go_wp2_with fail
  refine (live_any _).mono ?_; rintro e w14 ⟨rfl, hb⟩
  have S_147 := Lib.hid hb; clear hb
  have K_148 := Lib.hid (K_137.out.keep S_147.out)
  have X_149 := Lib.hid (X_138.out.below S_147.out)
  have Y_150 := Lib.hid (Y_139.out.below S_147.out)
  have L1_151 := Lib.hid (L1_140.out.keep S_147.out)
  have R1_152 := Lib.hid (R1_141.out.below S_147.out)
  have L2_153 := Lib.hid (L2_142.out.keep S_147.out)
  have R2_154 := Lib.hid (R2_143.out.below S_147.out)
  have L3_155 := Lib.hid (L3_144.out.keep S_147.out)
  have R3_156 := Lib.hid (R3_145.out.below S_147.out)
  have B_157 := Lib.hid (then_ B_146.out S_147.out)
  clear K_137 X_138 Y_139 L1_140 R1_141 L2_142 R2_143 L3_144 R3_145 B_146
  clear S_147
  go_wp2
  go_ret
  exact ⟨rfl, B_157.out⟩
theorem go_ok_not (w : World) (s0 : Ls) (A0 : Option Addr) (n0 c0 : Nat) (a1 b1 a2 : Int) (k0 : LsAt w s0 A0 n0 c0) (w1 : (Lit.int .i64 a1).wf = true) (u1 : (Lit.int .i64 b1).wf = true) (w2 : (Lit.int .i64 a2).wf = true) (hm : mayL s0 = true) (hd : grantE s0 a1 a2 = 0) (hh : hasL s0 b1 = false) :
    Calls Try.prog 5 #[s0.agg A0 n0 c0, .agg #[.int .i64 a1, .int .i64 b1], .int .i64 a2] w fun e w' => e = .returned (.bool true) ∧ Below w.heap.size w w' := by
  have HM := Lib.hid hm
  have MS := Lib.hid ((mayL_iff s0).1 hm)
  have hlo := MS.out.lo
  have hhi := MS.out.hi
  have hl8 := MS.out.len
  have hn0 := k0.row.row.len
  have HSM : Hid (smallT s0) := Lib.hid (fun x hx => by have := okLe_iff.1 (MS.out.ok x hx); omega)
  have M1 : Hid (mayL (grantS s0 a1 a2) = true) := Lib.hid ((mayL_iff _).2 (MS.out.grant a1 a2))
  have M2 : Hid (mayL (keepS s0 b1 a2) = true) := Lib.hid ((mayL_iff _).2 (MS.out.keep b1 a2))
  have M3 : Hid (mayL (endS s0 b1) = true) := Lib.hid ((mayL_iff _).2 (MS.out.drop b1))
  have HH := Lib.hid hh
  have GI := Lib.hid (grant_is hd)
  have hd1 : (grantE s0 a1 a2 == 0) = true := by simp [hd]
  have hd2 : (grantE s0 a1 a2 != 0) = false := by simp [hd]
  have hq1 : (grantI s0 a1 a2 == s0.next + 1) = true := by simp [GI.out.2]
  have G1 : Hid (hasL (grantS s0 a1 a2) (grantI s0 a1 a2) = true) := Lib.hid (by rw [GI.out.2]; exact grant_has hd)
  have G2 : Hid (hasL s0 (grantI s0 a1 a2) = false) := Lib.hid (by rw [GI.out.2]; exact grant_new MS.out)
  have hk : decide (keepE s0 b1 a2 = 0) = false := by rw [keep_has, hh]; rfl
  have hf : decide (endE s0 b1 = 0) = false := by rw [end_has, hh]
  have hk0 : keepE s0 b1 a2 ≠ 0 := of_decide_eq_false hk
  have hk1 : (keepE s0 b1 a2 == 0) = false := by simp [hk0]
  have hk2 : (keepE s0 b1 a2 != 0) = true := by simp [hk0]
  have KS := Lib.hid (keep_same hk0)
  have hq2 : (keepT s0 b1 a2 != 0) = false := by simp [KS.out.2]
  have hf0 : endE s0 b1 ≠ 0 := of_decide_eq_false hf
  have hf1 : (endE s0 b1 == 0) = false := by simp [hf0]
  have hf2 : (endE s0 b1 != 0) = true := by simp [hf0]
  have ES := Lib.hid (end_same hf0)
  have EG := Lib.hid (end_gone MS.out b1)
  clear hm hd hh hk hf hk0 hf0
  have K_0 := Lib.hid (k0.keep (then_ (new1 w (.cells #[.int .i64 s0.next, .slice A0 n0 c0] 24)) (new1 _ (.cells #[.int .i64 a1, .int .i64 b1] 25))))
  have X_0 := Lib.hid ((own_new w #[.int .i64 s0.next, .slice A0 n0 c0] 24).alloc (.cells #[.int .i64 a1, .int .i64 b1] 25))
  have Y_0 := Lib.hid (own_new2 w (.cells #[.int .i64 s0.next, .slice A0 n0 c0] 24) #[.int .i64 a1, .int .i64 b1] 25)
  have B_0 := Lib.hid (then_ (new1 w (.cells #[.int .i64 s0.next, .slice A0 n0 c0] 24)) (new1 _ (.cells #[.int .i64 a1, .int .i64 b1] 25)))
  clear k0
  go_enter Try.func5, Try.ntmps5
  have x0 := X_0.out.cell 0 _ rfl
  have x1 := X_0.out.cell 1 _ rfl
  go_wp2_with fail
  refine (lmay_any s0 A0 n0 c0 _ K_0.out).mono ?_; rintro e w1 ⟨rfl, hb⟩
  rw [HM.out]
  have S_1 := Lib.hid hb; clear hb
  have K_2 := Lib.hid (K_0.out.keep S_1.out)
  have X_3 := Lib.hid (X_0.out.below S_1.out)
  have Y_4 := Lib.hid (Y_0.out.below S_1.out)
  have B_5 := Lib.hid (then_ B_0.out S_1.out)
  clear K_0 X_0 Y_0 B_0
  clear S_1
  clear x0 x1
  have x0 := X_3.out.cell 0 _ rfl
  have x1 := X_3.out.cell 1 _ rfl
  go_wp2_with fail
  refine (lmay_ref s0 A0 n0 c0 _ K_2.out).mono ?_; rintro e w2 ⟨rfl, hb⟩
  rw [HM.out]
  have S_6 := Lib.hid hb; clear hb
  have K_7 := Lib.hid (K_2.out.keep S_6.out)
  have X_8 := Lib.hid (X_3.out.below S_6.out)
  have Y_9 := Lib.hid (Y_4.out.below S_6.out)
  have B_10 := Lib.hid (then_ B_5.out S_6.out)
  clear K_2 X_3 Y_4 B_5
  clear S_6
  clear x0 x1
  have x0 := X_8.out.cell 0 _ rfl
  have x1 := X_8.out.cell 1 _ rfl
  have y0 := Y_9.out.cell 0 _ rfl
  have y1 := Y_9.out.cell 1 _ rfl
  go_wp2_with fail
  refine (grant_any s0 A0 n0 c0 a1 a2 _ K_7.out (by omega)).mono ?_; rintro e w3 ⟨A1, n1, c1, rfl, h1, hb⟩
  have S_11 := Lib.hid hb; clear hb
  have K_12 := Lib.hid (K_7.out.keep S_11.out)
  have X_13 := Lib.hid (X_8.out.below S_11.out)
  have Y_14 := Lib.hid (Y_9.out.below S_11.out)
  have B_15 := Lib.hid (then_ B_10.out S_11.out)
  clear K_7 X_8 Y_9 B_10
  clear S_11
  have L1_16 := Lib.hid (h1)
  clear h1
  have K_17 := Lib.hid (K_12.out.keep (new1 w3 (.cells #[.int .i64 (grantS s0 a1 a2).next, .slice A1 n1 c1] 24)))
  have X_18 := Lib.hid (X_13.out.below (new1 w3 (.cells #[.int .i64 (grantS s0 a1 a2).next, .slice A1 n1 c1] 24)))
  have Y_19 := Lib.hid (Y_14.out.below (new1 w3 (.cells #[.int .i64 (grantS s0 a1 a2).next, .slice A1 n1 c1] 24)))
  have L1_20 := Lib.hid (L1_16.out.keep (new1 w3 (.cells #[.int .i64 (grantS s0 a1 a2).next, .slice A1 n1 c1] 24)))
  have B_21 := Lib.hid (then_ B_15.out (new1 w3 (.cells #[.int .i64 (grantS s0 a1 a2).next, .slice A1 n1 c1] 24)))
  clear K_12 X_13 Y_14 L1_16 B_15
  have R1_22 := Lib.hid (own_new w3 #[.int .i64 (grantS s0 a1 a2).next, .slice A1 n1 c1] 24)
  clear x0 x1
  clear y0 y1
  have x0 := X_18.out.cell 0 _ rfl
  have x1 := X_18.out.cell 1 _ rfl
  have y0 := Y_19.out.cell 0 _ rfl
  have y1 := Y_19.out.cell 1 _ rfl
  go_wp2_with fail
  refine (keep_any s0 A0 n0 c0 b1 a2 _ K_17.out (by omega) HSM.out).mono ?_; rintro e w4 ⟨A2, n2, c2, rfl, h2, hb⟩
  have S_23 := Lib.hid hb; clear hb
  have K_24 := Lib.hid (K_17.out.keep S_23.out)
  have X_25 := Lib.hid (X_18.out.below S_23.out)
  have Y_26 := Lib.hid (Y_19.out.below S_23.out)
  have L1_27 := Lib.hid (L1_20.out.keep S_23.out)
  have R1_28 := Lib.hid (R1_22.out.below S_23.out)
  have B_29 := Lib.hid (then_ B_21.out S_23.out)
  clear K_17 X_18 Y_19 L1_20 R1_22 B_21
  clear S_23
  have L2_30 := Lib.hid (h2)
  clear h2
  have K_31 := Lib.hid (K_24.out.keep (new1 w4 (.cells #[.int .i64 (keepS s0 b1 a2).next, .slice A2 n2 c2] 24)))
  have X_32 := Lib.hid (X_25.out.below (new1 w4 (.cells #[.int .i64 (keepS s0 b1 a2).next, .slice A2 n2 c2] 24)))
  have Y_33 := Lib.hid (Y_26.out.below (new1 w4 (.cells #[.int .i64 (keepS s0 b1 a2).next, .slice A2 n2 c2] 24)))
  have L1_34 := Lib.hid (L1_27.out.keep (new1 w4 (.cells #[.int .i64 (keepS s0 b1 a2).next, .slice A2 n2 c2] 24)))
  have R1_35 := Lib.hid (R1_28.out.below (new1 w4 (.cells #[.int .i64 (keepS s0 b1 a2).next, .slice A2 n2 c2] 24)))
  have L2_36 := Lib.hid (L2_30.out.keep (new1 w4 (.cells #[.int .i64 (keepS s0 b1 a2).next, .slice A2 n2 c2] 24)))
  have B_37 := Lib.hid (then_ B_29.out (new1 w4 (.cells #[.int .i64 (keepS s0 b1 a2).next, .slice A2 n2 c2] 24)))
  clear K_24 X_25 Y_26 L1_27 R1_28 L2_30 B_29
  have R2_38 := Lib.hid (own_new w4 #[.int .i64 (keepS s0 b1 a2).next, .slice A2 n2 c2] 24)
  clear x0 x1
  clear y0 y1
  have x0 := X_32.out.cell 0 _ rfl
  have x1 := X_32.out.cell 1 _ rfl
  have y0 := Y_33.out.cell 0 _ rfl
  have y1 := Y_33.out.cell 1 _ rfl
  go_wp2_with fail
  refine (end_any s0 A0 n0 c0 b1 _ K_31.out (by omega)).mono ?_; rintro e w5 ⟨A3, n3, c3, rfl, h3, hb⟩
  have S_39 := Lib.hid hb; clear hb
  have K_40 := Lib.hid (K_31.out.keep S_39.out)
  have X_41 := Lib.hid (X_32.out.below S_39.out)
  have Y_42 := Lib.hid (Y_33.out.below S_39.out)
  have L1_43 := Lib.hid (L1_34.out.keep S_39.out)
  have R1_44 := Lib.hid (R1_35.out.below S_39.out)
  have L2_45 := Lib.hid (L2_36.out.keep S_39.out)
  have R2_46 := Lib.hid (R2_38.out.below S_39.out)
  have B_47 := Lib.hid (then_ B_37.out S_39.out)
  clear K_31 X_32 Y_33 L1_34 R1_35 L2_36 R2_38 B_37
  clear S_39
  have L3_48 := Lib.hid (h3)
  clear h3
  have K_49 := Lib.hid (K_40.out.keep (new1 w5 (.cells #[.int .i64 (endS s0 b1).next, .slice A3 n3 c3] 24)))
  have X_50 := Lib.hid (X_41.out.below (new1 w5 (.cells #[.int .i64 (endS s0 b1).next, .slice A3 n3 c3] 24)))
  have Y_51 := Lib.hid (Y_42.out.below (new1 w5 (.cells #[.int .i64 (endS s0 b1).next, .slice A3 n3 c3] 24)))
  have L1_52 := Lib.hid (L1_43.out.keep (new1 w5 (.cells #[.int .i64 (endS s0 b1).next, .slice A3 n3 c3] 24)))
  have R1_53 := Lib.hid (R1_44.out.below (new1 w5 (.cells #[.int .i64 (endS s0 b1).next, .slice A3 n3 c3] 24)))
  have L2_54 := Lib.hid (L2_45.out.keep (new1 w5 (.cells #[.int .i64 (endS s0 b1).next, .slice A3 n3 c3] 24)))
  have R2_55 := Lib.hid (R2_46.out.below (new1 w5 (.cells #[.int .i64 (endS s0 b1).next, .slice A3 n3 c3] 24)))
  have L3_56 := Lib.hid (L3_48.out.keep (new1 w5 (.cells #[.int .i64 (endS s0 b1).next, .slice A3 n3 c3] 24)))
  have B_57 := Lib.hid (then_ B_47.out (new1 w5 (.cells #[.int .i64 (endS s0 b1).next, .slice A3 n3 c3] 24)))
  clear K_40 X_41 Y_42 L1_43 R1_44 L2_45 R2_46 L3_48 B_47
  have R3_58 := Lib.hid (own_new w5 #[.int .i64 (endS s0 b1).next, .slice A3 n3 c3] 24)
  clear x0 x1
  clear y0 y1
  have hn1 : n1 ≤ 1000000 := by have h1 := L1_52.out.row.row.len; have h2 := grant_len s0 a1 a2; omega
  have hn2 : n2 ≤ 1000000 := by have h1 := L2_54.out.row.row.len; have h2 := keep_len s0 b1 a2; omega
  have hn3 : n3 ≤ 1000000 := by have h1 := L3_56.out.row.row.len; have h2 := end_len s0 b1; omega
  have r10 := R1_53.out.cell 0 _ rfl
  have r11 := R1_53.out.cell 1 _ rfl
  go_wp2_with fail
  refine (lmay_any (grantS s0 a1 a2) A1 n1 c1 _ L1_52.out).mono ?_; rintro e w6 ⟨rfl, hb⟩
  rw [M1.out]
  have S_59 := Lib.hid hb; clear hb
  have K_60 := Lib.hid (K_49.out.keep S_59.out)
  have X_61 := Lib.hid (X_50.out.below S_59.out)
  have Y_62 := Lib.hid (Y_51.out.below S_59.out)
  have L1_63 := Lib.hid (L1_52.out.keep S_59.out)
  have R1_64 := Lib.hid (R1_53.out.below S_59.out)
  have L2_65 := Lib.hid (L2_54.out.keep S_59.out)
  have R2_66 := Lib.hid (R2_55.out.below S_59.out)
  have L3_67 := Lib.hid (L3_56.out.keep S_59.out)
  have R3_68 := Lib.hid (R3_58.out.below S_59.out)
  have B_69 := Lib.hid (then_ B_57.out S_59.out)
  clear K_49 X_50 Y_51 L1_52 R1_53 L2_54 R2_55 L3_56 R3_58 B_57
  clear S_59
  clear r10 r11
  have r20 := R2_66.out.cell 0 _ rfl
  have r21 := R2_66.out.cell 1 _ rfl
  go_wp2_with fail
  refine (lmay_any (keepS s0 b1 a2) A2 n2 c2 _ L2_65.out).mono ?_; rintro e w7 ⟨rfl, hb⟩
  rw [M2.out]
  have S_70 := Lib.hid hb; clear hb
  have K_71 := Lib.hid (K_60.out.keep S_70.out)
  have X_72 := Lib.hid (X_61.out.below S_70.out)
  have Y_73 := Lib.hid (Y_62.out.below S_70.out)
  have L1_74 := Lib.hid (L1_63.out.keep S_70.out)
  have R1_75 := Lib.hid (R1_64.out.below S_70.out)
  have L2_76 := Lib.hid (L2_65.out.keep S_70.out)
  have R2_77 := Lib.hid (R2_66.out.below S_70.out)
  have L3_78 := Lib.hid (L3_67.out.keep S_70.out)
  have R3_79 := Lib.hid (R3_68.out.below S_70.out)
  have B_80 := Lib.hid (then_ B_69.out S_70.out)
  clear K_60 X_61 Y_62 L1_63 R1_64 L2_65 R2_66 L3_67 R3_68 B_69
  clear S_70
  clear r20 r21
  have r30 := R3_79.out.cell 0 _ rfl
  have r31 := R3_79.out.cell 1 _ rfl
  go_wp2_with fail
  refine (lmay_any (endS s0 b1) A3 n3 c3 _ L3_78.out).mono ?_; rintro e w8 ⟨rfl, hb⟩
  rw [M3.out]
  have S_81 := Lib.hid hb; clear hb
  have K_82 := Lib.hid (K_71.out.keep S_81.out)
  have X_83 := Lib.hid (X_72.out.below S_81.out)
  have Y_84 := Lib.hid (Y_73.out.below S_81.out)
  have L1_85 := Lib.hid (L1_74.out.keep S_81.out)
  have R1_86 := Lib.hid (R1_75.out.below S_81.out)
  have L2_87 := Lib.hid (L2_76.out.keep S_81.out)
  have R2_88 := Lib.hid (R2_77.out.below S_81.out)
  have L3_89 := Lib.hid (L3_78.out.keep S_81.out)
  have R3_90 := Lib.hid (R3_79.out.below S_81.out)
  have B_91 := Lib.hid (then_ B_80.out S_81.out)
  clear K_71 X_72 Y_73 L1_74 R1_75 L2_76 R2_77 L3_78 R3_79 B_80
  clear S_81
  clear r30 r31
  have Q2 : Hid (LsAt w8 s0 A2 n2 c2) := Lib.hid (by have h := L2_87.out; rw [KS.out.1] at h; exact h)
  obtain rfl : n0 = n2 := hn0.symm.trans Q2.out.row.row.len
  have r20 := R2_88.out.cell 0 _ rfl
  have r21 := R2_88.out.cell 1 _ rfl
  have x0 := X_83.out.cell 0 _ rfl
  have x1 := X_83.out.cell 1 _ rfl
  have SM2 := Lib.hid (ls_same s0 A2 A0 n0 c2 c0 _ Q2.out K_82.out (by omega))
  go_wp2_with fail
  refine ((show Calls Try.prog 21 #[Ls.agg (keepS s0 b1 a2) A2 n0 c2, s0.agg A0 n0 c0] _ _ by rw [KS.out.1]; exact SM2.out)).mono ?_; rintro e w9 ⟨rfl, hb⟩
  have S_92 := Lib.hid hb; clear hb
  have K_93 := Lib.hid (K_82.out.keep S_92.out)
  have X_94 := Lib.hid (X_83.out.below S_92.out)
  have Y_95 := Lib.hid (Y_84.out.below S_92.out)
  have L1_96 := Lib.hid (L1_85.out.keep S_92.out)
  have R1_97 := Lib.hid (R1_86.out.below S_92.out)
  have L2_98 := Lib.hid (L2_87.out.keep S_92.out)
  have R2_99 := Lib.hid (R2_88.out.below S_92.out)
  have L3_100 := Lib.hid (L3_89.out.keep S_92.out)
  have R3_101 := Lib.hid (R3_90.out.below S_92.out)
  have B_102 := Lib.hid (then_ B_91.out S_92.out)
  clear K_82 X_83 Y_84 L1_85 R1_86 L2_87 R2_88 L3_89 R3_90 B_91
  clear S_92
  clear r20 r21
  clear x0 x1
  have Q3 : Hid (LsAt w9 s0 A3 n3 c3) := Lib.hid (by have h := L3_100.out; rw [ES.out] at h; exact h)
  obtain rfl : n0 = n3 := hn0.symm.trans Q3.out.row.row.len
  have r30 := R3_101.out.cell 0 _ rfl
  have r31 := R3_101.out.cell 1 _ rfl
  have x0 := X_94.out.cell 0 _ rfl
  have x1 := X_94.out.cell 1 _ rfl
  have SM3 := Lib.hid (ls_same s0 A3 A0 n0 c3 c0 _ Q3.out K_93.out (by omega))
  go_wp2_with fail
  refine ((show Calls Try.prog 21 #[Ls.agg (endS s0 b1) A3 n0 c3, s0.agg A0 n0 c0] _ _ by rw [ES.out]; exact SM3.out)).mono ?_; rintro e w10 ⟨rfl, hb⟩
  have S_103 := Lib.hid hb; clear hb
  have K_104 := Lib.hid (K_93.out.keep S_103.out)
  have X_105 := Lib.hid (X_94.out.below S_103.out)
  have Y_106 := Lib.hid (Y_95.out.below S_103.out)
  have L1_107 := Lib.hid (L1_96.out.keep S_103.out)
  have R1_108 := Lib.hid (R1_97.out.below S_103.out)
  have L2_109 := Lib.hid (L2_98.out.keep S_103.out)
  have R2_110 := Lib.hid (R2_99.out.below S_103.out)
  have L3_111 := Lib.hid (L3_100.out.keep S_103.out)
  have R3_112 := Lib.hid (R3_101.out.below S_103.out)
  have B_113 := Lib.hid (then_ B_102.out S_103.out)
  clear K_93 X_94 Y_95 L1_96 R1_97 L2_98 R2_99 L3_100 R3_101 B_102
  clear S_103
  clear r30 r31
  clear x0 x1
  have x0 := X_105.out.cell 0 _ rfl
  have x1 := X_105.out.cell 1 _ rfl
  have y0 := Y_106.out.cell 0 _ rfl
  have y1 := Y_106.out.cell 1 _ rfl
  go_wp2_with fail
  refine (has_any s0 A0 n0 c0 b1 _ K_104.out).mono ?_; rintro e w11 ⟨rfl, hb⟩
  rw [HH.out]
  have S_114 := Lib.hid hb; clear hb
  have K_115 := Lib.hid (K_104.out.keep S_114.out)
  have X_116 := Lib.hid (X_105.out.below S_114.out)
  have Y_117 := Lib.hid (Y_106.out.below S_114.out)
  have L1_118 := Lib.hid (L1_107.out.keep S_114.out)
  have R1_119 := Lib.hid (R1_108.out.below S_114.out)
  have L2_120 := Lib.hid (L2_109.out.keep S_114.out)
  have R2_121 := Lib.hid (R2_110.out.below S_114.out)
  have L3_122 := Lib.hid (L3_111.out.keep S_114.out)
  have R3_123 := Lib.hid (R3_112.out.below S_114.out)
  have B_124 := Lib.hid (then_ B_113.out S_114.out)
  clear K_104 X_105 Y_106 L1_107 R1_108 L2_109 R2_110 L3_111 R3_112 B_113
  clear S_114
  clear x0 x1
  clear y0 y1
  obtain rfl : n1 = n0 + 1 := by have h := L1_118.out.row.row.len; rw [GI.out.1] at h; simp at h; omega
  have hq4 : (((n0 + 1 : Nat) : Int) == (n0 : Int) + 1) = true := by simp
  have r10 := R1_119.out.cell 0 _ rfl
  have r11 := R1_119.out.cell 1 _ rfl
  have x0 := X_116.out.cell 0 _ rfl
  have x1 := X_116.out.cell 1 _ rfl
  go_wp2_with fail
  refine (has_any (grantS s0 a1 a2) A1 (n0 + 1) c1 (grantI s0 a1 a2) _ L1_118.out).mono ?_; rintro e w12 ⟨rfl, hb⟩
  rw [G1.out]
  have S_125 := Lib.hid hb; clear hb
  have K_126 := Lib.hid (K_115.out.keep S_125.out)
  have X_127 := Lib.hid (X_116.out.below S_125.out)
  have Y_128 := Lib.hid (Y_117.out.below S_125.out)
  have L1_129 := Lib.hid (L1_118.out.keep S_125.out)
  have R1_130 := Lib.hid (R1_119.out.below S_125.out)
  have L2_131 := Lib.hid (L2_120.out.keep S_125.out)
  have R2_132 := Lib.hid (R2_121.out.below S_125.out)
  have L3_133 := Lib.hid (L3_122.out.keep S_125.out)
  have R3_134 := Lib.hid (R3_123.out.below S_125.out)
  have B_135 := Lib.hid (then_ B_124.out S_125.out)
  clear K_115 X_116 Y_117 L1_118 R1_119 L2_120 R2_121 L3_122 R3_123 B_124
  clear S_125
  clear r10 r11
  clear x0 x1
  have x0 := X_127.out.cell 0 _ rfl
  have x1 := X_127.out.cell 1 _ rfl
  have r10 := R1_130.out.cell 0 _ rfl
  have r11 := R1_130.out.cell 1 _ rfl
  go_wp2_with fail
  refine (has_any s0 A0 n0 c0 (grantI s0 a1 a2) _ K_126.out).mono ?_; rintro e w13 ⟨rfl, hb⟩
  rw [G2.out]
  have S_136 := Lib.hid hb; clear hb
  have K_137 := Lib.hid (K_126.out.keep S_136.out)
  have X_138 := Lib.hid (X_127.out.below S_136.out)
  have Y_139 := Lib.hid (Y_128.out.below S_136.out)
  have L1_140 := Lib.hid (L1_129.out.keep S_136.out)
  have R1_141 := Lib.hid (R1_130.out.below S_136.out)
  have L2_142 := Lib.hid (L2_131.out.keep S_136.out)
  have R2_143 := Lib.hid (R2_132.out.below S_136.out)
  have L3_144 := Lib.hid (L3_133.out.keep S_136.out)
  have R3_145 := Lib.hid (R3_134.out.below S_136.out)
  have B_146 := Lib.hid (then_ B_135.out S_136.out)
  clear K_126 X_127 Y_128 L1_129 R1_130 L2_131 R2_132 L3_133 R3_134 B_135
  clear S_136
  clear x0 x1
  clear r10 r11
  have r10 := R1_141.out.cell 0 _ rfl
  have r11 := R1_141.out.cell 1 _ rfl
  have x0 := X_138.out.cell 0 _ rfl
  have x1 := X_138.out.cell 1 _ rfl
  have r30 := R3_145.out.cell 0 _ rfl
  have r31 := R3_145.out.cell 1 _ rfl
  have y0 := Y_139.out.cell 0 _ rfl
  have y1 := Y_139.out.cell 1 _ rfl
  go_wp2_with fail
  refine (has_any (endS s0 b1) A3 n0 c3 b1 _ L3_144.out).mono ?_; rintro e w14 ⟨rfl, hb⟩
  rw [EG.out]
  have S_147 := Lib.hid hb; clear hb
  have K_148 := Lib.hid (K_137.out.keep S_147.out)
  have X_149 := Lib.hid (X_138.out.below S_147.out)
  have Y_150 := Lib.hid (Y_139.out.below S_147.out)
  have L1_151 := Lib.hid (L1_140.out.keep S_147.out)
  have R1_152 := Lib.hid (R1_141.out.below S_147.out)
  have L2_153 := Lib.hid (L2_142.out.keep S_147.out)
  have R2_154 := Lib.hid (R2_143.out.below S_147.out)
  have L3_155 := Lib.hid (L3_144.out.keep S_147.out)
  have R3_156 := Lib.hid (R3_145.out.below S_147.out)
  have B_157 := Lib.hid (then_ B_146.out S_147.out)
  clear K_137 X_138 Y_139 L1_140 R1_141 L2_142 R2_143 L3_144 R3_145 B_146
  clear S_147
  go_wp2_with fail
  refine (live_any _).mono ?_; rintro e w15 ⟨rfl, hb⟩
  have S_158 := Lib.hid hb; clear hb
  have K_159 := Lib.hid (K_148.out.keep S_158.out)
  have X_160 := Lib.hid (X_149.out.below S_158.out)
  have Y_161 := Lib.hid (Y_150.out.below S_158.out)
  have L1_162 := Lib.hid (L1_151.out.keep S_158.out)
  have R1_163 := Lib.hid (R1_152.out.below S_158.out)
  have L2_164 := Lib.hid (L2_153.out.keep S_158.out)
  have R2_165 := Lib.hid (R2_154.out.below S_158.out)
  have L3_166 := Lib.hid (L3_155.out.keep S_158.out)
  have R3_167 := Lib.hid (R3_156.out.below S_158.out)
  have B_168 := Lib.hid (then_ B_157.out S_158.out)
  clear K_148 X_149 Y_150 L1_151 R1_152 L2_153 R2_154 L3_155 R3_156 B_157
  clear S_158
  go_wp2
  go_ret
  exact ⟨rfl, B_168.out⟩
theorem go_err_in (w : World) (s0 : Ls) (A0 : Option Addr) (n0 c0 : Nat) (a1 b1 a2 : Int) (k0 : LsAt w s0 A0 n0 c0) (w1 : (Lit.int .i64 a1).wf = true) (u1 : (Lit.int .i64 b1).wf = true) (w2 : (Lit.int .i64 a2).wf = true) (hm : mayL s0 = true) (hd : grantE s0 a1 a2 ≠ 0) (hh : hasL s0 b1 = true) (hat : 0 ≤ a2 ∧ a2 ≤ 1099511627775) :
    Calls Try.prog 5 #[s0.agg A0 n0 c0, .agg #[.int .i64 a1, .int .i64 b1], .int .i64 a2] w fun e w' => e = .returned (.bool true) ∧ Below w.heap.size w w' := by
  have HM := Lib.hid hm
  have MS := Lib.hid ((mayL_iff s0).1 hm)
  have hlo := MS.out.lo
  have hhi := MS.out.hi
  have hl8 := MS.out.len
  have hn0 := k0.row.row.len
  have HSM : Hid (smallT s0) := Lib.hid (fun x hx => by have := okLe_iff.1 (MS.out.ok x hx); omega)
  have M1 : Hid (mayL (grantS s0 a1 a2) = true) := Lib.hid ((mayL_iff _).2 (MS.out.grant a1 a2))
  have M2 : Hid (mayL (keepS s0 b1 a2) = true) := Lib.hid ((mayL_iff _).2 (MS.out.keep b1 a2))
  have M3 : Hid (mayL (endS s0 b1) = true) := Lib.hid ((mayL_iff _).2 (MS.out.drop b1))
  have HH := Lib.hid hh
  have GS := Lib.hid (grant_same hd)
  have hd1 : (grantE s0 a1 a2 == 0) = false := by simp [hd]
  have hd2 : (grantE s0 a1 a2 != 0) = true := by simp [hd]
  have hq1 : (grantI s0 a1 a2 != 0) = false := by simp [GS.out.2]
  have hk : decide (keepE s0 b1 a2 = 0) = true := by rw [keep_has, hh]; simp [atB]; omega
  have hf : decide (endE s0 b1 = 0) = true := by rw [end_has, hh]
  have hk0 : keepE s0 b1 a2 = 0 := of_decide_eq_true hk
  have hk1 : (keepE s0 b1 a2 == 0) = true := by simp [hk0]
  have hk2 : (keepE s0 b1 a2 != 0) = false := by simp [hk0]
  have hf0 : endE s0 b1 = 0 := of_decide_eq_true hf
  have hf1 : (endE s0 b1 == 0) = true := by simp [hf0]
  have hf2 : (endE s0 b1 != 0) = false := by simp [hf0]
  have EG := Lib.hid (end_gone MS.out b1)
  clear hm hd hh hk hf hk0 hf0
  have K_0 := Lib.hid (k0.keep (then_ (new1 w (.cells #[.int .i64 s0.next, .slice A0 n0 c0] 24)) (new1 _ (.cells #[.int .i64 a1, .int .i64 b1] 25))))
  have X_0 := Lib.hid ((own_new w #[.int .i64 s0.next, .slice A0 n0 c0] 24).alloc (.cells #[.int .i64 a1, .int .i64 b1] 25))
  have Y_0 := Lib.hid (own_new2 w (.cells #[.int .i64 s0.next, .slice A0 n0 c0] 24) #[.int .i64 a1, .int .i64 b1] 25)
  have B_0 := Lib.hid (then_ (new1 w (.cells #[.int .i64 s0.next, .slice A0 n0 c0] 24)) (new1 _ (.cells #[.int .i64 a1, .int .i64 b1] 25)))
  clear k0
  go_enter Try.func5, Try.ntmps5
  have x0 := X_0.out.cell 0 _ rfl
  have x1 := X_0.out.cell 1 _ rfl
  go_wp2_with fail
  refine (lmay_any s0 A0 n0 c0 _ K_0.out).mono ?_; rintro e w1 ⟨rfl, hb⟩
  rw [HM.out]
  have S_1 := Lib.hid hb; clear hb
  have K_2 := Lib.hid (K_0.out.keep S_1.out)
  have X_3 := Lib.hid (X_0.out.below S_1.out)
  have Y_4 := Lib.hid (Y_0.out.below S_1.out)
  have B_5 := Lib.hid (then_ B_0.out S_1.out)
  clear K_0 X_0 Y_0 B_0
  clear S_1
  clear x0 x1
  have x0 := X_3.out.cell 0 _ rfl
  have x1 := X_3.out.cell 1 _ rfl
  go_wp2_with fail
  refine (lmay_ref s0 A0 n0 c0 _ K_2.out).mono ?_; rintro e w2 ⟨rfl, hb⟩
  rw [HM.out]
  have S_6 := Lib.hid hb; clear hb
  have K_7 := Lib.hid (K_2.out.keep S_6.out)
  have X_8 := Lib.hid (X_3.out.below S_6.out)
  have Y_9 := Lib.hid (Y_4.out.below S_6.out)
  have B_10 := Lib.hid (then_ B_5.out S_6.out)
  clear K_2 X_3 Y_4 B_5
  clear S_6
  clear x0 x1
  have x0 := X_8.out.cell 0 _ rfl
  have x1 := X_8.out.cell 1 _ rfl
  have y0 := Y_9.out.cell 0 _ rfl
  have y1 := Y_9.out.cell 1 _ rfl
  go_wp2_with fail
  refine (grant_any s0 A0 n0 c0 a1 a2 _ K_7.out (by omega)).mono ?_; rintro e w3 ⟨A1, n1, c1, rfl, h1, hb⟩
  have S_11 := Lib.hid hb; clear hb
  have K_12 := Lib.hid (K_7.out.keep S_11.out)
  have X_13 := Lib.hid (X_8.out.below S_11.out)
  have Y_14 := Lib.hid (Y_9.out.below S_11.out)
  have B_15 := Lib.hid (then_ B_10.out S_11.out)
  clear K_7 X_8 Y_9 B_10
  clear S_11
  have L1_16 := Lib.hid (h1)
  clear h1
  have K_17 := Lib.hid (K_12.out.keep (new1 w3 (.cells #[.int .i64 (grantS s0 a1 a2).next, .slice A1 n1 c1] 24)))
  have X_18 := Lib.hid (X_13.out.below (new1 w3 (.cells #[.int .i64 (grantS s0 a1 a2).next, .slice A1 n1 c1] 24)))
  have Y_19 := Lib.hid (Y_14.out.below (new1 w3 (.cells #[.int .i64 (grantS s0 a1 a2).next, .slice A1 n1 c1] 24)))
  have L1_20 := Lib.hid (L1_16.out.keep (new1 w3 (.cells #[.int .i64 (grantS s0 a1 a2).next, .slice A1 n1 c1] 24)))
  have B_21 := Lib.hid (then_ B_15.out (new1 w3 (.cells #[.int .i64 (grantS s0 a1 a2).next, .slice A1 n1 c1] 24)))
  clear K_12 X_13 Y_14 L1_16 B_15
  have R1_22 := Lib.hid (own_new w3 #[.int .i64 (grantS s0 a1 a2).next, .slice A1 n1 c1] 24)
  clear x0 x1
  clear y0 y1
  have x0 := X_18.out.cell 0 _ rfl
  have x1 := X_18.out.cell 1 _ rfl
  have y0 := Y_19.out.cell 0 _ rfl
  have y1 := Y_19.out.cell 1 _ rfl
  go_wp2_with fail
  refine (keep_any s0 A0 n0 c0 b1 a2 _ K_17.out (by omega) HSM.out).mono ?_; rintro e w4 ⟨A2, n2, c2, rfl, h2, hb⟩
  have S_23 := Lib.hid hb; clear hb
  have K_24 := Lib.hid (K_17.out.keep S_23.out)
  have X_25 := Lib.hid (X_18.out.below S_23.out)
  have Y_26 := Lib.hid (Y_19.out.below S_23.out)
  have L1_27 := Lib.hid (L1_20.out.keep S_23.out)
  have R1_28 := Lib.hid (R1_22.out.below S_23.out)
  have B_29 := Lib.hid (then_ B_21.out S_23.out)
  clear K_17 X_18 Y_19 L1_20 R1_22 B_21
  clear S_23
  have L2_30 := Lib.hid (h2)
  clear h2
  have K_31 := Lib.hid (K_24.out.keep (new1 w4 (.cells #[.int .i64 (keepS s0 b1 a2).next, .slice A2 n2 c2] 24)))
  have X_32 := Lib.hid (X_25.out.below (new1 w4 (.cells #[.int .i64 (keepS s0 b1 a2).next, .slice A2 n2 c2] 24)))
  have Y_33 := Lib.hid (Y_26.out.below (new1 w4 (.cells #[.int .i64 (keepS s0 b1 a2).next, .slice A2 n2 c2] 24)))
  have L1_34 := Lib.hid (L1_27.out.keep (new1 w4 (.cells #[.int .i64 (keepS s0 b1 a2).next, .slice A2 n2 c2] 24)))
  have R1_35 := Lib.hid (R1_28.out.below (new1 w4 (.cells #[.int .i64 (keepS s0 b1 a2).next, .slice A2 n2 c2] 24)))
  have L2_36 := Lib.hid (L2_30.out.keep (new1 w4 (.cells #[.int .i64 (keepS s0 b1 a2).next, .slice A2 n2 c2] 24)))
  have B_37 := Lib.hid (then_ B_29.out (new1 w4 (.cells #[.int .i64 (keepS s0 b1 a2).next, .slice A2 n2 c2] 24)))
  clear K_24 X_25 Y_26 L1_27 R1_28 L2_30 B_29
  have R2_38 := Lib.hid (own_new w4 #[.int .i64 (keepS s0 b1 a2).next, .slice A2 n2 c2] 24)
  clear x0 x1
  clear y0 y1
  have x0 := X_32.out.cell 0 _ rfl
  have x1 := X_32.out.cell 1 _ rfl
  have y0 := Y_33.out.cell 0 _ rfl
  have y1 := Y_33.out.cell 1 _ rfl
  go_wp2_with fail
  refine (end_any s0 A0 n0 c0 b1 _ K_31.out (by omega)).mono ?_; rintro e w5 ⟨A3, n3, c3, rfl, h3, hb⟩
  have S_39 := Lib.hid hb; clear hb
  have K_40 := Lib.hid (K_31.out.keep S_39.out)
  have X_41 := Lib.hid (X_32.out.below S_39.out)
  have Y_42 := Lib.hid (Y_33.out.below S_39.out)
  have L1_43 := Lib.hid (L1_34.out.keep S_39.out)
  have R1_44 := Lib.hid (R1_35.out.below S_39.out)
  have L2_45 := Lib.hid (L2_36.out.keep S_39.out)
  have R2_46 := Lib.hid (R2_38.out.below S_39.out)
  have B_47 := Lib.hid (then_ B_37.out S_39.out)
  clear K_31 X_32 Y_33 L1_34 R1_35 L2_36 R2_38 B_37
  clear S_39
  have L3_48 := Lib.hid (h3)
  clear h3
  have K_49 := Lib.hid (K_40.out.keep (new1 w5 (.cells #[.int .i64 (endS s0 b1).next, .slice A3 n3 c3] 24)))
  have X_50 := Lib.hid (X_41.out.below (new1 w5 (.cells #[.int .i64 (endS s0 b1).next, .slice A3 n3 c3] 24)))
  have Y_51 := Lib.hid (Y_42.out.below (new1 w5 (.cells #[.int .i64 (endS s0 b1).next, .slice A3 n3 c3] 24)))
  have L1_52 := Lib.hid (L1_43.out.keep (new1 w5 (.cells #[.int .i64 (endS s0 b1).next, .slice A3 n3 c3] 24)))
  have R1_53 := Lib.hid (R1_44.out.below (new1 w5 (.cells #[.int .i64 (endS s0 b1).next, .slice A3 n3 c3] 24)))
  have L2_54 := Lib.hid (L2_45.out.keep (new1 w5 (.cells #[.int .i64 (endS s0 b1).next, .slice A3 n3 c3] 24)))
  have R2_55 := Lib.hid (R2_46.out.below (new1 w5 (.cells #[.int .i64 (endS s0 b1).next, .slice A3 n3 c3] 24)))
  have L3_56 := Lib.hid (L3_48.out.keep (new1 w5 (.cells #[.int .i64 (endS s0 b1).next, .slice A3 n3 c3] 24)))
  have B_57 := Lib.hid (then_ B_47.out (new1 w5 (.cells #[.int .i64 (endS s0 b1).next, .slice A3 n3 c3] 24)))
  clear K_40 X_41 Y_42 L1_43 R1_44 L2_45 R2_46 L3_48 B_47
  have R3_58 := Lib.hid (own_new w5 #[.int .i64 (endS s0 b1).next, .slice A3 n3 c3] 24)
  clear x0 x1
  clear y0 y1
  have hn1 : n1 ≤ 1000000 := by have h1 := L1_52.out.row.row.len; have h2 := grant_len s0 a1 a2; omega
  have hn2 : n2 ≤ 1000000 := by have h1 := L2_54.out.row.row.len; have h2 := keep_len s0 b1 a2; omega
  have hn3 : n3 ≤ 1000000 := by have h1 := L3_56.out.row.row.len; have h2 := end_len s0 b1; omega
  have r10 := R1_53.out.cell 0 _ rfl
  have r11 := R1_53.out.cell 1 _ rfl
  go_wp2_with fail
  refine (lmay_any (grantS s0 a1 a2) A1 n1 c1 _ L1_52.out).mono ?_; rintro e w6 ⟨rfl, hb⟩
  rw [M1.out]
  have S_59 := Lib.hid hb; clear hb
  have K_60 := Lib.hid (K_49.out.keep S_59.out)
  have X_61 := Lib.hid (X_50.out.below S_59.out)
  have Y_62 := Lib.hid (Y_51.out.below S_59.out)
  have L1_63 := Lib.hid (L1_52.out.keep S_59.out)
  have R1_64 := Lib.hid (R1_53.out.below S_59.out)
  have L2_65 := Lib.hid (L2_54.out.keep S_59.out)
  have R2_66 := Lib.hid (R2_55.out.below S_59.out)
  have L3_67 := Lib.hid (L3_56.out.keep S_59.out)
  have R3_68 := Lib.hid (R3_58.out.below S_59.out)
  have B_69 := Lib.hid (then_ B_57.out S_59.out)
  clear K_49 X_50 Y_51 L1_52 R1_53 L2_54 R2_55 L3_56 R3_58 B_57
  clear S_59
  clear r10 r11
  have r20 := R2_66.out.cell 0 _ rfl
  have r21 := R2_66.out.cell 1 _ rfl
  go_wp2_with fail
  refine (lmay_any (keepS s0 b1 a2) A2 n2 c2 _ L2_65.out).mono ?_; rintro e w7 ⟨rfl, hb⟩
  rw [M2.out]
  have S_70 := Lib.hid hb; clear hb
  have K_71 := Lib.hid (K_60.out.keep S_70.out)
  have X_72 := Lib.hid (X_61.out.below S_70.out)
  have Y_73 := Lib.hid (Y_62.out.below S_70.out)
  have L1_74 := Lib.hid (L1_63.out.keep S_70.out)
  have R1_75 := Lib.hid (R1_64.out.below S_70.out)
  have L2_76 := Lib.hid (L2_65.out.keep S_70.out)
  have R2_77 := Lib.hid (R2_66.out.below S_70.out)
  have L3_78 := Lib.hid (L3_67.out.keep S_70.out)
  have R3_79 := Lib.hid (R3_68.out.below S_70.out)
  have B_80 := Lib.hid (then_ B_69.out S_70.out)
  clear K_60 X_61 Y_62 L1_63 R1_64 L2_65 R2_66 L3_67 R3_68 B_69
  clear S_70
  clear r20 r21
  have r30 := R3_79.out.cell 0 _ rfl
  have r31 := R3_79.out.cell 1 _ rfl
  go_wp2_with fail
  refine (lmay_any (endS s0 b1) A3 n3 c3 _ L3_78.out).mono ?_; rintro e w8 ⟨rfl, hb⟩
  rw [M3.out]
  have S_81 := Lib.hid hb; clear hb
  have K_82 := Lib.hid (K_71.out.keep S_81.out)
  have X_83 := Lib.hid (X_72.out.below S_81.out)
  have Y_84 := Lib.hid (Y_73.out.below S_81.out)
  have L1_85 := Lib.hid (L1_74.out.keep S_81.out)
  have R1_86 := Lib.hid (R1_75.out.below S_81.out)
  have L2_87 := Lib.hid (L2_76.out.keep S_81.out)
  have R2_88 := Lib.hid (R2_77.out.below S_81.out)
  have L3_89 := Lib.hid (L3_78.out.keep S_81.out)
  have R3_90 := Lib.hid (R3_79.out.below S_81.out)
  have B_91 := Lib.hid (then_ B_80.out S_81.out)
  clear K_71 X_72 Y_73 L1_74 R1_75 L2_76 R2_77 L3_78 R3_79 B_80
  clear S_81
  clear r30 r31
  have Q1 : Hid (LsAt w8 s0 A1 n1 c1) := Lib.hid (by have h := L1_85.out; rw [GS.out.1] at h; exact h)
  obtain rfl : n0 = n1 := hn0.symm.trans Q1.out.row.row.len
  have r10 := R1_86.out.cell 0 _ rfl
  have r11 := R1_86.out.cell 1 _ rfl
  have x0 := X_83.out.cell 0 _ rfl
  have x1 := X_83.out.cell 1 _ rfl
  have SM1 := Lib.hid (ls_same s0 A1 A0 n0 c1 c0 _ Q1.out K_82.out (by omega))
  go_wp2_with fail
  refine ((show Calls Try.prog 21 #[Ls.agg (grantS s0 a1 a2) A1 n0 c1, s0.agg A0 n0 c0] _ _ by rw [GS.out.1]; exact SM1.out)).mono ?_; rintro e w9 ⟨rfl, hb⟩
  have S_92 := Lib.hid hb; clear hb
  have K_93 := Lib.hid (K_82.out.keep S_92.out)
  have X_94 := Lib.hid (X_83.out.below S_92.out)
  have Y_95 := Lib.hid (Y_84.out.below S_92.out)
  have L1_96 := Lib.hid (L1_85.out.keep S_92.out)
  have R1_97 := Lib.hid (R1_86.out.below S_92.out)
  have L2_98 := Lib.hid (L2_87.out.keep S_92.out)
  have R2_99 := Lib.hid (R2_88.out.below S_92.out)
  have L3_100 := Lib.hid (L3_89.out.keep S_92.out)
  have R3_101 := Lib.hid (R3_90.out.below S_92.out)
  have B_102 := Lib.hid (then_ B_91.out S_92.out)
  clear K_82 X_83 Y_84 L1_85 R1_86 L2_87 R2_88 L3_89 R3_90 B_91
  clear S_92
  clear r10 r11
  clear x0 x1
  have x0 := X_94.out.cell 0 _ rfl
  have x1 := X_94.out.cell 1 _ rfl
  have y0 := Y_95.out.cell 0 _ rfl
  have y1 := Y_95.out.cell 1 _ rfl
  go_wp2_with fail
  refine (has_any s0 A0 n0 c0 b1 _ K_93.out).mono ?_; rintro e w10 ⟨rfl, hb⟩
  rw [HH.out]
  have S_103 := Lib.hid hb; clear hb
  have K_104 := Lib.hid (K_93.out.keep S_103.out)
  have X_105 := Lib.hid (X_94.out.below S_103.out)
  have Y_106 := Lib.hid (Y_95.out.below S_103.out)
  have L1_107 := Lib.hid (L1_96.out.keep S_103.out)
  have R1_108 := Lib.hid (R1_97.out.below S_103.out)
  have L2_109 := Lib.hid (L2_98.out.keep S_103.out)
  have R2_110 := Lib.hid (R2_99.out.below S_103.out)
  have L3_111 := Lib.hid (L3_100.out.keep S_103.out)
  have R3_112 := Lib.hid (R3_101.out.below S_103.out)
  have B_113 := Lib.hid (then_ B_102.out S_103.out)
  clear K_93 X_94 Y_95 L1_96 R1_97 L2_98 R2_99 L3_100 R3_101 B_102
  clear S_103
  clear x0 x1
  clear y0 y1
  have r30 := R3_112.out.cell 0 _ rfl
  have r31 := R3_112.out.cell 1 _ rfl
  have y0 := Y_106.out.cell 0 _ rfl
  have y1 := Y_106.out.cell 1 _ rfl
  have x0 := X_105.out.cell 0 _ rfl
  have x1 := X_105.out.cell 1 _ rfl
  obtain ⟨ha1, ha2⟩ := hat
  have da1 : decide (0 ≤ a2) = true := decide_eq_true ha1
  have da2 : decide (a2 ≤ 1099511627775) = true := decide_eq_true ha2
  go_wp2_with fail
  refine (has_any (endS s0 b1) A3 n3 c3 b1 _ L3_111.out).mono ?_; rintro e w11 ⟨rfl, hb⟩
  rw [EG.out]
  have S_114 := Lib.hid hb; clear hb
  have K_115 := Lib.hid (K_104.out.keep S_114.out)
  have X_116 := Lib.hid (X_105.out.below S_114.out)
  have Y_117 := Lib.hid (Y_106.out.below S_114.out)
  have L1_118 := Lib.hid (L1_107.out.keep S_114.out)
  have R1_119 := Lib.hid (R1_108.out.below S_114.out)
  have L2_120 := Lib.hid (L2_109.out.keep S_114.out)
  have R2_121 := Lib.hid (R2_110.out.below S_114.out)
  have L3_122 := Lib.hid (L3_111.out.keep S_114.out)
  have R3_123 := Lib.hid (R3_112.out.below S_114.out)
  have B_124 := Lib.hid (then_ B_113.out S_114.out)
  clear K_104 X_105 Y_106 L1_107 R1_108 L2_109 R2_110 L3_111 R3_112 B_113
  clear S_114
  go_wp2_with fail
  refine (live_any _).mono ?_; rintro e w12 ⟨rfl, hb⟩
  have S_125 := Lib.hid hb; clear hb
  have K_126 := Lib.hid (K_115.out.keep S_125.out)
  have X_127 := Lib.hid (X_116.out.below S_125.out)
  have Y_128 := Lib.hid (Y_117.out.below S_125.out)
  have L1_129 := Lib.hid (L1_118.out.keep S_125.out)
  have R1_130 := Lib.hid (R1_119.out.below S_125.out)
  have L2_131 := Lib.hid (L2_120.out.keep S_125.out)
  have R2_132 := Lib.hid (R2_121.out.below S_125.out)
  have L3_133 := Lib.hid (L3_122.out.keep S_125.out)
  have R3_134 := Lib.hid (R3_123.out.below S_125.out)
  have B_135 := Lib.hid (then_ B_124.out S_125.out)
  clear K_115 X_116 Y_117 L1_118 R1_119 L2_120 R2_121 L3_122 R3_123 B_124
  clear S_125
  go_wp2
  go_ret
  exact ⟨rfl, B_135.out⟩
theorem go_err_low (w : World) (s0 : Ls) (A0 : Option Addr) (n0 c0 : Nat) (a1 b1 a2 : Int) (k0 : LsAt w s0 A0 n0 c0) (w1 : (Lit.int .i64 a1).wf = true) (u1 : (Lit.int .i64 b1).wf = true) (w2 : (Lit.int .i64 a2).wf = true) (hm : mayL s0 = true) (hd : grantE s0 a1 a2 ≠ 0) (hh : hasL s0 b1 = true) (hat : a2 < 0) :
    Calls Try.prog 5 #[s0.agg A0 n0 c0, .agg #[.int .i64 a1, .int .i64 b1], .int .i64 a2] w fun e w' => e = .returned (.bool true) ∧ Below w.heap.size w w' := by
  have HM := Lib.hid hm
  have MS := Lib.hid ((mayL_iff s0).1 hm)
  have hlo := MS.out.lo
  have hhi := MS.out.hi
  have hl8 := MS.out.len
  have hn0 := k0.row.row.len
  have HSM : Hid (smallT s0) := Lib.hid (fun x hx => by have := okLe_iff.1 (MS.out.ok x hx); omega)
  have M1 : Hid (mayL (grantS s0 a1 a2) = true) := Lib.hid ((mayL_iff _).2 (MS.out.grant a1 a2))
  have M2 : Hid (mayL (keepS s0 b1 a2) = true) := Lib.hid ((mayL_iff _).2 (MS.out.keep b1 a2))
  have M3 : Hid (mayL (endS s0 b1) = true) := Lib.hid ((mayL_iff _).2 (MS.out.drop b1))
  have HH := Lib.hid hh
  have GS := Lib.hid (grant_same hd)
  have hd1 : (grantE s0 a1 a2 == 0) = false := by simp [hd]
  have hd2 : (grantE s0 a1 a2 != 0) = true := by simp [hd]
  have hq1 : (grantI s0 a1 a2 != 0) = false := by simp [GS.out.2]
  have hk : decide (keepE s0 b1 a2 = 0) = false := by rw [keep_has, hh]; simp [atB]; omega
  have hf : decide (endE s0 b1 = 0) = true := by rw [end_has, hh]
  have hk0 : keepE s0 b1 a2 ≠ 0 := of_decide_eq_false hk
  have hk1 : (keepE s0 b1 a2 == 0) = false := by simp [hk0]
  have hk2 : (keepE s0 b1 a2 != 0) = true := by simp [hk0]
  have KS := Lib.hid (keep_same hk0)
  have hq2 : (keepT s0 b1 a2 != 0) = false := by simp [KS.out.2]
  have hf0 : endE s0 b1 = 0 := of_decide_eq_true hf
  have hf1 : (endE s0 b1 == 0) = true := by simp [hf0]
  have hf2 : (endE s0 b1 != 0) = false := by simp [hf0]
  have EG := Lib.hid (end_gone MS.out b1)
  clear hm hd hh hk hf hk0 hf0
  have K_0 := Lib.hid (k0.keep (then_ (new1 w (.cells #[.int .i64 s0.next, .slice A0 n0 c0] 24)) (new1 _ (.cells #[.int .i64 a1, .int .i64 b1] 25))))
  have X_0 := Lib.hid ((own_new w #[.int .i64 s0.next, .slice A0 n0 c0] 24).alloc (.cells #[.int .i64 a1, .int .i64 b1] 25))
  have Y_0 := Lib.hid (own_new2 w (.cells #[.int .i64 s0.next, .slice A0 n0 c0] 24) #[.int .i64 a1, .int .i64 b1] 25)
  have B_0 := Lib.hid (then_ (new1 w (.cells #[.int .i64 s0.next, .slice A0 n0 c0] 24)) (new1 _ (.cells #[.int .i64 a1, .int .i64 b1] 25)))
  clear k0
  go_enter Try.func5, Try.ntmps5
  have x0 := X_0.out.cell 0 _ rfl
  have x1 := X_0.out.cell 1 _ rfl
  go_wp2_with fail
  refine (lmay_any s0 A0 n0 c0 _ K_0.out).mono ?_; rintro e w1 ⟨rfl, hb⟩
  rw [HM.out]
  have S_1 := Lib.hid hb; clear hb
  have K_2 := Lib.hid (K_0.out.keep S_1.out)
  have X_3 := Lib.hid (X_0.out.below S_1.out)
  have Y_4 := Lib.hid (Y_0.out.below S_1.out)
  have B_5 := Lib.hid (then_ B_0.out S_1.out)
  clear K_0 X_0 Y_0 B_0
  clear S_1
  clear x0 x1
  have x0 := X_3.out.cell 0 _ rfl
  have x1 := X_3.out.cell 1 _ rfl
  go_wp2_with fail
  refine (lmay_ref s0 A0 n0 c0 _ K_2.out).mono ?_; rintro e w2 ⟨rfl, hb⟩
  rw [HM.out]
  have S_6 := Lib.hid hb; clear hb
  have K_7 := Lib.hid (K_2.out.keep S_6.out)
  have X_8 := Lib.hid (X_3.out.below S_6.out)
  have Y_9 := Lib.hid (Y_4.out.below S_6.out)
  have B_10 := Lib.hid (then_ B_5.out S_6.out)
  clear K_2 X_3 Y_4 B_5
  clear S_6
  clear x0 x1
  have x0 := X_8.out.cell 0 _ rfl
  have x1 := X_8.out.cell 1 _ rfl
  have y0 := Y_9.out.cell 0 _ rfl
  have y1 := Y_9.out.cell 1 _ rfl
  go_wp2_with fail
  refine (grant_any s0 A0 n0 c0 a1 a2 _ K_7.out (by omega)).mono ?_; rintro e w3 ⟨A1, n1, c1, rfl, h1, hb⟩
  have S_11 := Lib.hid hb; clear hb
  have K_12 := Lib.hid (K_7.out.keep S_11.out)
  have X_13 := Lib.hid (X_8.out.below S_11.out)
  have Y_14 := Lib.hid (Y_9.out.below S_11.out)
  have B_15 := Lib.hid (then_ B_10.out S_11.out)
  clear K_7 X_8 Y_9 B_10
  clear S_11
  have L1_16 := Lib.hid (h1)
  clear h1
  have K_17 := Lib.hid (K_12.out.keep (new1 w3 (.cells #[.int .i64 (grantS s0 a1 a2).next, .slice A1 n1 c1] 24)))
  have X_18 := Lib.hid (X_13.out.below (new1 w3 (.cells #[.int .i64 (grantS s0 a1 a2).next, .slice A1 n1 c1] 24)))
  have Y_19 := Lib.hid (Y_14.out.below (new1 w3 (.cells #[.int .i64 (grantS s0 a1 a2).next, .slice A1 n1 c1] 24)))
  have L1_20 := Lib.hid (L1_16.out.keep (new1 w3 (.cells #[.int .i64 (grantS s0 a1 a2).next, .slice A1 n1 c1] 24)))
  have B_21 := Lib.hid (then_ B_15.out (new1 w3 (.cells #[.int .i64 (grantS s0 a1 a2).next, .slice A1 n1 c1] 24)))
  clear K_12 X_13 Y_14 L1_16 B_15
  have R1_22 := Lib.hid (own_new w3 #[.int .i64 (grantS s0 a1 a2).next, .slice A1 n1 c1] 24)
  clear x0 x1
  clear y0 y1
  have x0 := X_18.out.cell 0 _ rfl
  have x1 := X_18.out.cell 1 _ rfl
  have y0 := Y_19.out.cell 0 _ rfl
  have y1 := Y_19.out.cell 1 _ rfl
  go_wp2_with fail
  refine (keep_any s0 A0 n0 c0 b1 a2 _ K_17.out (by omega) HSM.out).mono ?_; rintro e w4 ⟨A2, n2, c2, rfl, h2, hb⟩
  have S_23 := Lib.hid hb; clear hb
  have K_24 := Lib.hid (K_17.out.keep S_23.out)
  have X_25 := Lib.hid (X_18.out.below S_23.out)
  have Y_26 := Lib.hid (Y_19.out.below S_23.out)
  have L1_27 := Lib.hid (L1_20.out.keep S_23.out)
  have R1_28 := Lib.hid (R1_22.out.below S_23.out)
  have B_29 := Lib.hid (then_ B_21.out S_23.out)
  clear K_17 X_18 Y_19 L1_20 R1_22 B_21
  clear S_23
  have L2_30 := Lib.hid (h2)
  clear h2
  have K_31 := Lib.hid (K_24.out.keep (new1 w4 (.cells #[.int .i64 (keepS s0 b1 a2).next, .slice A2 n2 c2] 24)))
  have X_32 := Lib.hid (X_25.out.below (new1 w4 (.cells #[.int .i64 (keepS s0 b1 a2).next, .slice A2 n2 c2] 24)))
  have Y_33 := Lib.hid (Y_26.out.below (new1 w4 (.cells #[.int .i64 (keepS s0 b1 a2).next, .slice A2 n2 c2] 24)))
  have L1_34 := Lib.hid (L1_27.out.keep (new1 w4 (.cells #[.int .i64 (keepS s0 b1 a2).next, .slice A2 n2 c2] 24)))
  have R1_35 := Lib.hid (R1_28.out.below (new1 w4 (.cells #[.int .i64 (keepS s0 b1 a2).next, .slice A2 n2 c2] 24)))
  have L2_36 := Lib.hid (L2_30.out.keep (new1 w4 (.cells #[.int .i64 (keepS s0 b1 a2).next, .slice A2 n2 c2] 24)))
  have B_37 := Lib.hid (then_ B_29.out (new1 w4 (.cells #[.int .i64 (keepS s0 b1 a2).next, .slice A2 n2 c2] 24)))
  clear K_24 X_25 Y_26 L1_27 R1_28 L2_30 B_29
  have R2_38 := Lib.hid (own_new w4 #[.int .i64 (keepS s0 b1 a2).next, .slice A2 n2 c2] 24)
  clear x0 x1
  clear y0 y1
  have x0 := X_32.out.cell 0 _ rfl
  have x1 := X_32.out.cell 1 _ rfl
  have y0 := Y_33.out.cell 0 _ rfl
  have y1 := Y_33.out.cell 1 _ rfl
  go_wp2_with fail
  refine (end_any s0 A0 n0 c0 b1 _ K_31.out (by omega)).mono ?_; rintro e w5 ⟨A3, n3, c3, rfl, h3, hb⟩
  have S_39 := Lib.hid hb; clear hb
  have K_40 := Lib.hid (K_31.out.keep S_39.out)
  have X_41 := Lib.hid (X_32.out.below S_39.out)
  have Y_42 := Lib.hid (Y_33.out.below S_39.out)
  have L1_43 := Lib.hid (L1_34.out.keep S_39.out)
  have R1_44 := Lib.hid (R1_35.out.below S_39.out)
  have L2_45 := Lib.hid (L2_36.out.keep S_39.out)
  have R2_46 := Lib.hid (R2_38.out.below S_39.out)
  have B_47 := Lib.hid (then_ B_37.out S_39.out)
  clear K_31 X_32 Y_33 L1_34 R1_35 L2_36 R2_38 B_37
  clear S_39
  have L3_48 := Lib.hid (h3)
  clear h3
  have K_49 := Lib.hid (K_40.out.keep (new1 w5 (.cells #[.int .i64 (endS s0 b1).next, .slice A3 n3 c3] 24)))
  have X_50 := Lib.hid (X_41.out.below (new1 w5 (.cells #[.int .i64 (endS s0 b1).next, .slice A3 n3 c3] 24)))
  have Y_51 := Lib.hid (Y_42.out.below (new1 w5 (.cells #[.int .i64 (endS s0 b1).next, .slice A3 n3 c3] 24)))
  have L1_52 := Lib.hid (L1_43.out.keep (new1 w5 (.cells #[.int .i64 (endS s0 b1).next, .slice A3 n3 c3] 24)))
  have R1_53 := Lib.hid (R1_44.out.below (new1 w5 (.cells #[.int .i64 (endS s0 b1).next, .slice A3 n3 c3] 24)))
  have L2_54 := Lib.hid (L2_45.out.keep (new1 w5 (.cells #[.int .i64 (endS s0 b1).next, .slice A3 n3 c3] 24)))
  have R2_55 := Lib.hid (R2_46.out.below (new1 w5 (.cells #[.int .i64 (endS s0 b1).next, .slice A3 n3 c3] 24)))
  have L3_56 := Lib.hid (L3_48.out.keep (new1 w5 (.cells #[.int .i64 (endS s0 b1).next, .slice A3 n3 c3] 24)))
  have B_57 := Lib.hid (then_ B_47.out (new1 w5 (.cells #[.int .i64 (endS s0 b1).next, .slice A3 n3 c3] 24)))
  clear K_40 X_41 Y_42 L1_43 R1_44 L2_45 R2_46 L3_48 B_47
  have R3_58 := Lib.hid (own_new w5 #[.int .i64 (endS s0 b1).next, .slice A3 n3 c3] 24)
  clear x0 x1
  clear y0 y1
  have hn1 : n1 ≤ 1000000 := by have h1 := L1_52.out.row.row.len; have h2 := grant_len s0 a1 a2; omega
  have hn2 : n2 ≤ 1000000 := by have h1 := L2_54.out.row.row.len; have h2 := keep_len s0 b1 a2; omega
  have hn3 : n3 ≤ 1000000 := by have h1 := L3_56.out.row.row.len; have h2 := end_len s0 b1; omega
  have r10 := R1_53.out.cell 0 _ rfl
  have r11 := R1_53.out.cell 1 _ rfl
  go_wp2_with fail
  refine (lmay_any (grantS s0 a1 a2) A1 n1 c1 _ L1_52.out).mono ?_; rintro e w6 ⟨rfl, hb⟩
  rw [M1.out]
  have S_59 := Lib.hid hb; clear hb
  have K_60 := Lib.hid (K_49.out.keep S_59.out)
  have X_61 := Lib.hid (X_50.out.below S_59.out)
  have Y_62 := Lib.hid (Y_51.out.below S_59.out)
  have L1_63 := Lib.hid (L1_52.out.keep S_59.out)
  have R1_64 := Lib.hid (R1_53.out.below S_59.out)
  have L2_65 := Lib.hid (L2_54.out.keep S_59.out)
  have R2_66 := Lib.hid (R2_55.out.below S_59.out)
  have L3_67 := Lib.hid (L3_56.out.keep S_59.out)
  have R3_68 := Lib.hid (R3_58.out.below S_59.out)
  have B_69 := Lib.hid (then_ B_57.out S_59.out)
  clear K_49 X_50 Y_51 L1_52 R1_53 L2_54 R2_55 L3_56 R3_58 B_57
  clear S_59
  clear r10 r11
  have r20 := R2_66.out.cell 0 _ rfl
  have r21 := R2_66.out.cell 1 _ rfl
  go_wp2_with fail
  refine (lmay_any (keepS s0 b1 a2) A2 n2 c2 _ L2_65.out).mono ?_; rintro e w7 ⟨rfl, hb⟩
  rw [M2.out]
  have S_70 := Lib.hid hb; clear hb
  have K_71 := Lib.hid (K_60.out.keep S_70.out)
  have X_72 := Lib.hid (X_61.out.below S_70.out)
  have Y_73 := Lib.hid (Y_62.out.below S_70.out)
  have L1_74 := Lib.hid (L1_63.out.keep S_70.out)
  have R1_75 := Lib.hid (R1_64.out.below S_70.out)
  have L2_76 := Lib.hid (L2_65.out.keep S_70.out)
  have R2_77 := Lib.hid (R2_66.out.below S_70.out)
  have L3_78 := Lib.hid (L3_67.out.keep S_70.out)
  have R3_79 := Lib.hid (R3_68.out.below S_70.out)
  have B_80 := Lib.hid (then_ B_69.out S_70.out)
  clear K_60 X_61 Y_62 L1_63 R1_64 L2_65 R2_66 L3_67 R3_68 B_69
  clear S_70
  clear r20 r21
  have r30 := R3_79.out.cell 0 _ rfl
  have r31 := R3_79.out.cell 1 _ rfl
  go_wp2_with fail
  refine (lmay_any (endS s0 b1) A3 n3 c3 _ L3_78.out).mono ?_; rintro e w8 ⟨rfl, hb⟩
  rw [M3.out]
  have S_81 := Lib.hid hb; clear hb
  have K_82 := Lib.hid (K_71.out.keep S_81.out)
  have X_83 := Lib.hid (X_72.out.below S_81.out)
  have Y_84 := Lib.hid (Y_73.out.below S_81.out)
  have L1_85 := Lib.hid (L1_74.out.keep S_81.out)
  have R1_86 := Lib.hid (R1_75.out.below S_81.out)
  have L2_87 := Lib.hid (L2_76.out.keep S_81.out)
  have R2_88 := Lib.hid (R2_77.out.below S_81.out)
  have L3_89 := Lib.hid (L3_78.out.keep S_81.out)
  have R3_90 := Lib.hid (R3_79.out.below S_81.out)
  have B_91 := Lib.hid (then_ B_80.out S_81.out)
  clear K_71 X_72 Y_73 L1_74 R1_75 L2_76 R2_77 L3_78 R3_79 B_80
  clear S_81
  clear r30 r31
  have Q1 : Hid (LsAt w8 s0 A1 n1 c1) := Lib.hid (by have h := L1_85.out; rw [GS.out.1] at h; exact h)
  obtain rfl : n0 = n1 := hn0.symm.trans Q1.out.row.row.len
  have r10 := R1_86.out.cell 0 _ rfl
  have r11 := R1_86.out.cell 1 _ rfl
  have x0 := X_83.out.cell 0 _ rfl
  have x1 := X_83.out.cell 1 _ rfl
  have SM1 := Lib.hid (ls_same s0 A1 A0 n0 c1 c0 _ Q1.out K_82.out (by omega))
  go_wp2_with fail
  refine ((show Calls Try.prog 21 #[Ls.agg (grantS s0 a1 a2) A1 n0 c1, s0.agg A0 n0 c0] _ _ by rw [GS.out.1]; exact SM1.out)).mono ?_; rintro e w9 ⟨rfl, hb⟩
  have S_92 := Lib.hid hb; clear hb
  have K_93 := Lib.hid (K_82.out.keep S_92.out)
  have X_94 := Lib.hid (X_83.out.below S_92.out)
  have Y_95 := Lib.hid (Y_84.out.below S_92.out)
  have L1_96 := Lib.hid (L1_85.out.keep S_92.out)
  have R1_97 := Lib.hid (R1_86.out.below S_92.out)
  have L2_98 := Lib.hid (L2_87.out.keep S_92.out)
  have R2_99 := Lib.hid (R2_88.out.below S_92.out)
  have L3_100 := Lib.hid (L3_89.out.keep S_92.out)
  have R3_101 := Lib.hid (R3_90.out.below S_92.out)
  have B_102 := Lib.hid (then_ B_91.out S_92.out)
  clear K_82 X_83 Y_84 L1_85 R1_86 L2_87 R2_88 L3_89 R3_90 B_91
  clear S_92
  clear r10 r11
  clear x0 x1
  have Q2 : Hid (LsAt w9 s0 A2 n2 c2) := Lib.hid (by have h := L2_98.out; rw [KS.out.1] at h; exact h)
  obtain rfl : n0 = n2 := hn0.symm.trans Q2.out.row.row.len
  have r20 := R2_99.out.cell 0 _ rfl
  have r21 := R2_99.out.cell 1 _ rfl
  have x0 := X_94.out.cell 0 _ rfl
  have x1 := X_94.out.cell 1 _ rfl
  have SM2 := Lib.hid (ls_same s0 A2 A0 n0 c2 c0 _ Q2.out K_93.out (by omega))
  go_wp2_with fail
  refine ((show Calls Try.prog 21 #[Ls.agg (keepS s0 b1 a2) A2 n0 c2, s0.agg A0 n0 c0] _ _ by rw [KS.out.1]; exact SM2.out)).mono ?_; rintro e w10 ⟨rfl, hb⟩
  have S_103 := Lib.hid hb; clear hb
  have K_104 := Lib.hid (K_93.out.keep S_103.out)
  have X_105 := Lib.hid (X_94.out.below S_103.out)
  have Y_106 := Lib.hid (Y_95.out.below S_103.out)
  have L1_107 := Lib.hid (L1_96.out.keep S_103.out)
  have R1_108 := Lib.hid (R1_97.out.below S_103.out)
  have L2_109 := Lib.hid (L2_98.out.keep S_103.out)
  have R2_110 := Lib.hid (R2_99.out.below S_103.out)
  have L3_111 := Lib.hid (L3_100.out.keep S_103.out)
  have R3_112 := Lib.hid (R3_101.out.below S_103.out)
  have B_113 := Lib.hid (then_ B_102.out S_103.out)
  clear K_93 X_94 Y_95 L1_96 R1_97 L2_98 R2_99 L3_100 R3_101 B_102
  clear S_103
  clear r20 r21
  clear x0 x1
  have x0 := X_105.out.cell 0 _ rfl
  have x1 := X_105.out.cell 1 _ rfl
  have y0 := Y_106.out.cell 0 _ rfl
  have y1 := Y_106.out.cell 1 _ rfl
  go_wp2_with fail
  refine (has_any s0 A0 n0 c0 b1 _ K_104.out).mono ?_; rintro e w11 ⟨rfl, hb⟩
  rw [HH.out]
  have S_114 := Lib.hid hb; clear hb
  have K_115 := Lib.hid (K_104.out.keep S_114.out)
  have X_116 := Lib.hid (X_105.out.below S_114.out)
  have Y_117 := Lib.hid (Y_106.out.below S_114.out)
  have L1_118 := Lib.hid (L1_107.out.keep S_114.out)
  have R1_119 := Lib.hid (R1_108.out.below S_114.out)
  have L2_120 := Lib.hid (L2_109.out.keep S_114.out)
  have R2_121 := Lib.hid (R2_110.out.below S_114.out)
  have L3_122 := Lib.hid (L3_111.out.keep S_114.out)
  have R3_123 := Lib.hid (R3_112.out.below S_114.out)
  have B_124 := Lib.hid (then_ B_113.out S_114.out)
  clear K_104 X_105 Y_106 L1_107 R1_108 L2_109 R2_110 L3_111 R3_112 B_113
  clear S_114
  clear x0 x1
  clear y0 y1
  have r30 := R3_123.out.cell 0 _ rfl
  have r31 := R3_123.out.cell 1 _ rfl
  have y0 := Y_117.out.cell 0 _ rfl
  have y1 := Y_117.out.cell 1 _ rfl
  have x0 := X_116.out.cell 0 _ rfl
  have x1 := X_116.out.cell 1 _ rfl
  have da1 : decide (0 ≤ a2) = false := decide_eq_false (by omega)
  go_wp2_with fail
  refine (has_any (endS s0 b1) A3 n3 c3 b1 _ L3_122.out).mono ?_; rintro e w12 ⟨rfl, hb⟩
  rw [EG.out]
  have S_125 := Lib.hid hb; clear hb
  have K_126 := Lib.hid (K_115.out.keep S_125.out)
  have X_127 := Lib.hid (X_116.out.below S_125.out)
  have Y_128 := Lib.hid (Y_117.out.below S_125.out)
  have L1_129 := Lib.hid (L1_118.out.keep S_125.out)
  have R1_130 := Lib.hid (R1_119.out.below S_125.out)
  have L2_131 := Lib.hid (L2_120.out.keep S_125.out)
  have R2_132 := Lib.hid (R2_121.out.below S_125.out)
  have L3_133 := Lib.hid (L3_122.out.keep S_125.out)
  have R3_134 := Lib.hid (R3_123.out.below S_125.out)
  have B_135 := Lib.hid (then_ B_124.out S_125.out)
  clear K_115 X_116 Y_117 L1_118 R1_119 L2_120 R2_121 L3_122 R3_123 B_124
  clear S_125
  go_wp2_with fail
  refine (live_any _).mono ?_; rintro e w13 ⟨rfl, hb⟩
  have S_136 := Lib.hid hb; clear hb
  have K_137 := Lib.hid (K_126.out.keep S_136.out)
  have X_138 := Lib.hid (X_127.out.below S_136.out)
  have Y_139 := Lib.hid (Y_128.out.below S_136.out)
  have L1_140 := Lib.hid (L1_129.out.keep S_136.out)
  have R1_141 := Lib.hid (R1_130.out.below S_136.out)
  have L2_142 := Lib.hid (L2_131.out.keep S_136.out)
  have R2_143 := Lib.hid (R2_132.out.below S_136.out)
  have L3_144 := Lib.hid (L3_133.out.keep S_136.out)
  have R3_145 := Lib.hid (R3_134.out.below S_136.out)
  have B_146 := Lib.hid (then_ B_135.out S_136.out)
  clear K_126 X_127 Y_128 L1_129 R1_130 L2_131 R2_132 L3_133 R3_134 B_135
  clear S_136
  go_wp2
  go_ret
  exact ⟨rfl, B_146.out⟩
theorem go_err_high (w : World) (s0 : Ls) (A0 : Option Addr) (n0 c0 : Nat) (a1 b1 a2 : Int) (k0 : LsAt w s0 A0 n0 c0) (w1 : (Lit.int .i64 a1).wf = true) (u1 : (Lit.int .i64 b1).wf = true) (w2 : (Lit.int .i64 a2).wf = true) (hm : mayL s0 = true) (hd : grantE s0 a1 a2 ≠ 0) (hh : hasL s0 b1 = true) (hat : 0 ≤ a2 ∧ 1099511627775 < a2) :
    Calls Try.prog 5 #[s0.agg A0 n0 c0, .agg #[.int .i64 a1, .int .i64 b1], .int .i64 a2] w fun e w' => e = .returned (.bool true) ∧ Below w.heap.size w w' := by
  have HM := Lib.hid hm
  have MS := Lib.hid ((mayL_iff s0).1 hm)
  have hlo := MS.out.lo
  have hhi := MS.out.hi
  have hl8 := MS.out.len
  have hn0 := k0.row.row.len
  have HSM : Hid (smallT s0) := Lib.hid (fun x hx => by have := okLe_iff.1 (MS.out.ok x hx); omega)
  have M1 : Hid (mayL (grantS s0 a1 a2) = true) := Lib.hid ((mayL_iff _).2 (MS.out.grant a1 a2))
  have M2 : Hid (mayL (keepS s0 b1 a2) = true) := Lib.hid ((mayL_iff _).2 (MS.out.keep b1 a2))
  have M3 : Hid (mayL (endS s0 b1) = true) := Lib.hid ((mayL_iff _).2 (MS.out.drop b1))
  have HH := Lib.hid hh
  have GS := Lib.hid (grant_same hd)
  have hd1 : (grantE s0 a1 a2 == 0) = false := by simp [hd]
  have hd2 : (grantE s0 a1 a2 != 0) = true := by simp [hd]
  have hq1 : (grantI s0 a1 a2 != 0) = false := by simp [GS.out.2]
  have hk : decide (keepE s0 b1 a2 = 0) = false := by rw [keep_has, hh]; simp [atB]; omega
  have hf : decide (endE s0 b1 = 0) = true := by rw [end_has, hh]
  have hk0 : keepE s0 b1 a2 ≠ 0 := of_decide_eq_false hk
  have hk1 : (keepE s0 b1 a2 == 0) = false := by simp [hk0]
  have hk2 : (keepE s0 b1 a2 != 0) = true := by simp [hk0]
  have KS := Lib.hid (keep_same hk0)
  have hq2 : (keepT s0 b1 a2 != 0) = false := by simp [KS.out.2]
  have hf0 : endE s0 b1 = 0 := of_decide_eq_true hf
  have hf1 : (endE s0 b1 == 0) = true := by simp [hf0]
  have hf2 : (endE s0 b1 != 0) = false := by simp [hf0]
  have EG := Lib.hid (end_gone MS.out b1)
  clear hm hd hh hk hf hk0 hf0
  have K_0 := Lib.hid (k0.keep (then_ (new1 w (.cells #[.int .i64 s0.next, .slice A0 n0 c0] 24)) (new1 _ (.cells #[.int .i64 a1, .int .i64 b1] 25))))
  have X_0 := Lib.hid ((own_new w #[.int .i64 s0.next, .slice A0 n0 c0] 24).alloc (.cells #[.int .i64 a1, .int .i64 b1] 25))
  have Y_0 := Lib.hid (own_new2 w (.cells #[.int .i64 s0.next, .slice A0 n0 c0] 24) #[.int .i64 a1, .int .i64 b1] 25)
  have B_0 := Lib.hid (then_ (new1 w (.cells #[.int .i64 s0.next, .slice A0 n0 c0] 24)) (new1 _ (.cells #[.int .i64 a1, .int .i64 b1] 25)))
  clear k0
  go_enter Try.func5, Try.ntmps5
  have x0 := X_0.out.cell 0 _ rfl
  have x1 := X_0.out.cell 1 _ rfl
  go_wp2_with fail
  refine (lmay_any s0 A0 n0 c0 _ K_0.out).mono ?_; rintro e w1 ⟨rfl, hb⟩
  rw [HM.out]
  have S_1 := Lib.hid hb; clear hb
  have K_2 := Lib.hid (K_0.out.keep S_1.out)
  have X_3 := Lib.hid (X_0.out.below S_1.out)
  have Y_4 := Lib.hid (Y_0.out.below S_1.out)
  have B_5 := Lib.hid (then_ B_0.out S_1.out)
  clear K_0 X_0 Y_0 B_0
  clear S_1
  clear x0 x1
  have x0 := X_3.out.cell 0 _ rfl
  have x1 := X_3.out.cell 1 _ rfl
  go_wp2_with fail
  refine (lmay_ref s0 A0 n0 c0 _ K_2.out).mono ?_; rintro e w2 ⟨rfl, hb⟩
  rw [HM.out]
  have S_6 := Lib.hid hb; clear hb
  have K_7 := Lib.hid (K_2.out.keep S_6.out)
  have X_8 := Lib.hid (X_3.out.below S_6.out)
  have Y_9 := Lib.hid (Y_4.out.below S_6.out)
  have B_10 := Lib.hid (then_ B_5.out S_6.out)
  clear K_2 X_3 Y_4 B_5
  clear S_6
  clear x0 x1
  have x0 := X_8.out.cell 0 _ rfl
  have x1 := X_8.out.cell 1 _ rfl
  have y0 := Y_9.out.cell 0 _ rfl
  have y1 := Y_9.out.cell 1 _ rfl
  go_wp2_with fail
  refine (grant_any s0 A0 n0 c0 a1 a2 _ K_7.out (by omega)).mono ?_; rintro e w3 ⟨A1, n1, c1, rfl, h1, hb⟩
  have S_11 := Lib.hid hb; clear hb
  have K_12 := Lib.hid (K_7.out.keep S_11.out)
  have X_13 := Lib.hid (X_8.out.below S_11.out)
  have Y_14 := Lib.hid (Y_9.out.below S_11.out)
  have B_15 := Lib.hid (then_ B_10.out S_11.out)
  clear K_7 X_8 Y_9 B_10
  clear S_11
  have L1_16 := Lib.hid (h1)
  clear h1
  have K_17 := Lib.hid (K_12.out.keep (new1 w3 (.cells #[.int .i64 (grantS s0 a1 a2).next, .slice A1 n1 c1] 24)))
  have X_18 := Lib.hid (X_13.out.below (new1 w3 (.cells #[.int .i64 (grantS s0 a1 a2).next, .slice A1 n1 c1] 24)))
  have Y_19 := Lib.hid (Y_14.out.below (new1 w3 (.cells #[.int .i64 (grantS s0 a1 a2).next, .slice A1 n1 c1] 24)))
  have L1_20 := Lib.hid (L1_16.out.keep (new1 w3 (.cells #[.int .i64 (grantS s0 a1 a2).next, .slice A1 n1 c1] 24)))
  have B_21 := Lib.hid (then_ B_15.out (new1 w3 (.cells #[.int .i64 (grantS s0 a1 a2).next, .slice A1 n1 c1] 24)))
  clear K_12 X_13 Y_14 L1_16 B_15
  have R1_22 := Lib.hid (own_new w3 #[.int .i64 (grantS s0 a1 a2).next, .slice A1 n1 c1] 24)
  clear x0 x1
  clear y0 y1
  have x0 := X_18.out.cell 0 _ rfl
  have x1 := X_18.out.cell 1 _ rfl
  have y0 := Y_19.out.cell 0 _ rfl
  have y1 := Y_19.out.cell 1 _ rfl
  go_wp2_with fail
  refine (keep_any s0 A0 n0 c0 b1 a2 _ K_17.out (by omega) HSM.out).mono ?_; rintro e w4 ⟨A2, n2, c2, rfl, h2, hb⟩
  have S_23 := Lib.hid hb; clear hb
  have K_24 := Lib.hid (K_17.out.keep S_23.out)
  have X_25 := Lib.hid (X_18.out.below S_23.out)
  have Y_26 := Lib.hid (Y_19.out.below S_23.out)
  have L1_27 := Lib.hid (L1_20.out.keep S_23.out)
  have R1_28 := Lib.hid (R1_22.out.below S_23.out)
  have B_29 := Lib.hid (then_ B_21.out S_23.out)
  clear K_17 X_18 Y_19 L1_20 R1_22 B_21
  clear S_23
  have L2_30 := Lib.hid (h2)
  clear h2
  have K_31 := Lib.hid (K_24.out.keep (new1 w4 (.cells #[.int .i64 (keepS s0 b1 a2).next, .slice A2 n2 c2] 24)))
  have X_32 := Lib.hid (X_25.out.below (new1 w4 (.cells #[.int .i64 (keepS s0 b1 a2).next, .slice A2 n2 c2] 24)))
  have Y_33 := Lib.hid (Y_26.out.below (new1 w4 (.cells #[.int .i64 (keepS s0 b1 a2).next, .slice A2 n2 c2] 24)))
  have L1_34 := Lib.hid (L1_27.out.keep (new1 w4 (.cells #[.int .i64 (keepS s0 b1 a2).next, .slice A2 n2 c2] 24)))
  have R1_35 := Lib.hid (R1_28.out.below (new1 w4 (.cells #[.int .i64 (keepS s0 b1 a2).next, .slice A2 n2 c2] 24)))
  have L2_36 := Lib.hid (L2_30.out.keep (new1 w4 (.cells #[.int .i64 (keepS s0 b1 a2).next, .slice A2 n2 c2] 24)))
  have B_37 := Lib.hid (then_ B_29.out (new1 w4 (.cells #[.int .i64 (keepS s0 b1 a2).next, .slice A2 n2 c2] 24)))
  clear K_24 X_25 Y_26 L1_27 R1_28 L2_30 B_29
  have R2_38 := Lib.hid (own_new w4 #[.int .i64 (keepS s0 b1 a2).next, .slice A2 n2 c2] 24)
  clear x0 x1
  clear y0 y1
  have x0 := X_32.out.cell 0 _ rfl
  have x1 := X_32.out.cell 1 _ rfl
  have y0 := Y_33.out.cell 0 _ rfl
  have y1 := Y_33.out.cell 1 _ rfl
  go_wp2_with fail
  refine (end_any s0 A0 n0 c0 b1 _ K_31.out (by omega)).mono ?_; rintro e w5 ⟨A3, n3, c3, rfl, h3, hb⟩
  have S_39 := Lib.hid hb; clear hb
  have K_40 := Lib.hid (K_31.out.keep S_39.out)
  have X_41 := Lib.hid (X_32.out.below S_39.out)
  have Y_42 := Lib.hid (Y_33.out.below S_39.out)
  have L1_43 := Lib.hid (L1_34.out.keep S_39.out)
  have R1_44 := Lib.hid (R1_35.out.below S_39.out)
  have L2_45 := Lib.hid (L2_36.out.keep S_39.out)
  have R2_46 := Lib.hid (R2_38.out.below S_39.out)
  have B_47 := Lib.hid (then_ B_37.out S_39.out)
  clear K_31 X_32 Y_33 L1_34 R1_35 L2_36 R2_38 B_37
  clear S_39
  have L3_48 := Lib.hid (h3)
  clear h3
  have K_49 := Lib.hid (K_40.out.keep (new1 w5 (.cells #[.int .i64 (endS s0 b1).next, .slice A3 n3 c3] 24)))
  have X_50 := Lib.hid (X_41.out.below (new1 w5 (.cells #[.int .i64 (endS s0 b1).next, .slice A3 n3 c3] 24)))
  have Y_51 := Lib.hid (Y_42.out.below (new1 w5 (.cells #[.int .i64 (endS s0 b1).next, .slice A3 n3 c3] 24)))
  have L1_52 := Lib.hid (L1_43.out.keep (new1 w5 (.cells #[.int .i64 (endS s0 b1).next, .slice A3 n3 c3] 24)))
  have R1_53 := Lib.hid (R1_44.out.below (new1 w5 (.cells #[.int .i64 (endS s0 b1).next, .slice A3 n3 c3] 24)))
  have L2_54 := Lib.hid (L2_45.out.keep (new1 w5 (.cells #[.int .i64 (endS s0 b1).next, .slice A3 n3 c3] 24)))
  have R2_55 := Lib.hid (R2_46.out.below (new1 w5 (.cells #[.int .i64 (endS s0 b1).next, .slice A3 n3 c3] 24)))
  have L3_56 := Lib.hid (L3_48.out.keep (new1 w5 (.cells #[.int .i64 (endS s0 b1).next, .slice A3 n3 c3] 24)))
  have B_57 := Lib.hid (then_ B_47.out (new1 w5 (.cells #[.int .i64 (endS s0 b1).next, .slice A3 n3 c3] 24)))
  clear K_40 X_41 Y_42 L1_43 R1_44 L2_45 R2_46 L3_48 B_47
  have R3_58 := Lib.hid (own_new w5 #[.int .i64 (endS s0 b1).next, .slice A3 n3 c3] 24)
  clear x0 x1
  clear y0 y1
  have hn1 : n1 ≤ 1000000 := by have h1 := L1_52.out.row.row.len; have h2 := grant_len s0 a1 a2; omega
  have hn2 : n2 ≤ 1000000 := by have h1 := L2_54.out.row.row.len; have h2 := keep_len s0 b1 a2; omega
  have hn3 : n3 ≤ 1000000 := by have h1 := L3_56.out.row.row.len; have h2 := end_len s0 b1; omega
  have r10 := R1_53.out.cell 0 _ rfl
  have r11 := R1_53.out.cell 1 _ rfl
  go_wp2_with fail
  refine (lmay_any (grantS s0 a1 a2) A1 n1 c1 _ L1_52.out).mono ?_; rintro e w6 ⟨rfl, hb⟩
  rw [M1.out]
  have S_59 := Lib.hid hb; clear hb
  have K_60 := Lib.hid (K_49.out.keep S_59.out)
  have X_61 := Lib.hid (X_50.out.below S_59.out)
  have Y_62 := Lib.hid (Y_51.out.below S_59.out)
  have L1_63 := Lib.hid (L1_52.out.keep S_59.out)
  have R1_64 := Lib.hid (R1_53.out.below S_59.out)
  have L2_65 := Lib.hid (L2_54.out.keep S_59.out)
  have R2_66 := Lib.hid (R2_55.out.below S_59.out)
  have L3_67 := Lib.hid (L3_56.out.keep S_59.out)
  have R3_68 := Lib.hid (R3_58.out.below S_59.out)
  have B_69 := Lib.hid (then_ B_57.out S_59.out)
  clear K_49 X_50 Y_51 L1_52 R1_53 L2_54 R2_55 L3_56 R3_58 B_57
  clear S_59
  clear r10 r11
  have r20 := R2_66.out.cell 0 _ rfl
  have r21 := R2_66.out.cell 1 _ rfl
  go_wp2_with fail
  refine (lmay_any (keepS s0 b1 a2) A2 n2 c2 _ L2_65.out).mono ?_; rintro e w7 ⟨rfl, hb⟩
  rw [M2.out]
  have S_70 := Lib.hid hb; clear hb
  have K_71 := Lib.hid (K_60.out.keep S_70.out)
  have X_72 := Lib.hid (X_61.out.below S_70.out)
  have Y_73 := Lib.hid (Y_62.out.below S_70.out)
  have L1_74 := Lib.hid (L1_63.out.keep S_70.out)
  have R1_75 := Lib.hid (R1_64.out.below S_70.out)
  have L2_76 := Lib.hid (L2_65.out.keep S_70.out)
  have R2_77 := Lib.hid (R2_66.out.below S_70.out)
  have L3_78 := Lib.hid (L3_67.out.keep S_70.out)
  have R3_79 := Lib.hid (R3_68.out.below S_70.out)
  have B_80 := Lib.hid (then_ B_69.out S_70.out)
  clear K_60 X_61 Y_62 L1_63 R1_64 L2_65 R2_66 L3_67 R3_68 B_69
  clear S_70
  clear r20 r21
  have r30 := R3_79.out.cell 0 _ rfl
  have r31 := R3_79.out.cell 1 _ rfl
  go_wp2_with fail
  refine (lmay_any (endS s0 b1) A3 n3 c3 _ L3_78.out).mono ?_; rintro e w8 ⟨rfl, hb⟩
  rw [M3.out]
  have S_81 := Lib.hid hb; clear hb
  have K_82 := Lib.hid (K_71.out.keep S_81.out)
  have X_83 := Lib.hid (X_72.out.below S_81.out)
  have Y_84 := Lib.hid (Y_73.out.below S_81.out)
  have L1_85 := Lib.hid (L1_74.out.keep S_81.out)
  have R1_86 := Lib.hid (R1_75.out.below S_81.out)
  have L2_87 := Lib.hid (L2_76.out.keep S_81.out)
  have R2_88 := Lib.hid (R2_77.out.below S_81.out)
  have L3_89 := Lib.hid (L3_78.out.keep S_81.out)
  have R3_90 := Lib.hid (R3_79.out.below S_81.out)
  have B_91 := Lib.hid (then_ B_80.out S_81.out)
  clear K_71 X_72 Y_73 L1_74 R1_75 L2_76 R2_77 L3_78 R3_79 B_80
  clear S_81
  clear r30 r31
  have Q1 : Hid (LsAt w8 s0 A1 n1 c1) := Lib.hid (by have h := L1_85.out; rw [GS.out.1] at h; exact h)
  obtain rfl : n0 = n1 := hn0.symm.trans Q1.out.row.row.len
  have r10 := R1_86.out.cell 0 _ rfl
  have r11 := R1_86.out.cell 1 _ rfl
  have x0 := X_83.out.cell 0 _ rfl
  have x1 := X_83.out.cell 1 _ rfl
  have SM1 := Lib.hid (ls_same s0 A1 A0 n0 c1 c0 _ Q1.out K_82.out (by omega))
  go_wp2_with fail
  refine ((show Calls Try.prog 21 #[Ls.agg (grantS s0 a1 a2) A1 n0 c1, s0.agg A0 n0 c0] _ _ by rw [GS.out.1]; exact SM1.out)).mono ?_; rintro e w9 ⟨rfl, hb⟩
  have S_92 := Lib.hid hb; clear hb
  have K_93 := Lib.hid (K_82.out.keep S_92.out)
  have X_94 := Lib.hid (X_83.out.below S_92.out)
  have Y_95 := Lib.hid (Y_84.out.below S_92.out)
  have L1_96 := Lib.hid (L1_85.out.keep S_92.out)
  have R1_97 := Lib.hid (R1_86.out.below S_92.out)
  have L2_98 := Lib.hid (L2_87.out.keep S_92.out)
  have R2_99 := Lib.hid (R2_88.out.below S_92.out)
  have L3_100 := Lib.hid (L3_89.out.keep S_92.out)
  have R3_101 := Lib.hid (R3_90.out.below S_92.out)
  have B_102 := Lib.hid (then_ B_91.out S_92.out)
  clear K_82 X_83 Y_84 L1_85 R1_86 L2_87 R2_88 L3_89 R3_90 B_91
  clear S_92
  clear r10 r11
  clear x0 x1
  have Q2 : Hid (LsAt w9 s0 A2 n2 c2) := Lib.hid (by have h := L2_98.out; rw [KS.out.1] at h; exact h)
  obtain rfl : n0 = n2 := hn0.symm.trans Q2.out.row.row.len
  have r20 := R2_99.out.cell 0 _ rfl
  have r21 := R2_99.out.cell 1 _ rfl
  have x0 := X_94.out.cell 0 _ rfl
  have x1 := X_94.out.cell 1 _ rfl
  have SM2 := Lib.hid (ls_same s0 A2 A0 n0 c2 c0 _ Q2.out K_93.out (by omega))
  go_wp2_with fail
  refine ((show Calls Try.prog 21 #[Ls.agg (keepS s0 b1 a2) A2 n0 c2, s0.agg A0 n0 c0] _ _ by rw [KS.out.1]; exact SM2.out)).mono ?_; rintro e w10 ⟨rfl, hb⟩
  have S_103 := Lib.hid hb; clear hb
  have K_104 := Lib.hid (K_93.out.keep S_103.out)
  have X_105 := Lib.hid (X_94.out.below S_103.out)
  have Y_106 := Lib.hid (Y_95.out.below S_103.out)
  have L1_107 := Lib.hid (L1_96.out.keep S_103.out)
  have R1_108 := Lib.hid (R1_97.out.below S_103.out)
  have L2_109 := Lib.hid (L2_98.out.keep S_103.out)
  have R2_110 := Lib.hid (R2_99.out.below S_103.out)
  have L3_111 := Lib.hid (L3_100.out.keep S_103.out)
  have R3_112 := Lib.hid (R3_101.out.below S_103.out)
  have B_113 := Lib.hid (then_ B_102.out S_103.out)
  clear K_93 X_94 Y_95 L1_96 R1_97 L2_98 R2_99 L3_100 R3_101 B_102
  clear S_103
  clear r20 r21
  clear x0 x1
  have x0 := X_105.out.cell 0 _ rfl
  have x1 := X_105.out.cell 1 _ rfl
  have y0 := Y_106.out.cell 0 _ rfl
  have y1 := Y_106.out.cell 1 _ rfl
  go_wp2_with fail
  refine (has_any s0 A0 n0 c0 b1 _ K_104.out).mono ?_; rintro e w11 ⟨rfl, hb⟩
  rw [HH.out]
  have S_114 := Lib.hid hb; clear hb
  have K_115 := Lib.hid (K_104.out.keep S_114.out)
  have X_116 := Lib.hid (X_105.out.below S_114.out)
  have Y_117 := Lib.hid (Y_106.out.below S_114.out)
  have L1_118 := Lib.hid (L1_107.out.keep S_114.out)
  have R1_119 := Lib.hid (R1_108.out.below S_114.out)
  have L2_120 := Lib.hid (L2_109.out.keep S_114.out)
  have R2_121 := Lib.hid (R2_110.out.below S_114.out)
  have L3_122 := Lib.hid (L3_111.out.keep S_114.out)
  have R3_123 := Lib.hid (R3_112.out.below S_114.out)
  have B_124 := Lib.hid (then_ B_113.out S_114.out)
  clear K_104 X_105 Y_106 L1_107 R1_108 L2_109 R2_110 L3_111 R3_112 B_113
  clear S_114
  clear x0 x1
  clear y0 y1
  have r30 := R3_123.out.cell 0 _ rfl
  have r31 := R3_123.out.cell 1 _ rfl
  have y0 := Y_117.out.cell 0 _ rfl
  have y1 := Y_117.out.cell 1 _ rfl
  have x0 := X_116.out.cell 0 _ rfl
  have x1 := X_116.out.cell 1 _ rfl
  obtain ⟨ha1, ha2⟩ := hat
  have da1 : decide (0 ≤ a2) = true := decide_eq_true ha1
  have da2 : decide (a2 ≤ 1099511627775) = false := decide_eq_false (by omega)
  go_wp2_with fail
  refine (has_any (endS s0 b1) A3 n3 c3 b1 _ L3_122.out).mono ?_; rintro e w12 ⟨rfl, hb⟩
  rw [EG.out]
  have S_125 := Lib.hid hb; clear hb
  have K_126 := Lib.hid (K_115.out.keep S_125.out)
  have X_127 := Lib.hid (X_116.out.below S_125.out)
  have Y_128 := Lib.hid (Y_117.out.below S_125.out)
  have L1_129 := Lib.hid (L1_118.out.keep S_125.out)
  have R1_130 := Lib.hid (R1_119.out.below S_125.out)
  have L2_131 := Lib.hid (L2_120.out.keep S_125.out)
  have R2_132 := Lib.hid (R2_121.out.below S_125.out)
  have L3_133 := Lib.hid (L3_122.out.keep S_125.out)
  have R3_134 := Lib.hid (R3_123.out.below S_125.out)
  have B_135 := Lib.hid (then_ B_124.out S_125.out)
  clear K_115 X_116 Y_117 L1_118 R1_119 L2_120 R2_121 L3_122 R3_123 B_124
  clear S_125
  go_wp2_with fail
  refine (live_any _).mono ?_; rintro e w13 ⟨rfl, hb⟩
  have S_136 := Lib.hid hb; clear hb
  have K_137 := Lib.hid (K_126.out.keep S_136.out)
  have X_138 := Lib.hid (X_127.out.below S_136.out)
  have Y_139 := Lib.hid (Y_128.out.below S_136.out)
  have L1_140 := Lib.hid (L1_129.out.keep S_136.out)
  have R1_141 := Lib.hid (R1_130.out.below S_136.out)
  have L2_142 := Lib.hid (L2_131.out.keep S_136.out)
  have R2_143 := Lib.hid (R2_132.out.below S_136.out)
  have L3_144 := Lib.hid (L3_133.out.keep S_136.out)
  have R3_145 := Lib.hid (R3_134.out.below S_136.out)
  have B_146 := Lib.hid (then_ B_135.out S_136.out)
  clear K_126 X_127 Y_128 L1_129 R1_130 L2_131 R2_132 L3_133 R3_134 B_135
  clear S_136
  go_wp2
  go_ret
  exact ⟨rfl, B_146.out⟩
theorem go_err_not (w : World) (s0 : Ls) (A0 : Option Addr) (n0 c0 : Nat) (a1 b1 a2 : Int) (k0 : LsAt w s0 A0 n0 c0) (w1 : (Lit.int .i64 a1).wf = true) (u1 : (Lit.int .i64 b1).wf = true) (w2 : (Lit.int .i64 a2).wf = true) (hm : mayL s0 = true) (hd : grantE s0 a1 a2 ≠ 0) (hh : hasL s0 b1 = false) :
    Calls Try.prog 5 #[s0.agg A0 n0 c0, .agg #[.int .i64 a1, .int .i64 b1], .int .i64 a2] w fun e w' => e = .returned (.bool true) ∧ Below w.heap.size w w' := by
  have HM := Lib.hid hm
  have MS := Lib.hid ((mayL_iff s0).1 hm)
  have hlo := MS.out.lo
  have hhi := MS.out.hi
  have hl8 := MS.out.len
  have hn0 := k0.row.row.len
  have HSM : Hid (smallT s0) := Lib.hid (fun x hx => by have := okLe_iff.1 (MS.out.ok x hx); omega)
  have M1 : Hid (mayL (grantS s0 a1 a2) = true) := Lib.hid ((mayL_iff _).2 (MS.out.grant a1 a2))
  have M2 : Hid (mayL (keepS s0 b1 a2) = true) := Lib.hid ((mayL_iff _).2 (MS.out.keep b1 a2))
  have M3 : Hid (mayL (endS s0 b1) = true) := Lib.hid ((mayL_iff _).2 (MS.out.drop b1))
  have HH := Lib.hid hh
  have GS := Lib.hid (grant_same hd)
  have hd1 : (grantE s0 a1 a2 == 0) = false := by simp [hd]
  have hd2 : (grantE s0 a1 a2 != 0) = true := by simp [hd]
  have hq1 : (grantI s0 a1 a2 != 0) = false := by simp [GS.out.2]
  have hk : decide (keepE s0 b1 a2 = 0) = false := by rw [keep_has, hh]; rfl
  have hf : decide (endE s0 b1 = 0) = false := by rw [end_has, hh]
  have hk0 : keepE s0 b1 a2 ≠ 0 := of_decide_eq_false hk
  have hk1 : (keepE s0 b1 a2 == 0) = false := by simp [hk0]
  have hk2 : (keepE s0 b1 a2 != 0) = true := by simp [hk0]
  have KS := Lib.hid (keep_same hk0)
  have hq2 : (keepT s0 b1 a2 != 0) = false := by simp [KS.out.2]
  have hf0 : endE s0 b1 ≠ 0 := of_decide_eq_false hf
  have hf1 : (endE s0 b1 == 0) = false := by simp [hf0]
  have hf2 : (endE s0 b1 != 0) = true := by simp [hf0]
  have ES := Lib.hid (end_same hf0)
  have EG := Lib.hid (end_gone MS.out b1)
  clear hm hd hh hk hf hk0 hf0
  have K_0 := Lib.hid (k0.keep (then_ (new1 w (.cells #[.int .i64 s0.next, .slice A0 n0 c0] 24)) (new1 _ (.cells #[.int .i64 a1, .int .i64 b1] 25))))
  have X_0 := Lib.hid ((own_new w #[.int .i64 s0.next, .slice A0 n0 c0] 24).alloc (.cells #[.int .i64 a1, .int .i64 b1] 25))
  have Y_0 := Lib.hid (own_new2 w (.cells #[.int .i64 s0.next, .slice A0 n0 c0] 24) #[.int .i64 a1, .int .i64 b1] 25)
  have B_0 := Lib.hid (then_ (new1 w (.cells #[.int .i64 s0.next, .slice A0 n0 c0] 24)) (new1 _ (.cells #[.int .i64 a1, .int .i64 b1] 25)))
  clear k0
  go_enter Try.func5, Try.ntmps5
  have x0 := X_0.out.cell 0 _ rfl
  have x1 := X_0.out.cell 1 _ rfl
  go_wp2_with fail
  refine (lmay_any s0 A0 n0 c0 _ K_0.out).mono ?_; rintro e w1 ⟨rfl, hb⟩
  rw [HM.out]
  have S_1 := Lib.hid hb; clear hb
  have K_2 := Lib.hid (K_0.out.keep S_1.out)
  have X_3 := Lib.hid (X_0.out.below S_1.out)
  have Y_4 := Lib.hid (Y_0.out.below S_1.out)
  have B_5 := Lib.hid (then_ B_0.out S_1.out)
  clear K_0 X_0 Y_0 B_0
  clear S_1
  clear x0 x1
  have x0 := X_3.out.cell 0 _ rfl
  have x1 := X_3.out.cell 1 _ rfl
  go_wp2_with fail
  refine (lmay_ref s0 A0 n0 c0 _ K_2.out).mono ?_; rintro e w2 ⟨rfl, hb⟩
  rw [HM.out]
  have S_6 := Lib.hid hb; clear hb
  have K_7 := Lib.hid (K_2.out.keep S_6.out)
  have X_8 := Lib.hid (X_3.out.below S_6.out)
  have Y_9 := Lib.hid (Y_4.out.below S_6.out)
  have B_10 := Lib.hid (then_ B_5.out S_6.out)
  clear K_2 X_3 Y_4 B_5
  clear S_6
  clear x0 x1
  have x0 := X_8.out.cell 0 _ rfl
  have x1 := X_8.out.cell 1 _ rfl
  have y0 := Y_9.out.cell 0 _ rfl
  have y1 := Y_9.out.cell 1 _ rfl
  go_wp2_with fail
  refine (grant_any s0 A0 n0 c0 a1 a2 _ K_7.out (by omega)).mono ?_; rintro e w3 ⟨A1, n1, c1, rfl, h1, hb⟩
  have S_11 := Lib.hid hb; clear hb
  have K_12 := Lib.hid (K_7.out.keep S_11.out)
  have X_13 := Lib.hid (X_8.out.below S_11.out)
  have Y_14 := Lib.hid (Y_9.out.below S_11.out)
  have B_15 := Lib.hid (then_ B_10.out S_11.out)
  clear K_7 X_8 Y_9 B_10
  clear S_11
  have L1_16 := Lib.hid (h1)
  clear h1
  have K_17 := Lib.hid (K_12.out.keep (new1 w3 (.cells #[.int .i64 (grantS s0 a1 a2).next, .slice A1 n1 c1] 24)))
  have X_18 := Lib.hid (X_13.out.below (new1 w3 (.cells #[.int .i64 (grantS s0 a1 a2).next, .slice A1 n1 c1] 24)))
  have Y_19 := Lib.hid (Y_14.out.below (new1 w3 (.cells #[.int .i64 (grantS s0 a1 a2).next, .slice A1 n1 c1] 24)))
  have L1_20 := Lib.hid (L1_16.out.keep (new1 w3 (.cells #[.int .i64 (grantS s0 a1 a2).next, .slice A1 n1 c1] 24)))
  have B_21 := Lib.hid (then_ B_15.out (new1 w3 (.cells #[.int .i64 (grantS s0 a1 a2).next, .slice A1 n1 c1] 24)))
  clear K_12 X_13 Y_14 L1_16 B_15
  have R1_22 := Lib.hid (own_new w3 #[.int .i64 (grantS s0 a1 a2).next, .slice A1 n1 c1] 24)
  clear x0 x1
  clear y0 y1
  have x0 := X_18.out.cell 0 _ rfl
  have x1 := X_18.out.cell 1 _ rfl
  have y0 := Y_19.out.cell 0 _ rfl
  have y1 := Y_19.out.cell 1 _ rfl
  go_wp2_with fail
  refine (keep_any s0 A0 n0 c0 b1 a2 _ K_17.out (by omega) HSM.out).mono ?_; rintro e w4 ⟨A2, n2, c2, rfl, h2, hb⟩
  have S_23 := Lib.hid hb; clear hb
  have K_24 := Lib.hid (K_17.out.keep S_23.out)
  have X_25 := Lib.hid (X_18.out.below S_23.out)
  have Y_26 := Lib.hid (Y_19.out.below S_23.out)
  have L1_27 := Lib.hid (L1_20.out.keep S_23.out)
  have R1_28 := Lib.hid (R1_22.out.below S_23.out)
  have B_29 := Lib.hid (then_ B_21.out S_23.out)
  clear K_17 X_18 Y_19 L1_20 R1_22 B_21
  clear S_23
  have L2_30 := Lib.hid (h2)
  clear h2
  have K_31 := Lib.hid (K_24.out.keep (new1 w4 (.cells #[.int .i64 (keepS s0 b1 a2).next, .slice A2 n2 c2] 24)))
  have X_32 := Lib.hid (X_25.out.below (new1 w4 (.cells #[.int .i64 (keepS s0 b1 a2).next, .slice A2 n2 c2] 24)))
  have Y_33 := Lib.hid (Y_26.out.below (new1 w4 (.cells #[.int .i64 (keepS s0 b1 a2).next, .slice A2 n2 c2] 24)))
  have L1_34 := Lib.hid (L1_27.out.keep (new1 w4 (.cells #[.int .i64 (keepS s0 b1 a2).next, .slice A2 n2 c2] 24)))
  have R1_35 := Lib.hid (R1_28.out.below (new1 w4 (.cells #[.int .i64 (keepS s0 b1 a2).next, .slice A2 n2 c2] 24)))
  have L2_36 := Lib.hid (L2_30.out.keep (new1 w4 (.cells #[.int .i64 (keepS s0 b1 a2).next, .slice A2 n2 c2] 24)))
  have B_37 := Lib.hid (then_ B_29.out (new1 w4 (.cells #[.int .i64 (keepS s0 b1 a2).next, .slice A2 n2 c2] 24)))
  clear K_24 X_25 Y_26 L1_27 R1_28 L2_30 B_29
  have R2_38 := Lib.hid (own_new w4 #[.int .i64 (keepS s0 b1 a2).next, .slice A2 n2 c2] 24)
  clear x0 x1
  clear y0 y1
  have x0 := X_32.out.cell 0 _ rfl
  have x1 := X_32.out.cell 1 _ rfl
  have y0 := Y_33.out.cell 0 _ rfl
  have y1 := Y_33.out.cell 1 _ rfl
  go_wp2_with fail
  refine (end_any s0 A0 n0 c0 b1 _ K_31.out (by omega)).mono ?_; rintro e w5 ⟨A3, n3, c3, rfl, h3, hb⟩
  have S_39 := Lib.hid hb; clear hb
  have K_40 := Lib.hid (K_31.out.keep S_39.out)
  have X_41 := Lib.hid (X_32.out.below S_39.out)
  have Y_42 := Lib.hid (Y_33.out.below S_39.out)
  have L1_43 := Lib.hid (L1_34.out.keep S_39.out)
  have R1_44 := Lib.hid (R1_35.out.below S_39.out)
  have L2_45 := Lib.hid (L2_36.out.keep S_39.out)
  have R2_46 := Lib.hid (R2_38.out.below S_39.out)
  have B_47 := Lib.hid (then_ B_37.out S_39.out)
  clear K_31 X_32 Y_33 L1_34 R1_35 L2_36 R2_38 B_37
  clear S_39
  have L3_48 := Lib.hid (h3)
  clear h3
  have K_49 := Lib.hid (K_40.out.keep (new1 w5 (.cells #[.int .i64 (endS s0 b1).next, .slice A3 n3 c3] 24)))
  have X_50 := Lib.hid (X_41.out.below (new1 w5 (.cells #[.int .i64 (endS s0 b1).next, .slice A3 n3 c3] 24)))
  have Y_51 := Lib.hid (Y_42.out.below (new1 w5 (.cells #[.int .i64 (endS s0 b1).next, .slice A3 n3 c3] 24)))
  have L1_52 := Lib.hid (L1_43.out.keep (new1 w5 (.cells #[.int .i64 (endS s0 b1).next, .slice A3 n3 c3] 24)))
  have R1_53 := Lib.hid (R1_44.out.below (new1 w5 (.cells #[.int .i64 (endS s0 b1).next, .slice A3 n3 c3] 24)))
  have L2_54 := Lib.hid (L2_45.out.keep (new1 w5 (.cells #[.int .i64 (endS s0 b1).next, .slice A3 n3 c3] 24)))
  have R2_55 := Lib.hid (R2_46.out.below (new1 w5 (.cells #[.int .i64 (endS s0 b1).next, .slice A3 n3 c3] 24)))
  have L3_56 := Lib.hid (L3_48.out.keep (new1 w5 (.cells #[.int .i64 (endS s0 b1).next, .slice A3 n3 c3] 24)))
  have B_57 := Lib.hid (then_ B_47.out (new1 w5 (.cells #[.int .i64 (endS s0 b1).next, .slice A3 n3 c3] 24)))
  clear K_40 X_41 Y_42 L1_43 R1_44 L2_45 R2_46 L3_48 B_47
  have R3_58 := Lib.hid (own_new w5 #[.int .i64 (endS s0 b1).next, .slice A3 n3 c3] 24)
  clear x0 x1
  clear y0 y1
  have hn1 : n1 ≤ 1000000 := by have h1 := L1_52.out.row.row.len; have h2 := grant_len s0 a1 a2; omega
  have hn2 : n2 ≤ 1000000 := by have h1 := L2_54.out.row.row.len; have h2 := keep_len s0 b1 a2; omega
  have hn3 : n3 ≤ 1000000 := by have h1 := L3_56.out.row.row.len; have h2 := end_len s0 b1; omega
  have r10 := R1_53.out.cell 0 _ rfl
  have r11 := R1_53.out.cell 1 _ rfl
  go_wp2_with fail
  refine (lmay_any (grantS s0 a1 a2) A1 n1 c1 _ L1_52.out).mono ?_; rintro e w6 ⟨rfl, hb⟩
  rw [M1.out]
  have S_59 := Lib.hid hb; clear hb
  have K_60 := Lib.hid (K_49.out.keep S_59.out)
  have X_61 := Lib.hid (X_50.out.below S_59.out)
  have Y_62 := Lib.hid (Y_51.out.below S_59.out)
  have L1_63 := Lib.hid (L1_52.out.keep S_59.out)
  have R1_64 := Lib.hid (R1_53.out.below S_59.out)
  have L2_65 := Lib.hid (L2_54.out.keep S_59.out)
  have R2_66 := Lib.hid (R2_55.out.below S_59.out)
  have L3_67 := Lib.hid (L3_56.out.keep S_59.out)
  have R3_68 := Lib.hid (R3_58.out.below S_59.out)
  have B_69 := Lib.hid (then_ B_57.out S_59.out)
  clear K_49 X_50 Y_51 L1_52 R1_53 L2_54 R2_55 L3_56 R3_58 B_57
  clear S_59
  clear r10 r11
  have r20 := R2_66.out.cell 0 _ rfl
  have r21 := R2_66.out.cell 1 _ rfl
  go_wp2_with fail
  refine (lmay_any (keepS s0 b1 a2) A2 n2 c2 _ L2_65.out).mono ?_; rintro e w7 ⟨rfl, hb⟩
  rw [M2.out]
  have S_70 := Lib.hid hb; clear hb
  have K_71 := Lib.hid (K_60.out.keep S_70.out)
  have X_72 := Lib.hid (X_61.out.below S_70.out)
  have Y_73 := Lib.hid (Y_62.out.below S_70.out)
  have L1_74 := Lib.hid (L1_63.out.keep S_70.out)
  have R1_75 := Lib.hid (R1_64.out.below S_70.out)
  have L2_76 := Lib.hid (L2_65.out.keep S_70.out)
  have R2_77 := Lib.hid (R2_66.out.below S_70.out)
  have L3_78 := Lib.hid (L3_67.out.keep S_70.out)
  have R3_79 := Lib.hid (R3_68.out.below S_70.out)
  have B_80 := Lib.hid (then_ B_69.out S_70.out)
  clear K_60 X_61 Y_62 L1_63 R1_64 L2_65 R2_66 L3_67 R3_68 B_69
  clear S_70
  clear r20 r21
  have r30 := R3_79.out.cell 0 _ rfl
  have r31 := R3_79.out.cell 1 _ rfl
  go_wp2_with fail
  refine (lmay_any (endS s0 b1) A3 n3 c3 _ L3_78.out).mono ?_; rintro e w8 ⟨rfl, hb⟩
  rw [M3.out]
  have S_81 := Lib.hid hb; clear hb
  have K_82 := Lib.hid (K_71.out.keep S_81.out)
  have X_83 := Lib.hid (X_72.out.below S_81.out)
  have Y_84 := Lib.hid (Y_73.out.below S_81.out)
  have L1_85 := Lib.hid (L1_74.out.keep S_81.out)
  have R1_86 := Lib.hid (R1_75.out.below S_81.out)
  have L2_87 := Lib.hid (L2_76.out.keep S_81.out)
  have R2_88 := Lib.hid (R2_77.out.below S_81.out)
  have L3_89 := Lib.hid (L3_78.out.keep S_81.out)
  have R3_90 := Lib.hid (R3_79.out.below S_81.out)
  have B_91 := Lib.hid (then_ B_80.out S_81.out)
  clear K_71 X_72 Y_73 L1_74 R1_75 L2_76 R2_77 L3_78 R3_79 B_80
  clear S_81
  clear r30 r31
  have Q1 : Hid (LsAt w8 s0 A1 n1 c1) := Lib.hid (by have h := L1_85.out; rw [GS.out.1] at h; exact h)
  obtain rfl : n0 = n1 := hn0.symm.trans Q1.out.row.row.len
  have r10 := R1_86.out.cell 0 _ rfl
  have r11 := R1_86.out.cell 1 _ rfl
  have x0 := X_83.out.cell 0 _ rfl
  have x1 := X_83.out.cell 1 _ rfl
  have SM1 := Lib.hid (ls_same s0 A1 A0 n0 c1 c0 _ Q1.out K_82.out (by omega))
  go_wp2_with fail
  refine ((show Calls Try.prog 21 #[Ls.agg (grantS s0 a1 a2) A1 n0 c1, s0.agg A0 n0 c0] _ _ by rw [GS.out.1]; exact SM1.out)).mono ?_; rintro e w9 ⟨rfl, hb⟩
  have S_92 := Lib.hid hb; clear hb
  have K_93 := Lib.hid (K_82.out.keep S_92.out)
  have X_94 := Lib.hid (X_83.out.below S_92.out)
  have Y_95 := Lib.hid (Y_84.out.below S_92.out)
  have L1_96 := Lib.hid (L1_85.out.keep S_92.out)
  have R1_97 := Lib.hid (R1_86.out.below S_92.out)
  have L2_98 := Lib.hid (L2_87.out.keep S_92.out)
  have R2_99 := Lib.hid (R2_88.out.below S_92.out)
  have L3_100 := Lib.hid (L3_89.out.keep S_92.out)
  have R3_101 := Lib.hid (R3_90.out.below S_92.out)
  have B_102 := Lib.hid (then_ B_91.out S_92.out)
  clear K_82 X_83 Y_84 L1_85 R1_86 L2_87 R2_88 L3_89 R3_90 B_91
  clear S_92
  clear r10 r11
  clear x0 x1
  have Q2 : Hid (LsAt w9 s0 A2 n2 c2) := Lib.hid (by have h := L2_98.out; rw [KS.out.1] at h; exact h)
  obtain rfl : n0 = n2 := hn0.symm.trans Q2.out.row.row.len
  have r20 := R2_99.out.cell 0 _ rfl
  have r21 := R2_99.out.cell 1 _ rfl
  have x0 := X_94.out.cell 0 _ rfl
  have x1 := X_94.out.cell 1 _ rfl
  have SM2 := Lib.hid (ls_same s0 A2 A0 n0 c2 c0 _ Q2.out K_93.out (by omega))
  go_wp2_with fail
  refine ((show Calls Try.prog 21 #[Ls.agg (keepS s0 b1 a2) A2 n0 c2, s0.agg A0 n0 c0] _ _ by rw [KS.out.1]; exact SM2.out)).mono ?_; rintro e w10 ⟨rfl, hb⟩
  have S_103 := Lib.hid hb; clear hb
  have K_104 := Lib.hid (K_93.out.keep S_103.out)
  have X_105 := Lib.hid (X_94.out.below S_103.out)
  have Y_106 := Lib.hid (Y_95.out.below S_103.out)
  have L1_107 := Lib.hid (L1_96.out.keep S_103.out)
  have R1_108 := Lib.hid (R1_97.out.below S_103.out)
  have L2_109 := Lib.hid (L2_98.out.keep S_103.out)
  have R2_110 := Lib.hid (R2_99.out.below S_103.out)
  have L3_111 := Lib.hid (L3_100.out.keep S_103.out)
  have R3_112 := Lib.hid (R3_101.out.below S_103.out)
  have B_113 := Lib.hid (then_ B_102.out S_103.out)
  clear K_93 X_94 Y_95 L1_96 R1_97 L2_98 R2_99 L3_100 R3_101 B_102
  clear S_103
  clear r20 r21
  clear x0 x1
  have Q3 : Hid (LsAt w10 s0 A3 n3 c3) := Lib.hid (by have h := L3_111.out; rw [ES.out] at h; exact h)
  obtain rfl : n0 = n3 := hn0.symm.trans Q3.out.row.row.len
  have r30 := R3_112.out.cell 0 _ rfl
  have r31 := R3_112.out.cell 1 _ rfl
  have x0 := X_105.out.cell 0 _ rfl
  have x1 := X_105.out.cell 1 _ rfl
  have SM3 := Lib.hid (ls_same s0 A3 A0 n0 c3 c0 _ Q3.out K_104.out (by omega))
  go_wp2_with fail
  refine ((show Calls Try.prog 21 #[Ls.agg (endS s0 b1) A3 n0 c3, s0.agg A0 n0 c0] _ _ by rw [ES.out]; exact SM3.out)).mono ?_; rintro e w11 ⟨rfl, hb⟩
  have S_114 := Lib.hid hb; clear hb
  have K_115 := Lib.hid (K_104.out.keep S_114.out)
  have X_116 := Lib.hid (X_105.out.below S_114.out)
  have Y_117 := Lib.hid (Y_106.out.below S_114.out)
  have L1_118 := Lib.hid (L1_107.out.keep S_114.out)
  have R1_119 := Lib.hid (R1_108.out.below S_114.out)
  have L2_120 := Lib.hid (L2_109.out.keep S_114.out)
  have R2_121 := Lib.hid (R2_110.out.below S_114.out)
  have L3_122 := Lib.hid (L3_111.out.keep S_114.out)
  have R3_123 := Lib.hid (R3_112.out.below S_114.out)
  have B_124 := Lib.hid (then_ B_113.out S_114.out)
  clear K_104 X_105 Y_106 L1_107 R1_108 L2_109 R2_110 L3_111 R3_112 B_113
  clear S_114
  clear r30 r31
  clear x0 x1
  have x0 := X_116.out.cell 0 _ rfl
  have x1 := X_116.out.cell 1 _ rfl
  have y0 := Y_117.out.cell 0 _ rfl
  have y1 := Y_117.out.cell 1 _ rfl
  go_wp2_with fail
  refine (has_any s0 A0 n0 c0 b1 _ K_115.out).mono ?_; rintro e w12 ⟨rfl, hb⟩
  rw [HH.out]
  have S_125 := Lib.hid hb; clear hb
  have K_126 := Lib.hid (K_115.out.keep S_125.out)
  have X_127 := Lib.hid (X_116.out.below S_125.out)
  have Y_128 := Lib.hid (Y_117.out.below S_125.out)
  have L1_129 := Lib.hid (L1_118.out.keep S_125.out)
  have R1_130 := Lib.hid (R1_119.out.below S_125.out)
  have L2_131 := Lib.hid (L2_120.out.keep S_125.out)
  have R2_132 := Lib.hid (R2_121.out.below S_125.out)
  have L3_133 := Lib.hid (L3_122.out.keep S_125.out)
  have R3_134 := Lib.hid (R3_123.out.below S_125.out)
  have B_135 := Lib.hid (then_ B_124.out S_125.out)
  clear K_115 X_116 Y_117 L1_118 R1_119 L2_120 R2_121 L3_122 R3_123 B_124
  clear S_125
  clear x0 x1
  clear y0 y1
  have r30 := R3_134.out.cell 0 _ rfl
  have r31 := R3_134.out.cell 1 _ rfl
  have y0 := Y_128.out.cell 0 _ rfl
  have y1 := Y_128.out.cell 1 _ rfl
  have x0 := X_127.out.cell 0 _ rfl
  have x1 := X_127.out.cell 1 _ rfl
  go_wp2_with fail
  refine (has_any (endS s0 b1) A3 n0 c3 b1 _ L3_133.out).mono ?_; rintro e w13 ⟨rfl, hb⟩
  rw [EG.out]
  have S_136 := Lib.hid hb; clear hb
  have K_137 := Lib.hid (K_126.out.keep S_136.out)
  have X_138 := Lib.hid (X_127.out.below S_136.out)
  have Y_139 := Lib.hid (Y_128.out.below S_136.out)
  have L1_140 := Lib.hid (L1_129.out.keep S_136.out)
  have R1_141 := Lib.hid (R1_130.out.below S_136.out)
  have L2_142 := Lib.hid (L2_131.out.keep S_136.out)
  have R2_143 := Lib.hid (R2_132.out.below S_136.out)
  have L3_144 := Lib.hid (L3_133.out.keep S_136.out)
  have R3_145 := Lib.hid (R3_134.out.below S_136.out)
  have B_146 := Lib.hid (then_ B_135.out S_136.out)
  clear K_126 X_127 Y_128 L1_129 R1_130 L2_131 R2_132 L3_133 R3_134 B_135
  clear S_136
  go_wp2_with fail
  refine (live_any _).mono ?_; rintro e w14 ⟨rfl, hb⟩
  have S_147 := Lib.hid hb; clear hb
  have K_148 := Lib.hid (K_137.out.keep S_147.out)
  have X_149 := Lib.hid (X_138.out.below S_147.out)
  have Y_150 := Lib.hid (Y_139.out.below S_147.out)
  have L1_151 := Lib.hid (L1_140.out.keep S_147.out)
  have R1_152 := Lib.hid (R1_141.out.below S_147.out)
  have L2_153 := Lib.hid (L2_142.out.keep S_147.out)
  have R2_154 := Lib.hid (R2_143.out.below S_147.out)
  have L3_155 := Lib.hid (L3_144.out.keep S_147.out)
  have R3_156 := Lib.hid (R3_145.out.below S_147.out)
  have B_157 := Lib.hid (then_ B_146.out S_147.out)
  clear K_137 X_138 Y_139 L1_140 R1_141 L2_142 R2_143 L3_144 R3_145 B_146
  clear S_147
  go_wp2
  go_ret
  exact ⟨rfl, B_157.out⟩
theorem walk (w : World) (s0 : Ls) (A0 : Option Addr) (n0 c0 : Nat) (a1 b1 a2 : Int) (k0 : LsAt w s0 A0 n0 c0) (w1 : (Lit.int .i64 a1).wf = true) (u1 : (Lit.int .i64 b1).wf = true) (w2 : (Lit.int .i64 a2).wf = true) :
    Calls Try.prog 5 #[s0.agg A0 n0 c0, .agg #[.int .i64 a1, .int .i64 b1], .int .i64 a2] w fun e w' => e = .returned (.bool true) ∧ Below w.heap.size w w' := by
  cases hm : mayL s0 with
  | false => exact no_way w s0 A0 n0 c0 a1 b1 a2 k0 w1 u1 w2 hm
  | true =>
    by_cases hd : grantE s0 a1 a2 = 0
    · cases hh : hasL s0 b1 with
      | false => exact go_ok_not w s0 A0 n0 c0 a1 b1 a2 k0 w1 u1 w2 hm hd hh
      | true =>
        by_cases h1 : a2 < 0
        · exact go_ok_low w s0 A0 n0 c0 a1 b1 a2 k0 w1 u1 w2 hm hd hh h1
        · by_cases h2 : a2 ≤ 1099511627775
          · exact go_ok_in w s0 A0 n0 c0 a1 b1 a2 k0 w1 u1 w2 hm hd hh ⟨by omega, h2⟩
          · exact go_ok_high w s0 A0 n0 c0 a1 b1 a2 k0 w1 u1 w2 hm hd hh ⟨by omega, by omega⟩
    · cases hh : hasL s0 b1 with
      | false => exact go_err_not w s0 A0 n0 c0 a1 b1 a2 k0 w1 u1 w2 hm hd hh
      | true =>
        by_cases h1 : a2 < 0
        · exact go_err_low w s0 A0 n0 c0 a1 b1 a2 k0 w1 u1 w2 hm hd hh h1
        · by_cases h2 : a2 ≤ 1099511627775
          · exact go_err_in w s0 A0 n0 c0 a1 b1 a2 k0 w1 u1 w2 hm hd hh ⟨by omega, h2⟩
          · exact go_err_high w s0 A0 n0 c0 a1 b1 a2 k0 w1 u1 w2 hm hd hh ⟨by omega, by omega⟩

theorem own : ownKnob Try.prog.godebug = none := by kernel_rfl
theorem laidOut : laidOutB Try.prog = true := by kernel_rfl

set_option maxRecDepth 100000 in
theorem lifted (os : Os) (started : os.Started) (H : Type) (enc : TypeId × Value → H) :
    ReturnsInHanded {} Try.checked os 5 .any (Rows.leaseMaySpec.pre6 enc Try.prog Try.f5 Rows.leaseMayRow.domain false) (Rows.leaseMaySpec.post enc Try.prog Try.f5 false true false false) := by
  refine returnsInHanded_of_change (C := Try.checked) own started (by kernel_rfl) Try.func5
    (ChangeSpec.witness6 (enc := enc) (C := Try.checked) false ⟨#[], #[.agg #[.int .i64 0, .slice none 0 0], .agg #[.int .i64 0, .int .i64 0], (.int .i64 0)], []⟩ 8 (by kernel_rfl) (by kernel_rfl) (by kernel_rfl) (by kernel_rfl)) ?_
  intro W base args ds gs before hval0 hW hcnd _
  have hval : ∀ (j : Nat) t v, Try.f5.params[j]? = some t → args[j]? = some v → Value.okWide Try.prog W .any base t v := hval0
  have hW' := hW
  obtain ⟨p, q, hA0, hV, rfl, hfz, hnd⟩ := hW
  have hA : DataW.TrodAll enc Try.prog W 0 (fun _ => true) true Try.f5.params.toList args.toList ds p := hA0
  rw [Try.params5] at hA hval
  obtain ⟨v0, vs0, d0, ds0, p0, q0, hargs, rfl, rfl, h0, r0⟩ := trodAll_cons hA
  obtain ⟨v1, vs1, d1, ds1, p1, q1, rfl, rfl, rfl, h1, r1⟩ := trodAll_cons r0
  obtain ⟨v2, vs2, d2, ds2, p2, q2, rfl, rfl, rfl, h2, r2⟩ := trodAll_cons r1
  obtain ⟨rfl, rfl, rfl⟩ := trodAll_nil r2
  obtain rfl : args = #[v0, v1, v2] := by cases args; simp_all
  obtain ⟨rfl, rfl⟩ := trodVars_none hV
  obtain ⟨s0, A0, n0, c0, rfl, k0⟩ := open_ls (hval 0 24 v0 rfl rfl) h0
  obtain ⟨a1, b1, rfl, rfl, rfl, w1, u1⟩ := open_two_int Try.underlying25 Try.underlying3 (by kernel_rfl) (by kernel_rfl) (hval 1 25 v1 rfl rfl) h1
  obtain ⟨a2, rfl, rfl, rfl, w2⟩ := open_int Try.underlying3 (hval 2 3 v2 rfl rfl) h2
  clear hA0 hval0
  refine (walk W s0 A0 n0 c0 a1 b1 a2 k0 w1 u1 w2).mono fun e W' ⟨he, bel⟩ => ?_
  subst he
  exact ⟨_, rfl, _, _, _, [], _, [], hW', trodAll_mk1 (shut_bool Try.underlying4 _), (trodAll_cons_mk (Below.trod laidOut (by kernel_rfl) (of_decide_eq_true (by kernel_rfl)) h0 bel (fun x hx => hW'.lt x (by simp [hx]))) (trodAll_cons_mk (shut_two_int Try.underlying25 Try.underlying3 (by kernel_rfl) (by kernel_rfl) w1 u1) (trodAll_cons_mk (shut_int Try.underlying3 w2) trodAll_mk0))), rfl, bel.frame _, fun h => by cases h⟩

theorem over : Rows.leaseMayRow.holds Try.pinned (OpenSpec.ofChange Rows.leaseMaySpec) :=
  OpenClaim.holds_of_wide 5 Try.f5 rfl rfl rfl rfl rfl rfl rfl ⟨rfl, rfl, rfl, rfl, rfl⟩ rfl rfl rfl rfl rfl (by kernel_rfl) Try.func5 (by kernel_rfl)
    (of_decide_eq_true (by kernel_rfl)) (by unfold Func.isWrapper; first | (rw [if_pos (by decide +kernel)]; kernel_rfl) | (rw [if_neg (by decide +kernel)]; exact ⟨rfl, rfl⟩))
    (fun os started H enc _ => lifted os started H enc)

theorem proved : Rows.LeaseMaySaid := over
#print axioms proved
end Go.Proofs.Ytelepkofhdjagab.leaseMay
