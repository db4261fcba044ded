/- Layer 12's examples, which each law asks for, too. -/
import Derived.Test.YtdmhpnobdflkfaaBgTake
import Derived.Test.YtdmhpnobdflkfaaBgBtw
import Derived.Deep.RegionHeld3
namespace Go.Proofs.Ytdmhpnobdflkfaa.P
open Go.RowKit Go.Sort
set_option maxHeartbeats 2000000
set_option linter.unusedVariables false
set_option linter.unusedSimpArgs false
set_option maxRecDepth 100000

abbrev mx : Msg := ⟨2, 0, ⟨#[120]⟩⟩
abbrev my : Msg := ⟨3, 1, ⟨#[121]⟩⟩
abbrev rXY : Array Value := #[.int .i64 2, .int .i64 0, .string ⟨#[120]⟩, .int .i64 3, .int .i64 1, .string ⟨#[121]⟩]
theorem ms_lit (w : World) (cs : Array Value) (l : List Msg) (n : Nat) (hcs : cs.toList = flatC Msg.cells l) (hn : l.length = n) (hm : n ≤ 1000) : Ms (w.alloc (.cells cs 42)) (some ⟨w.heap.size, 0, none⟩) n n l := by
  have h := World.ownsRow_lit (base := w.heap.size) (e := 42) (size := 3) w cs n (Nat.le_refl _) (by simp only [maxLen]; omega) (by rw [← Array.length_toList, hcs, flat_len msg_len, hn])
  rw [hcs] at h
  exact ⟨RowsOf.of_own msg_len hn h⟩
theorem p1 (w : World) (g : Nat) (hg : w.heap.size = g) : Calls Try.prog 32 #[.slice none 0 0, .slice (some ⟨g, 0, none⟩) 2 2] (w.alloc (.cells rXY 42)) (MsEnd [mx, my] 0 (w.alloc (.cells rXY 42))) := by
  subst hg
  have h := put_any none 0 0 [] _ 2 2 [mx, my] _ (Ms.bare _) (ms_lit w rXY [mx, my] 2 rfl rfl (by decide)) (by decide) (by decide)
  have e1 : putE [] [mx, my] = 0 := by decide
  rw [put_ok e1, e1] at h
  exact h
theorem p2 (A : Option Addr) (c : Nat) (w : World) (h : Ms w A 2 c [mx, my]) : Calls Try.prog 39 #[.slice A 2 c, .int .i64 0] w (MsEnd [mx, my, mx] 0 w) := by
  have h := copy_any A 2 c [mx, my] 0 w h (by decide)
  have e1 : cpE [mx, my] 0 = 0 := by decide
  rw [(cp_ok e1).1, e1] at h
  exact h
theorem p3 (A : Option Addr) (c : Nat) (w : World) (h : Ms w A 3 c [mx, my, mx]) : Calls Try.prog 37 #[.slice A 3 c, .int .i64 1] w (MtEnd my [mx, mx] 0 w) := by
  have h := take_any A 3 c [mx, my, mx] 1 w h (by decide)
  have e0 : hasM [mx, my, mx] 1 = true := by decide
  rw [(tk_ok e0).1, (tk_ok e0).2] at h
  exact h
theorem p4 (A : Option Addr) (c : Nat) (w : World) (h : Ms w A 3 c [mx, my, mx]) : Calls Try.prog 37 #[.slice A 3 c, .int .i64 3] w (MtEnd zeroMsg [mx, my, mx] 5 w) := by
  have h := take_any A 3 c [mx, my, mx] 3 w h (by decide)
  have e0 : hasM [mx, my, mx] 3 = false := by decide
  rw [(tk_err e0).1, (tk_err e0).2.1, (tk_err e0).2.2] at h
  exact h
theorem p5 (A : Option Addr) (c : Nat) (w : World) (g : Nat) (hg : w.heap.size = g) (h : Ms (w.alloc (.cells zMsg 42)) A 2 c [mx, my]) : Calls Try.prog 32 #[.slice A 2 c, .slice (some ⟨g, 0, none⟩) 1 1] (w.alloc (.cells zMsg 42)) (MsEnd [mx, my] 1 (w.alloc (.cells zMsg 42))) := by
  subst hg
  have h := put_any A 2 c [mx, my] _ 1 1 [zeroMsg] _ h (ms_lit w zMsg [zeroMsg] 1 rfl rfl (by decide)) (by decide) (by decide)
  have e1 : putE [mx, my] [zeroMsg] = 1 := by decide
  rw [put_err (by rw [e1]; decide), e1] at h
  exact h
theorem p6 (A : Option Addr) (c : Nat) (w : World) (h : Ms w A 2 c [mx, mx]) : Calls Try.prog 42 #[.slice A 2 c, .int .i64 2, .int .i64 0] w (IsEnd [0, 1] w) := between_any A 2 c [mx, mx] 2 0 w h (by decide)
theorem p7 (A : Option Addr) (c : Nat) (w : World) (h : Ms w A 3 c [mx, my, mx]) : Calls Try.prog 34 #[.slice A 3 c] w fun e w' => e = .returned (.bool true) ∧ Below w.heap.size w w' := by
  have h := bmay_any A 3 c [mx, my, mx] w h
  rwa [show bagB [mx, my, mx] = true by decide] at h
theorem p8 (w : World) : Calls Try.prog 34 #[.slice (some ⟨w.heap.size, 0, none⟩) 1 1] (w.alloc (.cells zMsg 42)) fun e w' => e = .returned (.bool false) ∧ Below (w.alloc (.cells zMsg 42)).heap.size (w.alloc (.cells zMsg 42)) w' := by
  have h := bmay_any _ 1 1 [zeroMsg] _ (ms_lit w zMsg [zeroMsg] 1 rfl rfl (by decide))
  rwa [show bagB [zeroMsg] = false by decide] at h
theorem live_any (w : World) : Calls Try.prog 31 #[] w fun e w' => e = .returned (.bool true) ∧ Below w.heap.size w w' := by
  go_enter Try.func31, Try.ntmps31
  have B_1 := Lib.hid ((new1 w (.cells #[.int .i64 2, .int .i64 0, .string ⟨#[120]⟩] 42)))
  have X_2 := Lib.hid (own_new w #[.int .i64 2, .int .i64 0, .string ⟨#[120]⟩] 42)
  have X_3 := Lib.hid (X_2.out.below (new1 (w.alloc (.cells #[.int .i64 2, .int .i64 0, .string ⟨#[120]⟩] 42)) (.cells #[.int .i64 3, .int .i64 1, .string ⟨#[121]⟩] 42)))
  have B_4 := Lib.hid (then_ B_1.out (new1 (w.alloc (.cells #[.int .i64 2, .int .i64 0, .string ⟨#[120]⟩] 42)) (.cells #[.int .i64 3, .int .i64 1, .string ⟨#[121]⟩] 42)))
  clear X_2 B_1
  have Y_5 := Lib.hid (own_new2 w (.cells #[.int .i64 2, .int .i64 0, .string ⟨#[120]⟩] 42) #[.int .i64 3, .int .i64 1, .string ⟨#[121]⟩] 42)
  have X_6 := Lib.hid (X_3.out.below (new1 ((w.alloc (.cells #[.int .i64 2, .int .i64 0, .string ⟨#[120]⟩] 42)).alloc (.cells #[.int .i64 3, .int .i64 1, .string ⟨#[121]⟩] 42)) (.cells rXY 42)))
  have Y_7 := Lib.hid (Y_5.out.below (new1 ((w.alloc (.cells #[.int .i64 2, .int .i64 0, .string ⟨#[120]⟩] 42)).alloc (.cells #[.int .i64 3, .int .i64 1, .string ⟨#[121]⟩] 42)) (.cells rXY 42)))
  have B_8 := Lib.hid (then_ B_4.out (new1 ((w.alloc (.cells #[.int .i64 2, .int .i64 0, .string ⟨#[120]⟩] 42)).alloc (.cells #[.int .i64 3, .int .i64 1, .string ⟨#[121]⟩] 42)) (.cells rXY 42)))
  clear X_3 Y_5 B_4
  have x0 := X_6.out.cell 0 _ rfl
  have x1 := X_6.out.cell 1 _ rfl
  have x2 := X_6.out.cell 2 _ rfl
  have y0 := Y_7.out.cell 0 _ rfl
  have y1 := Y_7.out.cell 1 _ rfl
  have y2 := Y_7.out.cell 2 _ rfl
  go_wp2_with fail
  refine (p1 ((w.alloc (.cells #[.int .i64 2, .int .i64 0, .string ⟨#[120]⟩] 42)).alloc (.cells #[.int .i64 3, .int .i64 1, .string ⟨#[121]⟩] 42)) (w.heap.size + 1 + 1) (by simp)).mono ?_; rintro e w1 ⟨A1, n1, c1, rfl, h1, hb⟩
  obtain rfl : n1 = 2 := h1.len.symm
  have S_9 := Lib.hid hb; clear hb
  have X_10 := Lib.hid (X_6.out.below S_9.out)
  have Y_11 := Lib.hid (Y_7.out.below S_9.out)
  have B_12 := Lib.hid (then_ B_8.out S_9.out)
  clear X_6 Y_7 B_8
  clear S_9
  clear x0 x1 x2
  clear y0 y1 y2
  have L1_13 := Lib.hid (h1)
  clear h1
  go_wp2_with fail
  refine (p2 A1 c1 _ L1_13.out).mono ?_; rintro e w2 ⟨A2, n2, c2, rfl, h2, hb⟩
  obtain rfl : n2 = 3 := h2.len.symm
  have S_14 := Lib.hid hb; clear hb
  have X_15 := Lib.hid (X_10.out.below S_14.out)
  have Y_16 := Lib.hid (Y_11.out.below S_14.out)
  have L1_17 := Lib.hid (L1_13.out.keep S_14.out)
  have B_18 := Lib.hid (then_ B_12.out S_14.out)
  clear X_10 Y_11 L1_13 B_12
  clear S_14
  have L2_19 := Lib.hid (h2)
  clear h2
  go_wp2_with fail
  refine (p3 A2 c2 _ L2_19.out).mono ?_; rintro e w3 ⟨A3, n3, c3, rfl, h3, hb⟩
  obtain rfl : n3 = 2 := h3.len.symm
  have S_20 := Lib.hid hb; clear hb
  have X_21 := Lib.hid (X_15.out.below S_20.out)
  have Y_22 := Lib.hid (Y_16.out.below S_20.out)
  have L1_23 := Lib.hid (L1_17.out.keep S_20.out)
  have L2_24 := Lib.hid (L2_19.out.keep S_20.out)
  have B_25 := Lib.hid (then_ B_18.out S_20.out)
  clear X_15 Y_16 L1_17 L2_19 B_18
  clear S_20
  have L3_26 := Lib.hid (h3)
  clear h3
  have X_27 := Lib.hid (X_21.out.below (new1 w3 (.cells #[.int .i64 3, .int .i64 1, .string ⟨#[121]⟩] 42)))
  have Y_28 := Lib.hid (Y_22.out.below (new1 w3 (.cells #[.int .i64 3, .int .i64 1, .string ⟨#[121]⟩] 42)))
  have L1_29 := Lib.hid (L1_23.out.keep (new1 w3 (.cells #[.int .i64 3, .int .i64 1, .string ⟨#[121]⟩] 42)))
  have L2_30 := Lib.hid (L2_24.out.keep (new1 w3 (.cells #[.int .i64 3, .int .i64 1, .string ⟨#[121]⟩] 42)))
  have L3_31 := Lib.hid (L3_26.out.keep (new1 w3 (.cells #[.int .i64 3, .int .i64 1, .string ⟨#[121]⟩] 42)))
  have B_32 := Lib.hid (then_ B_25.out (new1 w3 (.cells #[.int .i64 3, .int .i64 1, .string ⟨#[121]⟩] 42)))
  clear X_21 Y_22 L1_23 L2_24 L3_26 B_25
  have M_33 := Lib.hid (own_new w3 #[.int .i64 3, .int .i64 1, .string ⟨#[121]⟩] 42)
  go_wp2_with fail
  refine (p4 A2 c2 _ L2_30.out).mono ?_; rintro e w4 ⟨A4, n4, c4, rfl, h4, hb⟩
  have S_34 := Lib.hid hb; clear hb
  have X_35 := Lib.hid (X_27.out.below S_34.out)
  have Y_36 := Lib.hid (Y_28.out.below S_34.out)
  have L1_37 := Lib.hid (L1_29.out.keep S_34.out)
  have L2_38 := Lib.hid (L2_30.out.keep S_34.out)
  have L3_39 := Lib.hid (L3_31.out.keep S_34.out)
  have M_40 := Lib.hid (M_33.out.below S_34.out)
  have B_41 := Lib.hid (then_ B_32.out S_34.out)
  clear X_27 Y_28 L1_29 L2_30 L3_31 M_33 B_32
  clear S_34
  clear h4
  have X_42 := Lib.hid (X_35.out.below (new1 w4 (.cells zMsg 42)))
  have Y_43 := Lib.hid (Y_36.out.below (new1 w4 (.cells zMsg 42)))
  have L1_44 := Lib.hid (L1_37.out.keep (new1 w4 (.cells zMsg 42)))
  have L2_45 := Lib.hid (L2_38.out.keep (new1 w4 (.cells zMsg 42)))
  have L3_46 := Lib.hid (L3_39.out.keep (new1 w4 (.cells zMsg 42)))
  have M_47 := Lib.hid (M_40.out.below (new1 w4 (.cells zMsg 42)))
  have B_48 := Lib.hid (then_ B_41.out (new1 w4 (.cells zMsg 42)))
  clear X_35 Y_36 L1_37 L2_38 L3_39 M_40 B_41
  have X_49 := Lib.hid (X_42.out.below (new1 (w4.alloc (.cells zMsg 42)) (.cells zMsg 42)))
  have Y_50 := Lib.hid (Y_43.out.below (new1 (w4.alloc (.cells zMsg 42)) (.cells zMsg 42)))
  have L1_51 := Lib.hid (L1_44.out.keep (new1 (w4.alloc (.cells zMsg 42)) (.cells zMsg 42)))
  have L2_52 := Lib.hid (L2_45.out.keep (new1 (w4.alloc (.cells zMsg 42)) (.cells zMsg 42)))
  have L3_53 := Lib.hid (L3_46.out.keep (new1 (w4.alloc (.cells zMsg 42)) (.cells zMsg 42)))
  have M_54 := Lib.hid (M_47.out.below (new1 (w4.alloc (.cells zMsg 42)) (.cells zMsg 42)))
  have B_55 := Lib.hid (then_ B_48.out (new1 (w4.alloc (.cells zMsg 42)) (.cells zMsg 42)))
  clear X_42 Y_43 L1_44 L2_45 L3_46 M_47 B_48
  go_wp2_with fail
  refine (p5 A1 c1 (w4.alloc (.cells zMsg 42)) (w4.heap.size + 1) (by simp) L1_51.out).mono ?_; rintro e w5 ⟨A5, n5, c5, rfl, h5, hb⟩
  have S_56 := Lib.hid hb; clear hb
  have X_57 := Lib.hid (X_49.out.below S_56.out)
  have Y_58 := Lib.hid (Y_50.out.below S_56.out)
  have L1_59 := Lib.hid (L1_51.out.keep S_56.out)
  have L2_60 := Lib.hid (L2_52.out.keep S_56.out)
  have L3_61 := Lib.hid (L3_53.out.keep S_56.out)
  have M_62 := Lib.hid (M_54.out.below S_56.out)
  have B_63 := Lib.hid (then_ B_55.out S_56.out)
  clear X_49 Y_50 L1_51 L2_52 L3_53 M_54 B_55
  clear S_56
  clear h5
  go_wp2_with fail
  refine (p6 A3 c3 _ L3_61.out).mono ?_; rintro e w6 ⟨A6, n6, c6, rfl, h6, hb⟩
  obtain rfl : n6 = 2 := h6.len.symm
  have S_64 := Lib.hid hb; clear hb
  have X_65 := Lib.hid (X_57.out.below S_64.out)
  have Y_66 := Lib.hid (Y_58.out.below S_64.out)
  have L1_67 := Lib.hid (L1_59.out.keep S_64.out)
  have L2_68 := Lib.hid (L2_60.out.keep S_64.out)
  have L3_69 := Lib.hid (L3_61.out.keep S_64.out)
  have M_70 := Lib.hid (M_62.out.below S_64.out)
  have B_71 := Lib.hid (then_ B_63.out S_64.out)
  clear X_57 Y_58 L1_59 L2_60 L3_61 M_62 B_63
  clear S_64
  have L6_72 := Lib.hid (h6)
  clear h6
  obtain ⟨a2, z2, rfl, hla2, hz2, k2⟩ := L2_68.out.at_ (show 2 < 3 by omega)
  obtain rfl : (mx : Msg) = z2 := Option.some.inj hz2
  obtain ⟨k20, k21, k22⟩ := k2
  have e20 : w6.cell? ⟨a2.block, a2.off + 6, none⟩ = some (.int .i64 2) := by have := k20; simpa [Addr.add] using this
  have e21 : w6.cell? ⟨a2.block, a2.off + 7, none⟩ = some (.int .i64 0) := by have := k21; simpa [Addr.add] using this
  have e22 : w6.cell? ⟨a2.block, a2.off + 8, none⟩ = some (.string ⟨#[120]⟩) := by have := k22; simpa [Addr.add] using this
  obtain ⟨a6, z6, rfl, hla6, hz6, k6⟩ := Is.at_ L6_72.out (show 1 < 2 by omega)
  obtain rfl : (1 : Int) = z6 := Option.some.inj hz6
  have e60 : w6.cell? ⟨a6.block, a6.off + 1, none⟩ = some (.int .i64 1) := by have := k6; simpa [Addr.add] using this
  clear hz2 hz6 k20 k21 k22 k6
  have x0 := X_65.out.cell 0 _ rfl
  have x1 := X_65.out.cell 1 _ rfl
  have x2 := X_65.out.cell 2 _ rfl
  have y0 := Y_66.out.cell 0 _ rfl
  have y1 := Y_66.out.cell 1 _ rfl
  have y2 := Y_66.out.cell 2 _ rfl
  have m0 := M_70.out.cell 0 _ rfl
  have m1 := M_70.out.cell 1 _ rfl
  have m2 := M_70.out.cell 2 _ rfl
  have hlx := X_65.out.lt
  have hly := Y_66.out.lt
  have hlm := M_70.out.lt
  have heq := eql_msg mx mx
  have heq2 := eql_msg my my
  rw [msgEq_self] at heq heq2
  have tk1 : True := trivial
  go_wp2
  simp only [List.append_eq, List.cons_append, List.nil_append]
  go_region_held3 (fun w' => w'.cell? ⟨w.heap.size, 0, none⟩ = some (.int .i64 2) ∧ w'.cell? ⟨w.heap.size, 1, none⟩ = some (.int .i64 0) ∧ w'.cell? ⟨w.heap.size, 2, none⟩ = some (.string ⟨#[120]⟩) ∧ w'.cell? ⟨w.heap.size + 1, 0, none⟩ = some (.int .i64 3) ∧ w'.cell? ⟨w.heap.size + 1, 1, none⟩ = some (.int .i64 1) ∧ w'.cell? ⟨w.heap.size + 1, 2, none⟩ = some (.string ⟨#[121]⟩) ∧ w'.cell? ⟨w3.heap.size, 0, none⟩ = some (.int .i64 3) ∧ w'.cell? ⟨w3.heap.size, 1, none⟩ = some (.int .i64 1) ∧ w'.cell? ⟨w3.heap.size, 2, none⟩ = some (.string ⟨#[121]⟩) ∧ w'.cell? ⟨a2.block, a2.off + 6, none⟩ = some (.int .i64 2) ∧ w'.cell? ⟨a2.block, a2.off + 7, none⟩ = some (.int .i64 0) ∧ w'.cell? ⟨a2.block, a2.off + 8, none⟩ = some (.string ⟨#[120]⟩) ∧ w'.cell? ⟨a6.block, a6.off + 1, none⟩ = some (.int .i64 1)) (go_keep) (first
    | (go_at_call 34; have _t := tk1; clear _t tk1; (with_reducible refine (p7 (some a2) c2 _ (L2_68.out.keep (new_drew w6))).mono ?_); rintro e V1 ⟨rfl, hb⟩; have HV1 : Hid (Below w6.heap.size w6 V1) := Lib.hid (then_ (new_drew w6) hb); clear hb; obtain ⟨hcV1, hfV1⟩ := bcell HV1.out; have tk2 : True := trivial)
    | (go_at_call 34; have _t := tk2; clear _t tk2; (with_reducible refine (p8 V1).mono ?_); rintro e V2 ⟨rfl, hb⟩; have hb := then_ (new1 V1 (.cells zMsg 42)) hb; have HV2 : Hid (Below w6.heap.size w6 V2) := Lib.hid (then_ HV1.out hb); clear hb; clear hcV1 hfV1; obtain ⟨hcV2, hfV2⟩ := bcell HV2.out; have tk3 : True := trivial))
  all_goals
    have BB := Lib.hid (then_ B_71.out HV2.out)
    go_wp2
    go_ret
    exact ⟨rfl, BB.out⟩
end Go.Proofs.Ytdmhpnobdflkfaa.P
