/- Layer 8's examples, which each law asks for, too. -/
import Derived.Test.YtelepkofhdjagabLsDue
import Derived.Test.YtelepkofhdjagabLsStop
import Derived.Test.YtelepkofhdjagabKvTake
namespace Go.Proofs.Ytelepkofhdjagab.P
open Go.RowKit Go.Sort
set_option maxHeartbeats 1000000
set_option linter.unusedVariables false
set_option linter.unusedSimpArgs false
set_option maxRecDepth 100000

abbrev E0 : Ls := ⟨0, []⟩
abbrev E1 : Ls := ⟨1, [⟨1, 10, 15⟩]⟩
abbrev E2 : Ls := ⟨2, [⟨1, 10, 15⟩, ⟨2, 3, 9⟩]⟩
abbrev E3 : Ls := ⟨2, [⟨1, 10, 22⟩, ⟨2, 3, 9⟩]⟩
abbrev E4 : Ls := ⟨2, [⟨1, 10, 22⟩]⟩
abbrev En : Ls := ⟨-1, []⟩
theorem e0_at (w : World) : LsAt w E0 none 0 0 := ⟨Les.bare w, ⟨by decide, by decide⟩⟩
theorem en_at (w : World) : LsAt w En none 0 0 := ⟨Les.bare w, ⟨by decide, by decide⟩⟩
theorem g1 (w : World) : Calls Try.prog 17 #[E0.agg none 0 0, .int .i64 10, .int .i64 5] w (LsEnd3 E1 1 0 w) := grant_any E0 none 0 0 10 5 w (e0_at w) (by decide)
theorem g2 (A : Option Addr) (n c : Nat) (w : World) (h : LsAt w E1 A n c) : Calls Try.prog 17 #[E1.agg A n c, .int .i64 3, .int .i64 6] w (LsEnd3 E2 2 0 w) := grant_any E1 A n c 3 6 w h (by decide)
theorem g3 (A : Option Addr) (n c : Nat) (w : World) (h : LsAt w E2 A n c) : Calls Try.prog 19 #[E2.agg A n c, .int .i64 1, .int .i64 12] w (LsEnd3 E3 10 0 w) := keep_any E2 A n c 1 12 w h (by decide) (by unfold smallT; decide)
theorem g4 (A : Option Addr) (n c : Nat) (w : World) (h : LsAt w E3 A n c) : Calls Try.prog 27 #[E3.agg A n c, .int .i64 2] w (LsEnd2 E4 0 w) := end_any E3 A n c 2 w h (by decide)
theorem g5 (A : Option Addr) (n c : Nat) (w : World) (h : LsAt w E4 A n c) : Calls Try.prog 19 #[E4.agg A n c, .int .i64 2, .int .i64 12] w (LsEnd3 E4 0 6 w) := keep_any E4 A n c 2 12 w h (by decide) (by unfold smallT; decide)
theorem g6 (A : Option Addr) (n c : Nat) (w : World) (h : LsAt w E4 A n c) : Calls Try.prog 17 #[E4.agg A n c, .int .i64 0, .int .i64 12] w (LsEnd3 E4 0 1 w) := grant_any E4 A n c 0 12 w h (by decide)
theorem g7 (A : Option Addr) (n c : Nat) (w : World) (h : LsAt w E2 A n c) : Calls Try.prog 30 #[E2.agg A n c, .int .i64 10] w (RowEnd intC 1 [2] w) := due_any E2 A n c 10 w h (by rw [← h.row.row.len]; decide)
abbrev dKV (k : ByteArray) (l : Int) : KV := ⟨k, ⟨#[]⟩, 0, 0, 0, l⟩
abbrev dL : List KV := [dKV ⟨#[120]⟩ 2, dKV ⟨#[121]⟩ 0, dKV ⟨#[122]⟩ 2]
abbrev dM : List Mu := [⟨true, ⟨#[120]⟩, ⟨#[]⟩, 0⟩, ⟨true, ⟨#[122]⟩, ⟨#[]⟩, 0⟩]
theorem g8 (A : Option Addr) (n c : Nat) (w : World) (h : KVs w A n c dL) : Calls Try.prog 33 #[.slice A n c, .int .i64 2] w (RowEnd Mu.cells 4 dM w) := drops_any A n c dL 2 w h (by rw [← h.len]; decide)
theorem dl_at (w : World) (cs : Array Value) (hcs : cs.toList = cellsL dL) : KVs (w.alloc (.cells cs 48)) (some ⟨w.heap.size, 0, none⟩) 3 3 dL := by
  have h := World.ownsRow_lit (base := w.heap.size) (e := 48) (size := 6) w cs 3 (Nat.le_refl _) (by simp only [maxLen]; omega) (by rw [← Array.length_toList, hcs]; rfl)
  rw [hcs] at h
  exact own_kvs h (by intro x hx; simp at hx; rcases hx with rfl | rfl | rfl <;> exact ⟨by simp [maxLen, ByteArray.size], by simp [maxLen, ByteArray.size], by simp [inI], by simp [inI], by simp [inI], by simp [inI]⟩)
theorem m2 (A : Option Addr) (n c : Nat) (w : World) (h : LsAt w E2 A n c) : Calls Try.prog 22 #[E2.agg A n c] w fun e w' => e = .returned (.bool true) ∧ Below w.heap.size w w' := lmay_any E2 A n c w h
theorem mn (w : World) : Calls Try.prog 22 #[En.agg none 0 0] w fun e w' => e = .returned (.bool false) ∧ Below w.heap.size w w' := lmay_any En none 0 0 w (en_at w)
theorem h2 (A : Option Addr) (n c : Nat) (w : World) (h : LsAt w E2 A n c) : Calls Try.prog 24 #[E2.agg A n c, .int .i64 2] w fun e w' => e = .returned (.bool true) ∧ Below w.heap.size w w' := has_any E2 A n c 2 w h
theorem h4 (A : Option Addr) (n c : Nat) (w : World) (h : LsAt w E4 A n c) : Calls Try.prog 24 #[E4.agg A n c, .int .i64 2] w fun e w' => e = .returned (.bool false) ∧ Below w.heap.size w w' := has_any E4 A n c 2 w h
theorem eql_mu (w : World) (g : Bool) (a b : ByteArray) (i : Int) : (binOp .eql 50 (.agg #[.bool g, .string a, .string b, .int .i64 i]) (.agg #[.bool g, .string a, .string b, .int .i64 i])).run Try.prog w = .ok (.bool true) w := by
  simp [go_sem, Try.underlying50]
theorem live_any (w : World) : Calls Try.prog 16 #[] w fun e w' => e = .returned (.bool true) ∧ Below w.heap.size w w' := by
  go_enter Try.func16, Try.ntmps16
  go_wp2_with fail
  refine (g1 _).mono ?_; rintro e w1 ⟨A1, n1, c1, rfl, h1, hb⟩
  obtain rfl : n1 = 1 := h1.row.row.len.symm
  have S_1 := Lib.hid hb; clear hb
  have B_2 := Lib.hid (S_1.out)
  clear S_1
  have L1_3 := Lib.hid (h1)
  clear h1
  have L1_4 := Lib.hid (L1_3.out.keep (new1 w1 (.cells #[.int .i64 1, .slice A1 1 c1] 24)))
  have B_5 := Lib.hid (then_ B_2.out (new1 w1 (.cells #[.int .i64 1, .slice A1 1 c1] 24)))
  clear L1_3 B_2
  have X1_6 := Lib.hid (own_new w1 #[.int .i64 1, .slice A1 1 c1] 24)
  have p0 := X1_6.out.cell 0 _ rfl
  have p1 := X1_6.out.cell 1 _ rfl
  go_wp2_with fail
  refine (g2 A1 1 c1 _ L1_4.out).mono ?_; rintro e w2 ⟨A2, n2, c2, rfl, h2, hb⟩
  obtain rfl : n2 = 2 := h2.row.row.len.symm
  have S_7 := Lib.hid hb; clear hb
  have L1_8 := Lib.hid (L1_4.out.keep S_7.out)
  have X1_9 := Lib.hid (X1_6.out.below S_7.out)
  have B_10 := Lib.hid (then_ B_5.out S_7.out)
  clear L1_4 X1_6 B_5
  clear S_7
  have L2_11 := Lib.hid (h2)
  clear h2
  have L1_12 := Lib.hid (L1_8.out.keep (new1 w2 (.cells #[.int .i64 2, .slice A2 2 c2] 24)))
  have X1_13 := Lib.hid (X1_9.out.below (new1 w2 (.cells #[.int .i64 2, .slice A2 2 c2] 24)))
  have L2_14 := Lib.hid (L2_11.out.keep (new1 w2 (.cells #[.int .i64 2, .slice A2 2 c2] 24)))
  have B_15 := Lib.hid (then_ B_10.out (new1 w2 (.cells #[.int .i64 2, .slice A2 2 c2] 24)))
  clear L1_8 X1_9 L2_11 B_10
  have X2_16 := Lib.hid (own_new w2 #[.int .i64 2, .slice A2 2 c2] 24)
  clear p0 p1
  clear X1_13
  clear L1_12
  have p0 := X2_16.out.cell 0 _ rfl
  have p1 := X2_16.out.cell 1 _ rfl
  go_wp2_with fail
  refine (g3 A2 2 c2 _ L2_14.out).mono ?_; rintro e w3 ⟨A3, n3, c3, rfl, h3, hb⟩
  obtain rfl : n3 = 2 := h3.row.row.len.symm
  have S_17 := Lib.hid hb; clear hb
  have L2_18 := Lib.hid (L2_14.out.keep S_17.out)
  have X2_19 := Lib.hid (X2_16.out.below S_17.out)
  have B_20 := Lib.hid (then_ B_15.out S_17.out)
  clear L2_14 X2_16 B_15
  clear S_17
  have L3_21 := Lib.hid (h3)
  clear h3
  have L2_22 := Lib.hid (L2_18.out.keep (new1 w3 (.cells #[.int .i64 2, .slice A3 2 c3] 24)))
  have X2_23 := Lib.hid (X2_19.out.below (new1 w3 (.cells #[.int .i64 2, .slice A3 2 c3] 24)))
  have L3_24 := Lib.hid (L3_21.out.keep (new1 w3 (.cells #[.int .i64 2, .slice A3 2 c3] 24)))
  have B_25 := Lib.hid (then_ B_20.out (new1 w3 (.cells #[.int .i64 2, .slice A3 2 c3] 24)))
  clear L2_18 X2_19 L3_21 B_20
  have X3_26 := Lib.hid (own_new w3 #[.int .i64 2, .slice A3 2 c3] 24)
  clear p0 p1
  have p0 := X3_26.out.cell 0 _ rfl
  have p1 := X3_26.out.cell 1 _ rfl
  go_wp2_with fail
  refine (g4 A3 2 c3 _ L3_24.out).mono ?_; rintro e w4 ⟨A4, n4, c4, rfl, h4, hb⟩
  obtain rfl : n4 = 1 := h4.row.row.len.symm
  have S_27 := Lib.hid hb; clear hb
  have L2_28 := Lib.hid (L2_22.out.keep S_27.out)
  have X2_29 := Lib.hid (X2_23.out.below S_27.out)
  have L3_30 := Lib.hid (L3_24.out.keep S_27.out)
  have X3_31 := Lib.hid (X3_26.out.below S_27.out)
  have B_32 := Lib.hid (then_ B_25.out S_27.out)
  clear L2_22 X2_23 L3_24 X3_26 B_25
  clear S_27
  have L4_33 := Lib.hid (h4)
  clear h4
  have L2_34 := Lib.hid (L2_28.out.keep (new1 w4 (.cells #[.int .i64 2, .slice A4 1 c4] 24)))
  have X2_35 := Lib.hid (X2_29.out.below (new1 w4 (.cells #[.int .i64 2, .slice A4 1 c4] 24)))
  have L3_36 := Lib.hid (L3_30.out.keep (new1 w4 (.cells #[.int .i64 2, .slice A4 1 c4] 24)))
  have X3_37 := Lib.hid (X3_31.out.below (new1 w4 (.cells #[.int .i64 2, .slice A4 1 c4] 24)))
  have L4_38 := Lib.hid (L4_33.out.keep (new1 w4 (.cells #[.int .i64 2, .slice A4 1 c4] 24)))
  have B_39 := Lib.hid (then_ B_32.out (new1 w4 (.cells #[.int .i64 2, .slice A4 1 c4] 24)))
  clear L2_28 X2_29 L3_30 X3_31 L4_33 B_32
  have X4_40 := Lib.hid (own_new w4 #[.int .i64 2, .slice A4 1 c4] 24)
  clear p0 p1
  have p0 := X4_40.out.cell 0 _ rfl
  have p1 := X4_40.out.cell 1 _ rfl
  go_wp2_with fail
  refine (g5 A4 1 c4 _ L4_38.out).mono ?_; rintro e w5 ⟨A5, n5, c5, rfl, h5, hb⟩
  obtain rfl : n5 = 1 := h5.row.row.len.symm
  have S_41 := Lib.hid hb; clear hb
  have L2_42 := Lib.hid (L2_34.out.keep S_41.out)
  have X2_43 := Lib.hid (X2_35.out.below S_41.out)
  have L3_44 := Lib.hid (L3_36.out.keep S_41.out)
  have X3_45 := Lib.hid (X3_37.out.below S_41.out)
  have L4_46 := Lib.hid (L4_38.out.keep S_41.out)
  have X4_47 := Lib.hid (X4_40.out.below S_41.out)
  have B_48 := Lib.hid (then_ B_39.out S_41.out)
  clear L2_34 X2_35 L3_36 X3_37 L4_38 X4_40 B_39
  clear S_41
  have L5_49 := Lib.hid (h5)
  clear h5
  have L2_50 := Lib.hid (L2_42.out.keep (new1 w5 (.cells #[.int .i64 2, .slice A5 1 c5] 24)))
  have X2_51 := Lib.hid (X2_43.out.below (new1 w5 (.cells #[.int .i64 2, .slice A5 1 c5] 24)))
  have L3_52 := Lib.hid (L3_44.out.keep (new1 w5 (.cells #[.int .i64 2, .slice A5 1 c5] 24)))
  have X3_53 := Lib.hid (X3_45.out.below (new1 w5 (.cells #[.int .i64 2, .slice A5 1 c5] 24)))
  have L4_54 := Lib.hid (L4_46.out.keep (new1 w5 (.cells #[.int .i64 2, .slice A5 1 c5] 24)))
  have X4_55 := Lib.hid (X4_47.out.below (new1 w5 (.cells #[.int .i64 2, .slice A5 1 c5] 24)))
  have L5_56 := Lib.hid (L5_49.out.keep (new1 w5 (.cells #[.int .i64 2, .slice A5 1 c5] 24)))
  have B_57 := Lib.hid (then_ B_48.out (new1 w5 (.cells #[.int .i64 2, .slice A5 1 c5] 24)))
  clear L2_42 X2_43 L3_44 X3_45 L4_46 X4_47 L5_49 B_48
  have X5_58 := Lib.hid (own_new w5 #[.int .i64 2, .slice A5 1 c5] 24)
  clear p0 p1
  clear X5_58
  clear L5_56
  have p0 := X4_55.out.cell 0 _ rfl
  have p1 := X4_55.out.cell 1 _ rfl
  go_wp2_with fail
  refine (g6 A4 1 c4 _ L4_54.out).mono ?_; rintro e w6 ⟨A6, n6, c6, rfl, h6, hb⟩
  obtain rfl : n6 = 1 := h6.row.row.len.symm
  have S_59 := Lib.hid hb; clear hb
  have L2_60 := Lib.hid (L2_50.out.keep S_59.out)
  have X2_61 := Lib.hid (X2_51.out.below S_59.out)
  have L3_62 := Lib.hid (L3_52.out.keep S_59.out)
  have X3_63 := Lib.hid (X3_53.out.below S_59.out)
  have L4_64 := Lib.hid (L4_54.out.keep S_59.out)
  have X4_65 := Lib.hid (X4_55.out.below S_59.out)
  have B_66 := Lib.hid (then_ B_57.out S_59.out)
  clear L2_50 X2_51 L3_52 X3_53 L4_54 X4_55 B_57
  clear S_59
  have L6_67 := Lib.hid (h6)
  clear h6
  have L2_68 := Lib.hid (L2_60.out.keep (new1 w6 (.cells #[.int .i64 2, .slice A6 1 c6] 24)))
  have X2_69 := Lib.hid (X2_61.out.below (new1 w6 (.cells #[.int .i64 2, .slice A6 1 c6] 24)))
  have L3_70 := Lib.hid (L3_62.out.keep (new1 w6 (.cells #[.int .i64 2, .slice A6 1 c6] 24)))
  have X3_71 := Lib.hid (X3_63.out.below (new1 w6 (.cells #[.int .i64 2, .slice A6 1 c6] 24)))
  have L4_72 := Lib.hid (L4_64.out.keep (new1 w6 (.cells #[.int .i64 2, .slice A6 1 c6] 24)))
  have X4_73 := Lib.hid (X4_65.out.below (new1 w6 (.cells #[.int .i64 2, .slice A6 1 c6] 24)))
  have L6_74 := Lib.hid (L6_67.out.keep (new1 w6 (.cells #[.int .i64 2, .slice A6 1 c6] 24)))
  have B_75 := Lib.hid (then_ B_66.out (new1 w6 (.cells #[.int .i64 2, .slice A6 1 c6] 24)))
  clear L2_60 X2_61 L3_62 X3_63 L4_64 X4_65 L6_67 B_66
  have X6_76 := Lib.hid (own_new w6 #[.int .i64 2, .slice A6 1 c6] 24)
  clear p0 p1
  clear X6_76
  clear L6_74
  have p0 := X2_69.out.cell 0 _ rfl
  have p1 := X2_69.out.cell 1 _ rfl
  go_wp2_with fail
  refine (g7 A2 2 c2 _ L2_68.out).mono ?_; rintro e w7 ⟨A7, n7, c7, rfl, h7, hb⟩
  obtain rfl : n7 = 1 := h7.len.symm
  have S_77 := Lib.hid hb; clear hb
  have L2_78 := Lib.hid (L2_68.out.keep S_77.out)
  have X2_79 := Lib.hid (X2_69.out.below S_77.out)
  have L3_80 := Lib.hid (L3_70.out.keep S_77.out)
  have X3_81 := Lib.hid (X3_71.out.below S_77.out)
  have L4_82 := Lib.hid (L4_72.out.keep S_77.out)
  have X4_83 := Lib.hid (X4_73.out.below S_77.out)
  have B_84 := Lib.hid (then_ B_75.out S_77.out)
  clear L2_68 X2_69 L3_70 X3_71 L4_72 X4_73 B_75
  clear S_77
  have D7_85 := Lib.hid (h7)
  clear h7
  clear p0 p1
  have L2_86 := Lib.hid (L2_78.out.keep (new1 w7 (.cells #[.string ⟨#[120]⟩, .string ⟨#[]⟩, .int .i64 0, .int .i64 0, .int .i64 0, .int .i64 2, .string ⟨#[121]⟩, .string ⟨#[]⟩, .int .i64 0, .int .i64 0, .int .i64 0, .int .i64 0, .string ⟨#[122]⟩, .string ⟨#[]⟩, .int .i64 0, .int .i64 0, .int .i64 0, .int .i64 2] 48)))
  have X2_87 := Lib.hid (X2_79.out.below (new1 w7 (.cells #[.string ⟨#[120]⟩, .string ⟨#[]⟩, .int .i64 0, .int .i64 0, .int .i64 0, .int .i64 2, .string ⟨#[121]⟩, .string ⟨#[]⟩, .int .i64 0, .int .i64 0, .int .i64 0, .int .i64 0, .string ⟨#[122]⟩, .string ⟨#[]⟩, .int .i64 0, .int .i64 0, .int .i64 0, .int .i64 2] 48)))
  have L3_88 := Lib.hid (L3_80.out.keep (new1 w7 (.cells #[.string ⟨#[120]⟩, .string ⟨#[]⟩, .int .i64 0, .int .i64 0, .int .i64 0, .int .i64 2, .string ⟨#[121]⟩, .string ⟨#[]⟩, .int .i64 0, .int .i64 0, .int .i64 0, .int .i64 0, .string ⟨#[122]⟩, .string ⟨#[]⟩, .int .i64 0, .int .i64 0, .int .i64 0, .int .i64 2] 48)))
  have X3_89 := Lib.hid (X3_81.out.below (new1 w7 (.cells #[.string ⟨#[120]⟩, .string ⟨#[]⟩, .int .i64 0, .int .i64 0, .int .i64 0, .int .i64 2, .string ⟨#[121]⟩, .string ⟨#[]⟩, .int .i64 0, .int .i64 0, .int .i64 0, .int .i64 0, .string ⟨#[122]⟩, .string ⟨#[]⟩, .int .i64 0, .int .i64 0, .int .i64 0, .int .i64 2] 48)))
  have L4_90 := Lib.hid (L4_82.out.keep (new1 w7 (.cells #[.string ⟨#[120]⟩, .string ⟨#[]⟩, .int .i64 0, .int .i64 0, .int .i64 0, .int .i64 2, .string ⟨#[121]⟩, .string ⟨#[]⟩, .int .i64 0, .int .i64 0, .int .i64 0, .int .i64 0, .string ⟨#[122]⟩, .string ⟨#[]⟩, .int .i64 0, .int .i64 0, .int .i64 0, .int .i64 2] 48)))
  have X4_91 := Lib.hid (X4_83.out.below (new1 w7 (.cells #[.string ⟨#[120]⟩, .string ⟨#[]⟩, .int .i64 0, .int .i64 0, .int .i64 0, .int .i64 2, .string ⟨#[121]⟩, .string ⟨#[]⟩, .int .i64 0, .int .i64 0, .int .i64 0, .int .i64 0, .string ⟨#[122]⟩, .string ⟨#[]⟩, .int .i64 0, .int .i64 0, .int .i64 0, .int .i64 2] 48)))
  have D7_92 := Lib.hid (D7_85.out.below (new1 w7 (.cells #[.string ⟨#[120]⟩, .string ⟨#[]⟩, .int .i64 0, .int .i64 0, .int .i64 0, .int .i64 2, .string ⟨#[121]⟩, .string ⟨#[]⟩, .int .i64 0, .int .i64 0, .int .i64 0, .int .i64 0, .string ⟨#[122]⟩, .string ⟨#[]⟩, .int .i64 0, .int .i64 0, .int .i64 0, .int .i64 2] 48)))
  have B_93 := Lib.hid (then_ B_84.out (new1 w7 (.cells #[.string ⟨#[120]⟩, .string ⟨#[]⟩, .int .i64 0, .int .i64 0, .int .i64 0, .int .i64 2, .string ⟨#[121]⟩, .string ⟨#[]⟩, .int .i64 0, .int .i64 0, .int .i64 0, .int .i64 0, .string ⟨#[122]⟩, .string ⟨#[]⟩, .int .i64 0, .int .i64 0, .int .i64 0, .int .i64 2] 48)))
  clear L2_78 X2_79 L3_80 X3_81 L4_82 X4_83 D7_85 B_84
  go_wp2_with fail
  refine (g8 _ 3 3 _ (dl_at w7 _ rfl)).mono ?_; rintro e w8 ⟨A8, n8, c8, rfl, h8, hb⟩
  obtain rfl : n8 = 2 := h8.len.symm
  have S_94 := Lib.hid hb; clear hb
  have L2_95 := Lib.hid (L2_86.out.keep S_94.out)
  have X2_96 := Lib.hid (X2_87.out.below S_94.out)
  have L3_97 := Lib.hid (L3_88.out.keep S_94.out)
  have X3_98 := Lib.hid (X3_89.out.below S_94.out)
  have L4_99 := Lib.hid (L4_90.out.keep S_94.out)
  have X4_100 := Lib.hid (X4_91.out.below S_94.out)
  have D7_101 := Lib.hid (D7_92.out.below S_94.out)
  have B_102 := Lib.hid (then_ B_93.out S_94.out)
  clear L2_86 X2_87 L3_88 X3_89 L4_90 X4_91 D7_92 B_93
  clear S_94
  have D8_103 := Lib.hid (h8)
  clear h8
  obtain ⟨a7, z7, rfl, hz7, k7⟩ := Is.at_ D7_101.out (show 0 < 1 by omega)
  obtain rfl : (2 : Int) = z7 := Option.some.inj hz7
  simp only [Addr.add_zero'] at k7
  obtain ⟨a8, y8, rfl, _, hy8, k8⟩ := RowsOf.at_ D8_103.out (show 1 < 2 by omega)
  obtain rfl : (⟨true, ⟨#[122]⟩, ⟨#[]⟩, 0⟩ : Mu) = y8 := Option.some.inj hy8
  have k80 : w8.cell? ⟨a8.block, a8.off + 4, none⟩ = some (.bool true) := by have := k8 0 _ rfl; simpa [subA, Addr.add] using this
  have k81 : w8.cell? ⟨a8.block, a8.off + 5, none⟩ = some (.string ⟨#[122]⟩) := by have := k8 1 _ rfl; simpa [subA, Addr.add] using this
  have k82 : w8.cell? ⟨a8.block, a8.off + 6, none⟩ = some (.string ⟨#[]⟩) := by have := k8 2 _ rfl; simpa [subA, Addr.add] using this
  have k83 : w8.cell? ⟨a8.block, a8.off + 7, none⟩ = some (.int .i64 0) := by have := k8 3 _ rfl; simpa [subA, Addr.add] using this
  obtain ⟨a3, y3, rfl, _, hy3, _, k3⟩ := L3_97.out.row.at_ (show 0 < 2 by omega)
  obtain rfl : (⟨1, 10, 22⟩ : Le) = y3 := Option.some.inj hy3
  have k32 : w8.cell? ⟨a3.block, a3.off + 2, none⟩ = some (.int .i64 22) := by have := k3.c2; simpa [Addr.add] using this
  have p0 := X2_96.out.cell 0 _ rfl
  have p1 := X2_96.out.cell 1 _ rfl
  have q0 := X3_98.out.cell 0 _ rfl
  have q1 := X3_98.out.cell 1 _ rfl
  have r0 := X4_100.out.cell 0 _ rfl
  have r1 := X4_100.out.cell 1 _ rfl
  have heq := eql_mu
  clear hz7 hy8 k8 hy3 k3
  go_wp2_with fail
  refine (h2 A2 2 c2 _ L2_95.out).mono ?_; rintro e w9 ⟨rfl, hb⟩
  have S_104 := Lib.hid hb; clear hb
  have L2_105 := Lib.hid (L2_95.out.keep S_104.out)
  have X2_106 := Lib.hid (X2_96.out.below S_104.out)
  have L3_107 := Lib.hid (L3_97.out.keep S_104.out)
  have X3_108 := Lib.hid (X3_98.out.below S_104.out)
  have L4_109 := Lib.hid (L4_99.out.keep S_104.out)
  have X4_110 := Lib.hid (X4_100.out.below S_104.out)
  have D7_111 := Lib.hid (D7_101.out.below S_104.out)
  have D8_112 := Lib.hid (D8_103.out.below S_104.out)
  have B_113 := Lib.hid (then_ B_102.out S_104.out)
  clear L2_95 X2_96 L3_97 X3_98 L4_99 X4_100 D7_101 D8_103 B_102
  clear S_104
  clear p0 p1
  clear r0 r1
  have r0 := X4_110.out.cell 0 _ rfl
  have r1 := X4_110.out.cell 1 _ rfl
  go_wp2_with fail
  refine (h4 A4 1 c4 _ L4_109.out).mono ?_; rintro e w10 ⟨rfl, hb⟩
  have S_114 := Lib.hid hb; clear hb
  have L2_115 := Lib.hid (L2_105.out.keep S_114.out)
  have X2_116 := Lib.hid (X2_106.out.below S_114.out)
  have L3_117 := Lib.hid (L3_107.out.keep S_114.out)
  have X3_118 := Lib.hid (X3_108.out.below S_114.out)
  have L4_119 := Lib.hid (L4_109.out.keep S_114.out)
  have X4_120 := Lib.hid (X4_110.out.below S_114.out)
  have D7_121 := Lib.hid (D7_111.out.below S_114.out)
  have D8_122 := Lib.hid (D8_112.out.below S_114.out)
  have B_123 := Lib.hid (then_ B_113.out S_114.out)
  clear L2_105 X2_106 L3_107 X3_108 L4_109 X4_110 D7_111 D8_112 B_113
  clear S_114
  clear r0 r1
  have p0 := X2_116.out.cell 0 _ rfl
  have p1 := X2_116.out.cell 1 _ rfl
  go_wp2_with fail
  refine (m2 A2 2 c2 _ L2_115.out).mono ?_; rintro e w11 ⟨rfl, hb⟩
  have S_124 := Lib.hid hb; clear hb
  have L2_125 := Lib.hid (L2_115.out.keep S_124.out)
  have X2_126 := Lib.hid (X2_116.out.below S_124.out)
  have L3_127 := Lib.hid (L3_117.out.keep S_124.out)
  have X3_128 := Lib.hid (X3_118.out.below S_124.out)
  have L4_129 := Lib.hid (L4_119.out.keep S_124.out)
  have X4_130 := Lib.hid (X4_120.out.below S_124.out)
  have D7_131 := Lib.hid (D7_121.out.below S_124.out)
  have D8_132 := Lib.hid (D8_122.out.below S_124.out)
  have B_133 := Lib.hid (then_ B_123.out S_124.out)
  clear L2_115 X2_116 L3_117 X3_118 L4_119 X4_120 D7_121 D8_122 B_123
  clear S_124
  go_wp2_with fail
  refine (mn _).mono ?_; rintro e w12 ⟨rfl, hb⟩
  have S_134 := Lib.hid hb; clear hb
  have L2_135 := Lib.hid (L2_125.out.keep S_134.out)
  have X2_136 := Lib.hid (X2_126.out.below S_134.out)
  have L3_137 := Lib.hid (L3_127.out.keep S_134.out)
  have X3_138 := Lib.hid (X3_128.out.below S_134.out)
  have L4_139 := Lib.hid (L4_129.out.keep S_134.out)
  have X4_140 := Lib.hid (X4_130.out.below S_134.out)
  have D7_141 := Lib.hid (D7_131.out.below S_134.out)
  have D8_142 := Lib.hid (D8_132.out.below S_134.out)
  have B_143 := Lib.hid (then_ B_133.out S_134.out)
  clear L2_125 X2_126 L3_127 X3_128 L4_129 X4_130 D7_131 D8_132 B_133
  clear S_134
  go_wp2
  go_ret
  exact ⟨rfl, B_143.out⟩
end Go.Proofs.Ytelepkofhdjagab.P
