/- For every list of things, every thing and every prefix the law HistPrefix answers true: the things of a prefix are laid and taken as among all. No condition. -/
import Derived.Test.YtlpnnbjdolodcaaKvOpen
import Derived.Test.YtlpnnbjdolodcaaHistLive
import Derived.Test.YtlpnnbjdolodcaaRows
namespace Go.Proofs.Ytlpnnbjdolodcaa.histPrefix
open Go.ChangeShapes Go.WideShapes Go.ChangeAt Go.RowKit Go.Proofs.Ytlpnnbjdolodcaa.P
open Go.ChangeMaps (open_string shut_string)
set_option linter.unusedVariables false
set_option maxHeartbeats 2000000
set_option maxRecDepth 100000

theorem walkIn (w : World) (A0 : Option Addr) (n0 c0 : Nat) (l0 : List KV) (x1 : KV) (a2 : ByteArray) (k0 : KVs w A0 n0 c0 l0) (k1 : x1.ok) (hn : n0 ≤ 40) (hs1 : x1.key.size ≤ 60) (hs2 : a2.size ≤ 60) (hf : fewB 40 l0 = true) (hm : mayP oneB l0 = true) (h1 : oneB x1 = true) (hb0 : begins a2 x1.key = true) :
    Calls Try.prog 8 #[.slice A0 n0 c0, x1.agg, .string a2] w fun e w' => e = .returned (.bool true) ∧ Below w.heap.size w w' := by
  have K := Lib.hid k0
  have X := Lib.hid k1
  have HR := Lib.hid (mayP_rises hm)
  have HM := Lib.hid hm
  have H1 := Lib.hid h1
  have HF := Lib.hid hf
  have HB := Lib.hid hb0
  have HN0 : Hid (l0.length ≤ 40) := Lib.hid (by rw [k0.len]; exact hn)
  have HZ : Hid (a2.size ≤ maxLen) := Lib.hid (by unfold maxLen; omega)
  have z0 : (x1.key.size : Int) ≤ 60 := by omega
  have z2 : (a2.size : Int) ≤ 60 := by omega
  have hle : a2.size ≤ x1.key.size := by
    rcases Nat.lt_or_ge x1.key.size a2.size with h | h
    · rw [begins_long h] at hb0; cases hb0
    · exact h
  have he : ((x1.key.extract 0 a2.size).toList == a2.toList) = true := by rw [← begins_fit, hb0]
  clear k0 k1 hm h1 hf hb0
  go_enter Try.func8, Try.ntmps8
  have L_0 := Lib.hid (K.out)
  have L_0b := Lib.hid (L_0.out.keep (new1 _ (x1.obj 26)))
  clear L_0
  have X4_0b := Lib.hid (at6_new w x1 26)
  have B0b := Lib.hid (new1 w (x1.obj 26))
  go_wp2_with fail
  refine (few_any A0 n0 c0 l0 40 _ L_0b.out (by omega)).mono ?_; rintro e w' ⟨rfl, rfl⟩
  rw [HF.out]
  go_wp2_with fail
  refine (may_any A0 n0 c0 l0 _ L_0b.out (by omega)).mono ?_; rintro e w1 ⟨rfl, hb⟩
  rw [HM.out]
  have S1 := Lib.hid (hb)
  have L_1 := Lib.hid (L_0b.out.keep S1.out)
  have X4_1 := Lib.hid (X4_0b.out.on S1.out)
  have B1 := Lib.hid (then_ B0b.out S1.out)
  clear hb S1 L_0b X4_0b B0b
  obtain ⟨q0, q1, q2, q3, q4, q5⟩ := X4_1.out
  have ql := World.block_lt_of_cell? _ _ q0
  go_wp2_with fail
  refine (one_any x1 _ X.out).mono ?_; rintro e w2 ⟨rfl, hb⟩
  rw [H1.out]
  have S2 := Lib.hid (hb)
  have L_2 := Lib.hid (L_1.out.keep S2.out)
  have X4_2 := Lib.hid (X4_1.out.on S2.out)
  have B2 := Lib.hid (then_ B1.out S2.out)
  clear hb S2 L_1 X4_1 B1
  clear q0 q1 q2 q3 q4 q5 ql
  go_wp2_with fail
  refine (From_any A0 n0 c0 l0 a2 _ L_2.out (by omega) HZ.out).mono ?_; rintro e w3 ⟨A7, n7, c7, rfl, h, hb⟩
  have FA := Lib.hid h
  clear h
  have S3 := Lib.hid (hb)
  have L_3 := Lib.hid (L_2.out.keep S3.out)
  have X4_3 := Lib.hid (X4_2.out.on S3.out)
  have B3 := Lib.hid (then_ B2.out S3.out)
  clear hb S3 L_2 X4_2 B2
  have FA_3n := Lib.hid (FA.out)
  have hn7 : n7 ≤ 1000 := by have h1 : (fromL l0 a2).length ≤ l0.length := List.length_filter_le _ _; have h2 := FA.out.len; have h3 := HN0.out; omega
  obtain ⟨q0, q1, q2, q3, q4, q5⟩ := X4_3.out
  have ql := World.block_lt_of_cell? _ _ q0
  go_wp2_with fail
  refine (Lay_any A0 n0 c0 l0 x1 _ L_3.out X.out (by omega)).mono ?_; rintro e w4 ⟨A8, n8, c8, rfl, h, hb⟩
  have M := Lib.hid h
  clear h
  have S4 := Lib.hid (hb)
  have L_4 := Lib.hid (L_3.out.keep S4.out)
  have X4_4 := Lib.hid (X4_3.out.on S4.out)
  have FA_4 := Lib.hid (FA_3n.out.keep S4.out)
  have B4 := Lib.hid (then_ B3.out S4.out)
  clear hb S4 L_3 X4_3 FA_3n B3
  clear q0 q1 q2 q3 q4 q5 ql
  have hn8 : n8 ≤ 1000 := by have h1 := layL_len l0 x1; have h2 := M.out.len; have h3 := HN0.out; omega
  go_wp2_with fail
  refine (From_any A8 n8 c8 (layL l0 x1) a2 _ M.out (by omega) HZ.out).mono ?_; rintro e w5 ⟨A9, n9, c9, rfl, h, hb⟩
  rw [from_lay_in _ _ _ HR.out HB.out] at h
  have FB := Lib.hid h
  clear h M
  have S5 := Lib.hid (hb)
  have L_5 := Lib.hid (L_4.out.keep S5.out)
  have X4_5 := Lib.hid (X4_4.out.on S5.out)
  have FA_5 := Lib.hid (FA_4.out.keep S5.out)
  have B5 := Lib.hid (then_ B4.out S5.out)
  clear hb S5 L_4 X4_4 FA_4 B4
  have FB_5n := Lib.hid (FB.out)
  obtain ⟨q0, q1, q2, q3, q4, q5⟩ := X4_5.out
  have ql := World.block_lt_of_cell? _ _ q0
  go_wp2_with fail
  refine (Take_any A0 n0 c0 l0 x1.key _ L_5.out (by omega)).mono ?_; rintro e w6 ⟨A10, n10, c10, rfl, h, hb⟩
  have N := Lib.hid h
  clear h
  have S6 := Lib.hid (hb)
  have L_6 := Lib.hid (L_5.out.keep S6.out)
  have X4_6 := Lib.hid (X4_5.out.on S6.out)
  have FA_6 := Lib.hid (FA_5.out.keep S6.out)
  have FB_6 := Lib.hid (FB_5n.out.keep S6.out)
  have B6 := Lib.hid (then_ B5.out S6.out)
  clear hb S6 L_5 X4_5 FA_5 FB_5n B5
  clear q0 q1 q2 q3 q4 q5 ql
  have hn10 : n10 ≤ 1000 := by have h1 := takeL_len l0 x1.key; have h2 := N.out.len; have h3 := HN0.out; omega
  go_wp2_with fail
  refine (From_any A10 n10 c10 (takeL l0 x1.key) a2 _ N.out (by omega) HZ.out).mono ?_; rintro e w7 ⟨A11, n11, c11, rfl, h, hb⟩
  rw [from_take_in _ _ _ HR.out] at h
  have FC := Lib.hid h
  clear h N
  have S7 := Lib.hid (hb)
  have L_7 := Lib.hid (L_6.out.keep S7.out)
  have X4_7 := Lib.hid (X4_6.out.on S7.out)
  have FA_7 := Lib.hid (FA_6.out.keep S7.out)
  have FB_7 := Lib.hid (FB_6.out.keep S7.out)
  have B7 := Lib.hid (then_ B6.out S7.out)
  clear hb S7 L_6 X4_6 FA_6 FB_6 B6
  have FC_7n := Lib.hid (FC.out)
  obtain ⟨q0, q1, q2, q3, q4, q5⟩ := X4_7.out
  have ql := World.block_lt_of_cell? _ _ q0
  go_wp2_with fail
  refine (Lay_any A7 n7 c7 (fromL l0 a2) x1 _ FA_7.out X.out (by omega)).mono ?_; rintro e w8 ⟨A12, n12, c12, rfl, h, hb⟩
  obtain rfl : n9 = n12 := FB.out.len.symm.trans h.len
  have U := Lib.hid h
  clear h
  have S8 := Lib.hid (hb)
  have L_8 := Lib.hid (L_7.out.keep S8.out)
  have X4_8 := Lib.hid (X4_7.out.on S8.out)
  have FA_8 := Lib.hid (FA_7.out.keep S8.out)
  have FB_8 := Lib.hid (FB_7.out.keep S8.out)
  have FC_8 := Lib.hid (FC_7n.out.keep S8.out)
  have B8 := Lib.hid (then_ B7.out S8.out)
  clear hb S8 L_7 X4_7 FA_7 FB_7 FC_7n B7
  clear q0 q1 q2 q3 q4 q5 ql
  have hn9 : n9 ≤ 2000 := by have h1 := layL_len (fromL l0 a2) x1; have h2 := U.out.len; have h3 := FA.out.len; omega
  go_wp2_with fail
  refine (kvs_same A9 A12 n9 c9 c12 _ _ FB_8.out U.out (by omega)).mono ?_; rintro e w9 ⟨rfl, hb⟩
  have S9 := Lib.hid (hb)
  have L_9 := Lib.hid (L_8.out.keep S9.out)
  have X4_9 := Lib.hid (X4_8.out.on S9.out)
  have FA_9 := Lib.hid (FA_8.out.keep S9.out)
  have FB_9 := Lib.hid (FB_8.out.keep S9.out)
  have FC_9 := Lib.hid (FC_8.out.keep S9.out)
  have B9 := Lib.hid (then_ B8.out S9.out)
  clear hb S9 L_8 X4_8 FA_8 FB_8 FC_8 B8
  obtain ⟨q0, q1, q2, q3, q4, q5⟩ := X4_9.out
  have ql := World.block_lt_of_cell? _ _ q0
  go_wp2_with fail
  refine (Take_any A7 n7 c7 (fromL l0 a2) x1.key _ FA_9.out (by omega)).mono ?_; rintro e w10 ⟨A13, n13, c13, rfl, h, hb⟩
  obtain rfl : n11 = n13 := FC.out.len.symm.trans h.len
  have V := Lib.hid h
  clear h
  have S10 := Lib.hid (hb)
  have L_10 := Lib.hid (L_9.out.keep S10.out)
  have X4_10 := Lib.hid (X4_9.out.on S10.out)
  have FA_10 := Lib.hid (FA_9.out.keep S10.out)
  have FB_10 := Lib.hid (FB_9.out.keep S10.out)
  have FC_10 := Lib.hid (FC_9.out.keep S10.out)
  have B10 := Lib.hid (then_ B9.out S10.out)
  clear hb S10 L_9 X4_9 FA_9 FB_9 FC_9 B9
  clear q0 q1 q2 q3 q4 q5 ql
  have hn11 : n11 ≤ 1000 := by have h1 := takeL_len (fromL l0 a2) x1.key; have h2 := V.out.len; have h3 := FA.out.len; omega
  go_wp2_with fail
  refine (kvs_same A11 A13 n11 c11 c13 _ _ FC_10.out V.out (by omega)).mono ?_; rintro e w11 ⟨rfl, hb⟩
  have S11 := Lib.hid (hb)
  have L_11 := Lib.hid (L_10.out.keep S11.out)
  have X4_11 := Lib.hid (X4_10.out.on S11.out)
  have FA_11 := Lib.hid (FA_10.out.keep S11.out)
  have FB_11 := Lib.hid (FB_10.out.keep S11.out)
  have FC_11 := Lib.hid (FC_10.out.keep S11.out)
  have B11 := Lib.hid (then_ B10.out S11.out)
  clear hb S11 L_10 X4_10 FA_10 FB_10 FC_10 B10
  go_wp2_with fail
  refine (may_any A7 n7 c7 (fromL l0 a2) _ FA_11.out (by omega)).mono ?_; rintro e w12 ⟨rfl, hb⟩
  rw [mayP_from HM.out]
  have S12 := Lib.hid (hb)
  have L_12 := Lib.hid (L_11.out.keep S12.out)
  have X4_12 := Lib.hid (X4_11.out.on S12.out)
  have FA_12 := Lib.hid (FA_11.out.keep S12.out)
  have FB_12 := Lib.hid (FB_11.out.keep S12.out)
  have FC_12 := Lib.hid (FC_11.out.keep S12.out)
  have B12 := Lib.hid (then_ B11.out S12.out)
  clear hb S12 L_11 X4_11 FA_11 FB_11 FC_11 B11
  go_wp2_with fail
  refine (live_any _).mono ?_; rintro e w13 ⟨rfl, hb⟩
  have S13 := Lib.hid (hb)
  have L_13 := Lib.hid (L_12.out.keep S13.out)
  have X4_13 := Lib.hid (X4_12.out.on S13.out)
  have FA_13 := Lib.hid (FA_12.out.keep S13.out)
  have FB_13 := Lib.hid (FB_12.out.keep S13.out)
  have FC_13 := Lib.hid (FC_12.out.keep S13.out)
  have B13 := Lib.hid (then_ B12.out S13.out)
  clear hb S13 L_12 X4_12 FA_12 FB_12 FC_12 B12
  go_wp2
  go_ret
  exact ⟨rfl, B13.out⟩

theorem walkFit (w : World) (A0 : Option Addr) (n0 c0 : Nat) (l0 : List KV) (x1 : KV) (a2 : ByteArray) (k0 : KVs w A0 n0 c0 l0) (k1 : x1.ok) (hn : n0 ≤ 40) (hs1 : x1.key.size ≤ 60) (hs2 : a2.size ≤ 60) (hf : fewB 40 l0 = true) (hm : mayP oneB l0 = true) (h1 : oneB x1 = true) (hb0 : begins a2 x1.key = false) (hlz : a2.size ≤ x1.key.size) :
    Calls Try.prog 8 #[.slice A0 n0 c0, x1.agg, .string a2] w fun e w' => e = .returned (.bool true) ∧ Below w.heap.size w w' := by
  have K := Lib.hid k0
  have X := Lib.hid k1
  have HR := Lib.hid (mayP_rises hm)
  have HM := Lib.hid hm
  have H1 := Lib.hid h1
  have HF := Lib.hid hf
  have HB := Lib.hid hb0
  have HN0 : Hid (l0.length ≤ 40) := Lib.hid (by rw [k0.len]; exact hn)
  have HZ : Hid (a2.size ≤ maxLen) := Lib.hid (by unfold maxLen; omega)
  have z0 : (x1.key.size : Int) ≤ 60 := by omega
  have z2 : (a2.size : Int) ≤ 60 := by omega
  have hle : a2.size ≤ x1.key.size := hlz
  have he : ((x1.key.extract 0 a2.size).toList == a2.toList) = false := by rw [← begins_fit, hb0]
  clear k0 k1 hm h1 hf hb0
  go_enter Try.func8, Try.ntmps8
  have L_0 := Lib.hid (K.out)
  have L_0b := Lib.hid (L_0.out.keep (new1 _ (x1.obj 26)))
  clear L_0
  have X4_0b := Lib.hid (at6_new w x1 26)
  have B0b := Lib.hid (new1 w (x1.obj 26))
  go_wp2_with fail
  refine (few_any A0 n0 c0 l0 40 _ L_0b.out (by omega)).mono ?_; rintro e w' ⟨rfl, rfl⟩
  rw [HF.out]
  go_wp2_with fail
  refine (may_any A0 n0 c0 l0 _ L_0b.out (by omega)).mono ?_; rintro e w1 ⟨rfl, hb⟩
  rw [HM.out]
  have S1 := Lib.hid (hb)
  have L_1 := Lib.hid (L_0b.out.keep S1.out)
  have X4_1 := Lib.hid (X4_0b.out.on S1.out)
  have B1 := Lib.hid (then_ B0b.out S1.out)
  clear hb S1 L_0b X4_0b B0b
  obtain ⟨q0, q1, q2, q3, q4, q5⟩ := X4_1.out
  have ql := World.block_lt_of_cell? _ _ q0
  go_wp2_with fail
  refine (one_any x1 _ X.out).mono ?_; rintro e w2 ⟨rfl, hb⟩
  rw [H1.out]
  have S2 := Lib.hid (hb)
  have L_2 := Lib.hid (L_1.out.keep S2.out)
  have X4_2 := Lib.hid (X4_1.out.on S2.out)
  have B2 := Lib.hid (then_ B1.out S2.out)
  clear hb S2 L_1 X4_1 B1
  clear q0 q1 q2 q3 q4 q5 ql
  go_wp2_with fail
  refine (From_any A0 n0 c0 l0 a2 _ L_2.out (by omega) HZ.out).mono ?_; rintro e w3 ⟨A7, n7, c7, rfl, h, hb⟩
  have FA := Lib.hid h
  clear h
  have S3 := Lib.hid (hb)
  have L_3 := Lib.hid (L_2.out.keep S3.out)
  have X4_3 := Lib.hid (X4_2.out.on S3.out)
  have B3 := Lib.hid (then_ B2.out S3.out)
  clear hb S3 L_2 X4_2 B2
  have FA_3n := Lib.hid (FA.out)
  have hn7 : n7 ≤ 1000 := by have h1 : (fromL l0 a2).length ≤ l0.length := List.length_filter_le _ _; have h2 := FA.out.len; have h3 := HN0.out; omega
  obtain ⟨q0, q1, q2, q3, q4, q5⟩ := X4_3.out
  have ql := World.block_lt_of_cell? _ _ q0
  go_wp2_with fail
  refine (Lay_any A0 n0 c0 l0 x1 _ L_3.out X.out (by omega)).mono ?_; rintro e w4 ⟨A8, n8, c8, rfl, h, hb⟩
  have M := Lib.hid h
  clear h
  have S4 := Lib.hid (hb)
  have L_4 := Lib.hid (L_3.out.keep S4.out)
  have X4_4 := Lib.hid (X4_3.out.on S4.out)
  have FA_4 := Lib.hid (FA_3n.out.keep S4.out)
  have B4 := Lib.hid (then_ B3.out S4.out)
  clear hb S4 L_3 X4_3 FA_3n B3
  clear q0 q1 q2 q3 q4 q5 ql
  have hn8 : n8 ≤ 1000 := by have h1 := layL_len l0 x1; have h2 := M.out.len; have h3 := HN0.out; omega
  go_wp2_with fail
  refine (From_any A8 n8 c8 (layL l0 x1) a2 _ M.out (by omega) HZ.out).mono ?_; rintro e w5 ⟨A9, n9, c9, rfl, h, hb⟩
  rw [from_lay_out _ _ _ HR.out HB.out] at h
  have FB := Lib.hid h
  clear h M
  have S5 := Lib.hid (hb)
  have L_5 := Lib.hid (L_4.out.keep S5.out)
  have X4_5 := Lib.hid (X4_4.out.on S5.out)
  have FA_5 := Lib.hid (FA_4.out.keep S5.out)
  have B5 := Lib.hid (then_ B4.out S5.out)
  clear hb S5 L_4 X4_4 FA_4 B4
  have FB_5n := Lib.hid (FB.out)
  obtain ⟨q0, q1, q2, q3, q4, q5⟩ := X4_5.out
  have ql := World.block_lt_of_cell? _ _ q0
  go_wp2_with fail
  refine (Take_any A0 n0 c0 l0 x1.key _ L_5.out (by omega)).mono ?_; rintro e w6 ⟨A10, n10, c10, rfl, h, hb⟩
  have N := Lib.hid h
  clear h
  have S6 := Lib.hid (hb)
  have L_6 := Lib.hid (L_5.out.keep S6.out)
  have X4_6 := Lib.hid (X4_5.out.on S6.out)
  have FA_6 := Lib.hid (FA_5.out.keep S6.out)
  have FB_6 := Lib.hid (FB_5n.out.keep S6.out)
  have B6 := Lib.hid (then_ B5.out S6.out)
  clear hb S6 L_5 X4_5 FA_5 FB_5n B5
  clear q0 q1 q2 q3 q4 q5 ql
  have hn10 : n10 ≤ 1000 := by have h1 := takeL_len l0 x1.key; have h2 := N.out.len; have h3 := HN0.out; omega
  go_wp2_with fail
  refine (From_any A10 n10 c10 (takeL l0 x1.key) a2 _ N.out (by omega) HZ.out).mono ?_; rintro e w7 ⟨A11, n11, c11, rfl, h, hb⟩
  rw [from_take_out _ _ _ HR.out HB.out] at h
  have FC := Lib.hid h
  clear h N
  have S7 := Lib.hid (hb)
  have L_7 := Lib.hid (L_6.out.keep S7.out)
  have X4_7 := Lib.hid (X4_6.out.on S7.out)
  have FA_7 := Lib.hid (FA_6.out.keep S7.out)
  have FB_7 := Lib.hid (FB_6.out.keep S7.out)
  have B7 := Lib.hid (then_ B6.out S7.out)
  clear hb S7 L_6 X4_6 FA_6 FB_6 B6
  have FC_7n := Lib.hid (FC.out)
  obtain ⟨q0, q1, q2, q3, q4, q5⟩ := X4_7.out
  have ql := World.block_lt_of_cell? _ _ q0
  obtain rfl : n7 = n9 := FA.out.len.symm.trans FB.out.len
  obtain rfl : n7 = n11 := FA.out.len.symm.trans FC.out.len
  go_wp2_with fail
  refine (kvs_same A7 A9 n7 c7 c9 _ _ FA_7.out FB_7.out (by omega)).mono ?_; rintro e w8 ⟨rfl, hb⟩
  have S8 := Lib.hid (hb)
  have L_8 := Lib.hid (L_7.out.keep S8.out)
  have X4_8 := Lib.hid (X4_7.out.on S8.out)
  have FA_8 := Lib.hid (FA_7.out.keep S8.out)
  have FB_8 := Lib.hid (FB_7.out.keep S8.out)
  have FC_8 := Lib.hid (FC_7n.out.keep S8.out)
  have B8 := Lib.hid (then_ B7.out S8.out)
  clear hb S8 L_7 X4_7 FA_7 FB_7 FC_7n B7
  clear q0 q1 q2 q3 q4 q5 ql
  go_wp2_with fail
  refine (kvs_same A7 A11 n7 c7 c11 _ _ FA_8.out FC_8.out (by omega)).mono ?_; rintro e w9 ⟨rfl, hb⟩
  have S9 := Lib.hid (hb)
  have L_9 := Lib.hid (L_8.out.keep S9.out)
  have X4_9 := Lib.hid (X4_8.out.on S9.out)
  have FA_9 := Lib.hid (FA_8.out.keep S9.out)
  have FB_9 := Lib.hid (FB_8.out.keep S9.out)
  have FC_9 := Lib.hid (FC_8.out.keep S9.out)
  have B9 := Lib.hid (then_ B8.out S9.out)
  clear hb S9 L_8 X4_8 FA_8 FB_8 FC_8 B8
  go_wp2_with fail
  refine (may_any A7 n7 c7 (fromL l0 a2) _ FA_9.out (by omega)).mono ?_; rintro e w10 ⟨rfl, hb⟩
  rw [mayP_from HM.out]
  have S10 := Lib.hid (hb)
  have L_10 := Lib.hid (L_9.out.keep S10.out)
  have X4_10 := Lib.hid (X4_9.out.on S10.out)
  have FA_10 := Lib.hid (FA_9.out.keep S10.out)
  have FB_10 := Lib.hid (FB_9.out.keep S10.out)
  have FC_10 := Lib.hid (FC_9.out.keep S10.out)
  have B10 := Lib.hid (then_ B9.out S10.out)
  clear hb S10 L_9 X4_9 FA_9 FB_9 FC_9 B9
  go_wp2_with fail
  refine (live_any _).mono ?_; rintro e w11 ⟨rfl, hb⟩
  have S11 := Lib.hid (hb)
  have L_11 := Lib.hid (L_10.out.keep S11.out)
  have X4_11 := Lib.hid (X4_10.out.on S11.out)
  have FA_11 := Lib.hid (FA_10.out.keep S11.out)
  have FB_11 := Lib.hid (FB_10.out.keep S11.out)
  have FC_11 := Lib.hid (FC_10.out.keep S11.out)
  have B11 := Lib.hid (then_ B10.out S11.out)
  clear hb S11 L_10 X4_10 FA_10 FB_10 FC_10 B10
  go_wp2
  go_ret
  exact ⟨rfl, B11.out⟩

theorem walkLong (w : World) (A0 : Option Addr) (n0 c0 : Nat) (l0 : List KV) (x1 : KV) (a2 : ByteArray) (k0 : KVs w A0 n0 c0 l0) (k1 : x1.ok) (hn : n0 ≤ 40) (hs1 : x1.key.size ≤ 60) (hs2 : a2.size ≤ 60) (hf : fewB 40 l0 = true) (hm : mayP oneB l0 = true) (h1 : oneB x1 = true) (hb0 : begins a2 x1.key = false) (hlz : x1.key.size < a2.size) :
    Calls Try.prog 8 #[.slice A0 n0 c0, x1.agg, .string a2] w fun e w' => e = .returned (.bool true) ∧ Below w.heap.size w w' := by
  have K := Lib.hid k0
  have X := Lib.hid k1
  have HR := Lib.hid (mayP_rises hm)
  have HM := Lib.hid hm
  have H1 := Lib.hid h1
  have HF := Lib.hid hf
  have HB := Lib.hid hb0
  have HN0 : Hid (l0.length ≤ 40) := Lib.hid (by rw [k0.len]; exact hn)
  have HZ : Hid (a2.size ≤ maxLen) := Lib.hid (by unfold maxLen; omega)
  have z0 : (x1.key.size : Int) ≤ 60 := by omega
  have z2 : (a2.size : Int) ≤ 60 := by omega
  have hle : x1.key.size < a2.size := hlz
  clear k0 k1 hm h1 hf hb0
  go_enter Try.func8, Try.ntmps8
  have L_0 := Lib.hid (K.out)
  have L_0b := Lib.hid (L_0.out.keep (new1 _ (x1.obj 26)))
  clear L_0
  have X4_0b := Lib.hid (at6_new w x1 26)
  have B0b := Lib.hid (new1 w (x1.obj 26))
  go_wp2_with fail
  refine (few_any A0 n0 c0 l0 40 _ L_0b.out (by omega)).mono ?_; rintro e w' ⟨rfl, rfl⟩
  rw [HF.out]
  go_wp2_with fail
  refine (may_any A0 n0 c0 l0 _ L_0b.out (by omega)).mono ?_; rintro e w1 ⟨rfl, hb⟩
  rw [HM.out]
  have S1 := Lib.hid (hb)
  have L_1 := Lib.hid (L_0b.out.keep S1.out)
  have X4_1 := Lib.hid (X4_0b.out.on S1.out)
  have B1 := Lib.hid (then_ B0b.out S1.out)
  clear hb S1 L_0b X4_0b B0b
  obtain ⟨q0, q1, q2, q3, q4, q5⟩ := X4_1.out
  have ql := World.block_lt_of_cell? _ _ q0
  go_wp2_with fail
  refine (one_any x1 _ X.out).mono ?_; rintro e w2 ⟨rfl, hb⟩
  rw [H1.out]
  have S2 := Lib.hid (hb)
  have L_2 := Lib.hid (L_1.out.keep S2.out)
  have X4_2 := Lib.hid (X4_1.out.on S2.out)
  have B2 := Lib.hid (then_ B1.out S2.out)
  clear hb S2 L_1 X4_1 B1
  clear q0 q1 q2 q3 q4 q5 ql
  go_wp2_with fail
  refine (From_any A0 n0 c0 l0 a2 _ L_2.out (by omega) HZ.out).mono ?_; rintro e w3 ⟨A7, n7, c7, rfl, h, hb⟩
  have FA := Lib.hid h
  clear h
  have S3 := Lib.hid (hb)
  have L_3 := Lib.hid (L_2.out.keep S3.out)
  have X4_3 := Lib.hid (X4_2.out.on S3.out)
  have B3 := Lib.hid (then_ B2.out S3.out)
  clear hb S3 L_2 X4_2 B2
  have FA_3n := Lib.hid (FA.out)
  have hn7 : n7 ≤ 1000 := by have h1 : (fromL l0 a2).length ≤ l0.length := List.length_filter_le _ _; have h2 := FA.out.len; have h3 := HN0.out; omega
  obtain ⟨q0, q1, q2, q3, q4, q5⟩ := X4_3.out
  have ql := World.block_lt_of_cell? _ _ q0
  go_wp2_with fail
  refine (Lay_any A0 n0 c0 l0 x1 _ L_3.out X.out (by omega)).mono ?_; rintro e w4 ⟨A8, n8, c8, rfl, h, hb⟩
  have M := Lib.hid h
  clear h
  have S4 := Lib.hid (hb)
  have L_4 := Lib.hid (L_3.out.keep S4.out)
  have X4_4 := Lib.hid (X4_3.out.on S4.out)
  have FA_4 := Lib.hid (FA_3n.out.keep S4.out)
  have B4 := Lib.hid (then_ B3.out S4.out)
  clear hb S4 L_3 X4_3 FA_3n B3
  clear q0 q1 q2 q3 q4 q5 ql
  have hn8 : n8 ≤ 1000 := by have h1 := layL_len l0 x1; have h2 := M.out.len; have h3 := HN0.out; omega
  go_wp2_with fail
  refine (From_any A8 n8 c8 (layL l0 x1) a2 _ M.out (by omega) HZ.out).mono ?_; rintro e w5 ⟨A9, n9, c9, rfl, h, hb⟩
  rw [from_lay_out _ _ _ HR.out HB.out] at h
  have FB := Lib.hid h
  clear h M
  have S5 := Lib.hid (hb)
  have L_5 := Lib.hid (L_4.out.keep S5.out)
  have X4_5 := Lib.hid (X4_4.out.on S5.out)
  have FA_5 := Lib.hid (FA_4.out.keep S5.out)
  have B5 := Lib.hid (then_ B4.out S5.out)
  clear hb S5 L_4 X4_4 FA_4 B4
  have FB_5n := Lib.hid (FB.out)
  obtain ⟨q0, q1, q2, q3, q4, q5⟩ := X4_5.out
  have ql := World.block_lt_of_cell? _ _ q0
  go_wp2_with fail
  refine (Take_any A0 n0 c0 l0 x1.key _ L_5.out (by omega)).mono ?_; rintro e w6 ⟨A10, n10, c10, rfl, h, hb⟩
  have N := Lib.hid h
  clear h
  have S6 := Lib.hid (hb)
  have L_6 := Lib.hid (L_5.out.keep S6.out)
  have X4_6 := Lib.hid (X4_5.out.on S6.out)
  have FA_6 := Lib.hid (FA_5.out.keep S6.out)
  have FB_6 := Lib.hid (FB_5n.out.keep S6.out)
  have B6 := Lib.hid (then_ B5.out S6.out)
  clear hb S6 L_5 X4_5 FA_5 FB_5n B5
  clear q0 q1 q2 q3 q4 q5 ql
  have hn10 : n10 ≤ 1000 := by have h1 := takeL_len l0 x1.key; have h2 := N.out.len; have h3 := HN0.out; omega
  go_wp2_with fail
  refine (From_any A10 n10 c10 (takeL l0 x1.key) a2 _ N.out (by omega) HZ.out).mono ?_; rintro e w7 ⟨A11, n11, c11, rfl, h, hb⟩
  rw [from_take_out _ _ _ HR.out HB.out] at h
  have FC := Lib.hid h
  clear h N
  have S7 := Lib.hid (hb)
  have L_7 := Lib.hid (L_6.out.keep S7.out)
  have X4_7 := Lib.hid (X4_6.out.on S7.out)
  have FA_7 := Lib.hid (FA_6.out.keep S7.out)
  have FB_7 := Lib.hid (FB_6.out.keep S7.out)
  have B7 := Lib.hid (then_ B6.out S7.out)
  clear hb S7 L_6 X4_6 FA_6 FB_6 B6
  have FC_7n := Lib.hid (FC.out)
  obtain ⟨q0, q1, q2, q3, q4, q5⟩ := X4_7.out
  have ql := World.block_lt_of_cell? _ _ q0
  obtain rfl : n7 = n9 := FA.out.len.symm.trans FB.out.len
  obtain rfl : n7 = n11 := FA.out.len.symm.trans FC.out.len
  go_wp2_with fail
  refine (kvs_same A7 A9 n7 c7 c9 _ _ FA_7.out FB_7.out (by omega)).mono ?_; rintro e w8 ⟨rfl, hb⟩
  have S8 := Lib.hid (hb)
  have L_8 := Lib.hid (L_7.out.keep S8.out)
  have X4_8 := Lib.hid (X4_7.out.on S8.out)
  have FA_8 := Lib.hid (FA_7.out.keep S8.out)
  have FB_8 := Lib.hid (FB_7.out.keep S8.out)
  have FC_8 := Lib.hid (FC_7n.out.keep S8.out)
  have B8 := Lib.hid (then_ B7.out S8.out)
  clear hb S8 L_7 X4_7 FA_7 FB_7 FC_7n B7
  clear q0 q1 q2 q3 q4 q5 ql
  go_wp2_with fail
  refine (kvs_same A7 A11 n7 c7 c11 _ _ FA_8.out FC_8.out (by omega)).mono ?_; rintro e w9 ⟨rfl, hb⟩
  have S9 := Lib.hid (hb)
  have L_9 := Lib.hid (L_8.out.keep S9.out)
  have X4_9 := Lib.hid (X4_8.out.on S9.out)
  have FA_9 := Lib.hid (FA_8.out.keep S9.out)
  have FB_9 := Lib.hid (FB_8.out.keep S9.out)
  have FC_9 := Lib.hid (FC_8.out.keep S9.out)
  have B9 := Lib.hid (then_ B8.out S9.out)
  clear hb S9 L_8 X4_8 FA_8 FB_8 FC_8 B8
  go_wp2_with fail
  refine (may_any A7 n7 c7 (fromL l0 a2) _ FA_9.out (by omega)).mono ?_; rintro e w10 ⟨rfl, hb⟩
  rw [mayP_from HM.out]
  have S10 := Lib.hid (hb)
  have L_10 := Lib.hid (L_9.out.keep S10.out)
  have X4_10 := Lib.hid (X4_9.out.on S10.out)
  have FA_10 := Lib.hid (FA_9.out.keep S10.out)
  have FB_10 := Lib.hid (FB_9.out.keep S10.out)
  have FC_10 := Lib.hid (FC_9.out.keep S10.out)
  have B10 := Lib.hid (then_ B9.out S10.out)
  clear hb S10 L_9 X4_9 FA_9 FB_9 FC_9 B9
  go_wp2_with fail
  refine (live_any _).mono ?_; rintro e w11 ⟨rfl, hb⟩
  have S11 := Lib.hid (hb)
  have L_11 := Lib.hid (L_10.out.keep S11.out)
  have X4_11 := Lib.hid (X4_10.out.on S11.out)
  have FA_11 := Lib.hid (FA_10.out.keep S11.out)
  have FB_11 := Lib.hid (FB_10.out.keep S11.out)
  have FC_11 := Lib.hid (FC_10.out.keep S11.out)
  have B11 := Lib.hid (then_ B10.out S11.out)
  clear hb S11 L_10 X4_10 FA_10 FB_10 FC_10 B10
  go_wp2
  go_ret
  exact ⟨rfl, B11.out⟩

theorem shortFew (w : World) (A0 : Option Addr) (n0 c0 : Nat) (l0 : List KV) (x1 : KV) (a2 : ByteArray) (k0 : KVs w A0 n0 c0 l0) (k1 : x1.ok) (hf : fewB 40 l0 = false) :
    Calls Try.prog 8 #[.slice A0 n0 c0, x1.agg, .string a2] w fun e w' => e = .returned (.bool true) ∧ Below w.heap.size w w' := by
  have K := Lib.hid k0
  have X := Lib.hid k1
  have HF := Lib.hid hf
  have z0 : x1.key.size ≤ 9223372036854775807 := by have := k1.key; unfold maxLen at this; omega
  clear k0 k1 hf
  go_enter Try.func8, Try.ntmps8
  have L_0 := Lib.hid (K.out)
  have L_0b := Lib.hid (L_0.out.keep (new1 _ (x1.obj 26)))
  clear L_0
  have X4_0b := Lib.hid (at6_new w x1 26)
  have B0b := Lib.hid (new1 w (x1.obj 26))
  go_wp2_with fail
  refine (few_any A0 n0 c0 l0 40 _ L_0b.out (by omega)).mono ?_; rintro e w' ⟨rfl, rfl⟩
  rw [HF.out]
  go_wp2_with fail
  refine (live_any _).mono ?_; rintro e w1 ⟨rfl, hb⟩
  have S1 := Lib.hid (hb)
  have L_1 := Lib.hid (L_0b.out.keep S1.out)
  have X4_1 := Lib.hid (X4_0b.out.on S1.out)
  have B1 := Lib.hid (then_ B0b.out S1.out)
  clear hb S1 L_0b X4_0b B0b
  go_wp2
  go_ret
  exact ⟨rfl, B1.out⟩

theorem shortKey (w : World) (A0 : Option Addr) (n0 c0 : Nat) (l0 : List KV) (x1 : KV) (a2 : ByteArray) (k0 : KVs w A0 n0 c0 l0) (k1 : x1.ok) (hf : fewB 40 l0 = true) (hn : n0 ≤ 40) (hs1 : (60 : Int) < x1.key.size) :
    Calls Try.prog 8 #[.slice A0 n0 c0, x1.agg, .string a2] w fun e w' => e = .returned (.bool true) ∧ Below w.heap.size w w' := by
  have K := Lib.hid k0
  have X := Lib.hid k1
  have HF := Lib.hid hf
  have z0 : x1.key.size ≤ 9223372036854775807 := by have := k1.key; unfold maxLen at this; omega
  clear k0 k1 hf
  go_enter Try.func8, Try.ntmps8
  have L_0 := Lib.hid (K.out)
  have L_0b := Lib.hid (L_0.out.keep (new1 _ (x1.obj 26)))
  clear L_0
  have X4_0b := Lib.hid (at6_new w x1 26)
  have B0b := Lib.hid (new1 w (x1.obj 26))
  go_wp2_with fail
  refine (few_any A0 n0 c0 l0 40 _ L_0b.out (by omega)).mono ?_; rintro e w' ⟨rfl, rfl⟩
  rw [HF.out]
  go_wp2_with fail
  refine (live_any _).mono ?_; rintro e w1 ⟨rfl, hb⟩
  have S1 := Lib.hid (hb)
  have L_1 := Lib.hid (L_0b.out.keep S1.out)
  have X4_1 := Lib.hid (X4_0b.out.on S1.out)
  have B1 := Lib.hid (then_ B0b.out S1.out)
  clear hb S1 L_0b X4_0b B0b
  go_wp2
  go_ret
  exact ⟨rfl, B1.out⟩

theorem shortArg (w : World) (A0 : Option Addr) (n0 c0 : Nat) (l0 : List KV) (x1 : KV) (a2 : ByteArray) (k0 : KVs w A0 n0 c0 l0) (k1 : x1.ok) (hf : fewB 40 l0 = true) (hn : n0 ≤ 40) (hs1 : x1.key.size ≤ 60) (hs3 : (60 : Int) < a2.size) (hz : a2.size ≤ 9223372036854775807) :
    Calls Try.prog 8 #[.slice A0 n0 c0, x1.agg, .string a2] w fun e w' => e = .returned (.bool true) ∧ Below w.heap.size w w' := by
  have K := Lib.hid k0
  have X := Lib.hid k1
  have HF := Lib.hid hf
  have z0 : x1.key.size ≤ 9223372036854775807 := by have := k1.key; unfold maxLen at this; omega
  clear k0 k1 hf
  go_enter Try.func8, Try.ntmps8
  have L_0 := Lib.hid (K.out)
  have L_0b := Lib.hid (L_0.out.keep (new1 _ (x1.obj 26)))
  clear L_0
  have X4_0b := Lib.hid (at6_new w x1 26)
  have B0b := Lib.hid (new1 w (x1.obj 26))
  go_wp2_with fail
  refine (few_any A0 n0 c0 l0 40 _ L_0b.out (by omega)).mono ?_; rintro e w' ⟨rfl, rfl⟩
  rw [HF.out]
  go_wp2_with fail
  refine (live_any _).mono ?_; rintro e w1 ⟨rfl, hb⟩
  have S1 := Lib.hid (hb)
  have L_1 := Lib.hid (L_0b.out.keep S1.out)
  have X4_1 := Lib.hid (X4_0b.out.on S1.out)
  have B1 := Lib.hid (then_ B0b.out S1.out)
  clear hb S1 L_0b X4_0b B0b
  go_wp2
  go_ret
  exact ⟨rfl, B1.out⟩

theorem shortMay (w : World) (A0 : Option Addr) (n0 c0 : Nat) (l0 : List KV) (x1 : KV) (a2 : ByteArray) (k0 : KVs w A0 n0 c0 l0) (k1 : x1.ok) (hf : fewB 40 l0 = true) (hn : n0 ≤ 40) (hs1 : x1.key.size ≤ 60) (hs3 : a2.size ≤ 60) (hm : mayP oneB l0 = false) :
    Calls Try.prog 8 #[.slice A0 n0 c0, x1.agg, .string a2] w fun e w' => e = .returned (.bool true) ∧ Below w.heap.size w w' := by
  have K := Lib.hid k0
  have X := Lib.hid k1
  have HF := Lib.hid hf
  have z0 : x1.key.size ≤ 9223372036854775807 := by have := k1.key; unfold maxLen at this; omega
  have HM := Lib.hid hm
  clear k0 k1 hf hm
  go_enter Try.func8, Try.ntmps8
  have L_0 := Lib.hid (K.out)
  have L_0b := Lib.hid (L_0.out.keep (new1 _ (x1.obj 26)))
  clear L_0
  have X4_0b := Lib.hid (at6_new w x1 26)
  have B0b := Lib.hid (new1 w (x1.obj 26))
  go_wp2_with fail
  refine (few_any A0 n0 c0 l0 40 _ L_0b.out (by omega)).mono ?_; rintro e w' ⟨rfl, rfl⟩
  rw [HF.out]
  obtain ⟨qX40, qX41, qX42, qX43, qX44, qX45⟩ := X4_0b.out
  have qX4l := World.block_lt_of_cell? _ _ qX40
  go_wp2_with fail
  refine (may_any A0 n0 c0 l0 _ L_0b.out (by omega)).mono ?_; rintro e w1 ⟨rfl, hb⟩
  rw [HM.out]
  have S1 := Lib.hid (hb)
  have L_1 := Lib.hid (L_0b.out.keep S1.out)
  have X4_1 := Lib.hid (X4_0b.out.on S1.out)
  have B1 := Lib.hid (then_ B0b.out S1.out)
  clear hb S1 L_0b X4_0b B0b
  clear qX40 qX41 qX42 qX43 qX44 qX45 qX4l
  go_wp2_with fail
  refine (live_any _).mono ?_; rintro e w2 ⟨rfl, hb⟩
  have S2 := Lib.hid (hb)
  have L_2 := Lib.hid (L_1.out.keep S2.out)
  have X4_2 := Lib.hid (X4_1.out.on S2.out)
  have B2 := Lib.hid (then_ B1.out S2.out)
  clear hb S2 L_1 X4_1 B1
  go_wp2
  go_ret
  exact ⟨rfl, B2.out⟩

theorem shortOne (w : World) (A0 : Option Addr) (n0 c0 : Nat) (l0 : List KV) (x1 : KV) (a2 : ByteArray) (k0 : KVs w A0 n0 c0 l0) (k1 : x1.ok) (hf : fewB 40 l0 = true) (hn : n0 ≤ 40) (hs1 : x1.key.size ≤ 60) (hs3 : a2.size ≤ 60) (hm : mayP oneB l0 = true) (h1 : oneB x1 = false) :
    Calls Try.prog 8 #[.slice A0 n0 c0, x1.agg, .string a2] w fun e w' => e = .returned (.bool true) ∧ Below w.heap.size w w' := by
  have K := Lib.hid k0
  have X := Lib.hid k1
  have HF := Lib.hid hf
  have z0 : x1.key.size ≤ 9223372036854775807 := by have := k1.key; unfold maxLen at this; omega
  have HM := Lib.hid hm
  have H1 := Lib.hid h1
  clear k0 k1 hf hm h1
  go_enter Try.func8, Try.ntmps8
  have L_0 := Lib.hid (K.out)
  have L_0b := Lib.hid (L_0.out.keep (new1 _ (x1.obj 26)))
  clear L_0
  have X4_0b := Lib.hid (at6_new w x1 26)
  have B0b := Lib.hid (new1 w (x1.obj 26))
  go_wp2_with fail
  refine (few_any A0 n0 c0 l0 40 _ L_0b.out (by omega)).mono ?_; rintro e w' ⟨rfl, rfl⟩
  rw [HF.out]
  obtain ⟨qX40, qX41, qX42, qX43, qX44, qX45⟩ := X4_0b.out
  have qX4l := World.block_lt_of_cell? _ _ qX40
  go_wp2_with fail
  refine (may_any A0 n0 c0 l0 _ L_0b.out (by omega)).mono ?_; rintro e w1 ⟨rfl, hb⟩
  rw [HM.out]
  have S1 := Lib.hid (hb)
  have L_1 := Lib.hid (L_0b.out.keep S1.out)
  have X4_1 := Lib.hid (X4_0b.out.on S1.out)
  have B1 := Lib.hid (then_ B0b.out S1.out)
  clear hb S1 L_0b X4_0b B0b
  clear qX40 qX41 qX42 qX43 qX44 qX45 qX4l
  obtain ⟨qX40, qX41, qX42, qX43, qX44, qX45⟩ := X4_1.out
  have qX4l := World.block_lt_of_cell? _ _ qX40
  go_wp2_with fail
  refine (one_any x1 _ X.out).mono ?_; rintro e w2 ⟨rfl, hb⟩
  rw [H1.out]
  have S2 := Lib.hid (hb)
  have L_2 := Lib.hid (L_1.out.keep S2.out)
  have X4_2 := Lib.hid (X4_1.out.on S2.out)
  have B2 := Lib.hid (then_ B1.out S2.out)
  clear hb S2 L_1 X4_1 B1
  clear qX40 qX41 qX42 qX43 qX44 qX45 qX4l
  go_wp2_with fail
  refine (live_any _).mono ?_; rintro e w3 ⟨rfl, hb⟩
  have S3 := Lib.hid (hb)
  have L_3 := Lib.hid (L_2.out.keep S3.out)
  have X4_3 := Lib.hid (X4_2.out.on S3.out)
  have B3 := Lib.hid (then_ B2.out S3.out)
  clear hb S3 L_2 X4_2 B2
  go_wp2
  go_ret
  exact ⟨rfl, B3.out⟩

theorem walk (w : World) (A0 : Option Addr) (n0 c0 : Nat) (l0 : List KV) (x1 : KV) (a2 : ByteArray) (k0 : KVs w A0 n0 c0 l0) (k1 : x1.ok) (w2 : a2.size ≤ maxLen) :
    Calls Try.prog 8 #[.slice A0 n0 c0, x1.agg, .string a2] w fun e w' => e = .returned (.bool true) ∧ Below w.heap.size w w' := by
  cases hf : fewB 40 l0 with
  | false => exact shortFew w A0 n0 c0 l0 x1 a2 k0 k1 hf
  | true =>
    have hn : n0 ≤ 40 := by have := k0.len; simp only [fewB, Bool.and_eq_true, decide_eq_true_eq] at hf; omega
    by_cases hs1 : x1.key.size ≤ 60
    · by_cases hs3 : a2.size ≤ 60
      · cases hm : mayP oneB l0 with
        | false => exact shortMay w A0 n0 c0 l0 x1 a2 k0 k1 hf hn hs1 hs3 hm
        | true =>
          cases h1 : oneB x1 with
          | false => exact shortOne w A0 n0 c0 l0 x1 a2 k0 k1 hf hn hs1 hs3 hm h1
          | true =>
            cases hb0 : begins a2 x1.key with
            | true => exact walkIn w A0 n0 c0 l0 x1 a2 k0 k1 hn hs1 hs3 hf hm h1 hb0
            | false =>
              rcases Nat.lt_or_ge x1.key.size a2.size with h | h
              · exact walkLong w A0 n0 c0 l0 x1 a2 k0 k1 hn hs1 hs3 hf hm h1 hb0 h
              · exact walkFit w A0 n0 c0 l0 x1 a2 k0 k1 hn hs1 hs3 hf hm h1 hb0 h
      · exact shortArg w A0 n0 c0 l0 x1 a2 k0 k1 hf hn hs1 (by omega) (by unfold maxLen at w2; omega)
    · exact shortKey w A0 n0 c0 l0 x1 a2 k0 k1 hf hn (by omega)

theorem own : ownKnob Try.prog.godebug = none := by kernel_rfl
theorem laidOut : laidOutB Try.prog = true := by kernel_rfl

set_option maxRecDepth 100000 in
theorem lifted (os : Os) (started : os.Started) (H : Type) (enc : TypeId × Value → H) :
    ReturnsInHanded {} Try.checked os 8 .any (Rows.histPrefixSpec.pre6 enc Try.prog Try.f8 Rows.histPrefixRow.domain false) (Rows.histPrefixSpec.post enc Try.prog Try.f8 false true false false) := by
  refine returnsInHanded_of_change (C := Try.checked) own started (by kernel_rfl) Try.func8
    (ChangeSpec.witness6 (enc := enc) (C := Try.checked) false ⟨#[], #[.slice none 0 0, .agg #[.string ByteArray.empty, .string ByteArray.empty, .int .i64 0, .int .i64 0, .int .i64 0, .int .i64 0], .string ByteArray.empty], []⟩ 8 (by kernel_rfl) (by kernel_rfl) (by kernel_rfl) (by kernel_rfl)) ?_
  intro W base args ds gs before hval0 hW hcnd _
  have hval : ∀ (j : Nat) t v, Try.f8.params[j]? = some t → args[j]? = some v → Value.okWide Try.prog W .any base t v := hval0
  have hW' := hW
  obtain ⟨p, q, hA0, hV, rfl, hfz, hnd⟩ := hW
  have hA : DataW.TrodAll enc Try.prog W 0 (fun _ => true) true Try.f8.params.toList args.toList ds p := hA0
  rw [Try.params8] at hA hval
  obtain ⟨v0, vs0, d0, ds0, p0, q0, hargs, rfl, rfl, h0, r0⟩ := trodAll_cons hA
  obtain ⟨v1, vs1, d1, ds1, p1, q1, rfl, rfl, rfl, h1, r1⟩ := trodAll_cons r0
  obtain ⟨v2, vs2, d2, ds2, p2, q2, rfl, rfl, rfl, h2, r2⟩ := trodAll_cons r1
  obtain ⟨rfl, rfl, rfl⟩ := trodAll_nil r2
  obtain rfl : args = #[v0, v1, v2] := by cases args; simp_all
  obtain ⟨rfl, rfl⟩ := trodVars_none hV
  obtain ⟨A0, n0, c0, l0, rfl, k0⟩ := open_kvs (hval 0 22 v0 rfl rfl) h0
  obtain ⟨x1, rfl, k1⟩ := open_kv (hval 1 26 v1 rfl rfl) h1
  obtain ⟨a2, rfl, rfl, rfl, w2⟩ := open_string Try.underlying9 (hval 2 9 v2 rfl rfl) h2
  clear hA0 hval0
  refine (walk W A0 n0 c0 l0 x1 a2 k0 k1 w2).mono fun e W' ⟨he, bel⟩ => ?_
  subst he
  exact ⟨_, rfl, _, _, _, [], _, [], hW', trodAll_mk1 (shut_bool Try.underlying4 _), (trodAll_cons_mk (Below.trod laidOut (by kernel_rfl) (of_decide_eq_true (by kernel_rfl)) h0 bel (fun x hx => hW'.lt x (by simp [hx]))) (trodAll_cons_mk (Below.trod laidOut (by kernel_rfl) (of_decide_eq_true (by kernel_rfl)) h1 bel (fun x hx => hW'.lt x (by simp [hx]))) (trodAll_cons_mk (shut_string Try.underlying9 w2) trodAll_mk0))), rfl, bel.frame _, fun h => by cases h⟩

theorem over : Rows.histPrefixRow.holds Try.pinned (OpenSpec.ofChange Rows.histPrefixSpec) :=
  OpenClaim.holds_of_wide 8 Try.f8 rfl rfl rfl rfl rfl rfl rfl ⟨rfl, rfl, rfl, rfl, rfl⟩ rfl rfl rfl rfl rfl (by kernel_rfl) Try.func8 (by kernel_rfl)
    (of_decide_eq_true (by kernel_rfl)) (by unfold Func.isWrapper; first | (rw [if_pos (by decide +kernel)]; kernel_rfl) | (rw [if_neg (by decide +kernel)]; exact ⟨rfl, rfl⟩))
    (fun os started H enc _ => lifted os started H enc)

theorem proved : Rows.HistPrefixSaid := over
#print axioms proved
end Go.Proofs.Ytlpnnbjdolodcaa.histPrefix
