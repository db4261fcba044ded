/- For every list of things, every thing and every key the law HistLaid answers true: what is laid is found, what is taken is not, and all else is as it was. No condition. -/
import Derived.Test.YtlpnnbjdolodcaaKvOpen
import Derived.Test.YtlpnnbjdolodcaaHistLive
import Derived.Test.YtlpnnbjdolodcaaRows
namespace Go.Proofs.Ytlpnnbjdolodcaa.histLaid
open Go.ChangeShapes Go.WideShapes Go.ChangeAt Go.RowKit Go.Proofs.Ytlpnnbjdolodcaa.P
open Go.ChangeMaps (open_string shut_string)
set_option linter.unusedVariables false
set_option linter.unusedSimpArgs false
set_option maxHeartbeats 2000000
set_option maxRecDepth 100000

theorem find_pos {l : List KV} {k : ByteArray} {z : KV} (h : findL l k = some z) : 0 < l.length := by
  cases l with
  | nil => simp [findL] at h
  | cons _ _ => simp
theorem walkEqSome (w : World) (A0 : Option Addr) (n0 c0 : Nat) (l0 : List KV) (x1 : KV) (k0 : KVs w A0 n0 c0 l0) (k1 : x1.ok) (hn : n0 ≤ 40) (hs1 : x1.key.size ≤ 60) (hs2 : x1.val.size ≤ 60)
    (hf : fewB 40 l0 = true) (hm : mayP oneB l0 = true) (h1 : oneB x1 = true) (hr : rises l0 = true) (z : KV) (hw : findL l0 x1.key = some z) :
    Calls Try.prog 5 #[.slice A0 n0 c0, x1.agg, .string x1.key] w fun e w' => e = .returned (.bool true) ∧ Below w.heap.size w w' := by
  have K := Lib.hid k0
  have X := Lib.hid k1
  have HR := Lib.hid hr
  have HW := Lib.hid hw
  have HM := Lib.hid hm
  have H1 := Lib.hid h1
  have HF := Lib.hid hf
  have HL0 := Lib.hid k0.len
  have hlm := len_lay l0 x1 hr
  have hln := len_take l0 x1.key
  rw [hw] at hlm hln
  simp only [Option.isSome_some, Option.isSome_none, if_true, Bool.false_eq_true, if_false, Nat.add_zero, Nat.sub_zero] at hlm hln
  have HLM := Lib.hid hlm
  have HLN := Lib.hid hln
  have hpos := Lib.hid (find_pos hw)
  clear k0 k1 hr hw hm h1 hf hlm hln
  go_enter Try.func5, Try.ntmps5
  have L_0 := Lib.hid (K.out)
  have L_0b := Lib.hid (L_0.out.keep (new1 _ (x1.obj 26)))
  clear L_0
  have X4_0b := Lib.hid (at6_new w x1 26)
  have B0b := Lib.hid (new1 w (x1.obj 26))
  go_wp2_with fail
  refine (few_any A0 n0 c0 l0 40 _ L_0b.out (by omega)).mono ?_; rintro e w' ⟨rfl, rfl⟩
  rw [HF.out]
  go_wp2_with fail
  refine (may_any A0 n0 c0 l0 _ L_0b.out (by omega)).mono ?_; rintro e w1 ⟨rfl, hb⟩
  rw [HM.out]
  have S1 := Lib.hid (hb)
  have L_1 := Lib.hid (L_0b.out.keep S1.out)
  have X4_1 := Lib.hid (X4_0b.out.on S1.out)
  have B1 := Lib.hid (then_ B0b.out S1.out)
  clear hb S1 L_0b X4_0b B0b
  obtain ⟨q0, q1, q2, q3, q4, q5⟩ := X4_1.out
  have ql := World.block_lt_of_cell? _ _ q0
  go_wp2_with fail
  refine (one_any x1 _ X.out).mono ?_; rintro e w2 ⟨rfl, hb⟩
  rw [H1.out]
  have S2 := Lib.hid (hb)
  have L_2 := Lib.hid (L_1.out.keep S2.out)
  have X4_2 := Lib.hid (X4_1.out.on S2.out)
  have B2 := Lib.hid (then_ B1.out S2.out)
  clear hb S2 L_1 X4_1 B1
  clear q0 q1 q2 q3 q4 q5 ql
  obtain ⟨q0, q1, q2, q3, q4, q5⟩ := X4_2.out
  have ql := World.block_lt_of_cell? _ _ q0
  go_wp2_with fail
  refine (Lay_any A0 n0 c0 l0 x1 _ L_2.out X.out (by omega)).mono ?_; rintro e w3 ⟨A5, n5, c5, rfl, h, hb⟩
  have M := Lib.hid h
  clear h
  have S3 := Lib.hid (hb)
  have L_3 := Lib.hid (L_2.out.keep S3.out)
  have X4_3 := Lib.hid (X4_2.out.on S3.out)
  have B3 := Lib.hid (then_ B2.out S3.out)
  clear hb S3 L_2 X4_2 B2
  clear q0 q1 q2 q3 q4 q5 ql
  have M_3n := Lib.hid (M.out)
  obtain ⟨q0, q1, q2, q3, q4, q5⟩ := X4_3.out
  have ql := World.block_lt_of_cell? _ _ q0
  go_wp2_with fail
  refine (Take_any A0 n0 c0 l0 x1.key _ L_3.out (by omega)).mono ?_; rintro e w4 ⟨A6, n6, c6, rfl, h, hb⟩
  have N := Lib.hid h
  clear h
  have S4 := Lib.hid (hb)
  have L_4 := Lib.hid (L_3.out.keep S4.out)
  have X4_4 := Lib.hid (X4_3.out.on S4.out)
  have M_4 := Lib.hid (M_3n.out.keep S4.out)
  have B4 := Lib.hid (then_ B3.out S4.out)
  clear hb S4 L_3 X4_3 M_3n B3
  clear q0 q1 q2 q3 q4 q5 ql
  have N_4n := Lib.hid (N.out)
  have hn5 : n5 ≤ 1000 := by have h1 := M.out.len; have h2 := HLM.out; have h3 := HL0.out; omega
  have hn6 : n6 ≤ 1000 := by have h1 := N.out.len; have h2 := HLN.out; have h3 := HL0.out; omega
  obtain ⟨q0, q1, q2, q3, q4, q5⟩ := X4_4.out
  have ql := World.block_lt_of_cell? _ _ q0
  go_wp2_with fail
  refine (find_any A5 n5 c5 (layL l0 x1) x1.key _ M_4.out (by omega)).mono ?_; rintro e w5 h
  rw [find_lay_same] at h
  obtain ⟨rfl, hb⟩ := h.some_
  clear h
  have S5 := Lib.hid (hb)
  have L_5 := Lib.hid (L_4.out.keep S5.out)
  have X4_5 := Lib.hid (X4_4.out.on S5.out)
  have M_5 := Lib.hid (M_4.out.keep S5.out)
  have N_5 := Lib.hid (N_4n.out.keep S5.out)
  have B5 := Lib.hid (then_ B4.out S5.out)
  clear hb S5 L_4 X4_4 M_4 N_4n B4
  clear q0 q1 q2 q3 q4 q5 ql
  have L_5b := Lib.hid (L_5.out.keep (new1 _ (x1.obj 26)))
  clear L_5
  have X4_5b := Lib.hid (X4_5.out.on (new1 _ (x1.obj 26)))
  clear X4_5
  have M_5b := Lib.hid (M_5.out.keep (new1 _ (x1.obj 26)))
  clear M_5
  have N_5b := Lib.hid (N_5.out.keep (new1 _ (x1.obj 26)))
  clear N_5
  have A9_5b := Lib.hid (at6_new w5 x1 26)
  have B5b := Lib.hid (then_ B5.out (new1 _ (x1.obj 26)))
  clear B5
  obtain ⟨q0, q1, q2, q3, q4, q5⟩ := X4_5b.out
  have ql := World.block_lt_of_cell? _ _ q0
  go_wp2_with fail
  refine (find_any A6 n6 c6 (takeL l0 x1.key) x1.key _ N_5b.out (by omega)).mono ?_; rintro e w6 h
  rw [find_take_same _ _ HR.out] at h
  obtain ⟨rfl, hb⟩ := h.none_
  clear h
  have S6 := Lib.hid (hb)
  have L_6 := Lib.hid (L_5b.out.keep S6.out)
  have X4_6 := Lib.hid (X4_5b.out.on S6.out)
  have M_6 := Lib.hid (M_5b.out.keep S6.out)
  have N_6 := Lib.hid (N_5b.out.keep S6.out)
  have A9_6 := Lib.hid (A9_5b.out.on S6.out)
  have B6 := Lib.hid (then_ B5b.out S6.out)
  clear hb S6 L_5b X4_5b M_5b N_5b A9_5b B5b
  clear q0 q1 q2 q3 q4 q5 ql
  have L_6b := Lib.hid (L_6.out.keep (new1 _ (.cells #[.string ⟨#[]⟩, .string ⟨#[]⟩, .int .i64 0, .int .i64 0, .int .i64 0, .int .i64 0] 26)))
  clear L_6
  have X4_6b := Lib.hid (X4_6.out.on (new1 _ (.cells #[.string ⟨#[]⟩, .string ⟨#[]⟩, .int .i64 0, .int .i64 0, .int .i64 0, .int .i64 0] 26)))
  clear X4_6
  have M_6b := Lib.hid (M_6.out.keep (new1 _ (.cells #[.string ⟨#[]⟩, .string ⟨#[]⟩, .int .i64 0, .int .i64 0, .int .i64 0, .int .i64 0] 26)))
  clear M_6
  have N_6b := Lib.hid (N_6.out.keep (new1 _ (.cells #[.string ⟨#[]⟩, .string ⟨#[]⟩, .int .i64 0, .int .i64 0, .int .i64 0, .int .i64 0] 26)))
  clear N_6
  have A9_6b := Lib.hid (A9_6.out.on (new1 _ (.cells #[.string ⟨#[]⟩, .string ⟨#[]⟩, .int .i64 0, .int .i64 0, .int .i64 0, .int .i64 0] 26)))
  clear A9_6
  have B6b := Lib.hid (then_ B6.out (new1 _ (.cells #[.string ⟨#[]⟩, .string ⟨#[]⟩, .int .i64 0, .int .i64 0, .int .i64 0, .int .i64 0] 26)))
  clear B6
  obtain ⟨q0, q1, q2, q3, q4, q5⟩ := X4_6b.out
  have ql := World.block_lt_of_cell? _ _ q0
  go_wp2_with fail
  refine (find_any A0 n0 c0 l0 x1.key _ L_6b.out (by omega)).mono ?_; rintro e w7 h
  rw [HW.out] at h
  obtain ⟨rfl, hb⟩ := h.some_
  clear h
  have S7 := Lib.hid (hb)
  have L_7 := Lib.hid (L_6b.out.keep S7.out)
  have X4_7 := Lib.hid (X4_6b.out.on S7.out)
  have M_7 := Lib.hid (M_6b.out.keep S7.out)
  have N_7 := Lib.hid (N_6b.out.keep S7.out)
  have A9_7 := Lib.hid (A9_6b.out.on S7.out)
  have B7 := Lib.hid (then_ B6b.out S7.out)
  clear hb S7 L_6b X4_6b M_6b N_6b A9_6b B6b
  clear q0 q1 q2 q3 q4 q5 ql
  have L_7b := Lib.hid (L_7.out.keep (new1 _ (z.obj 26)))
  clear L_7
  have X4_7b := Lib.hid (X4_7.out.on (new1 _ (z.obj 26)))
  clear X4_7
  have M_7b := Lib.hid (M_7.out.keep (new1 _ (z.obj 26)))
  clear M_7
  have N_7b := Lib.hid (N_7.out.keep (new1 _ (z.obj 26)))
  clear N_7
  have A9_7b := Lib.hid (A9_7.out.on (new1 _ (z.obj 26)))
  clear A9_7
  have B7b := Lib.hid (then_ B7.out (new1 _ (z.obj 26)))
  clear B7
  go_wp2_with fail
  refine (find_any A0 n0 c0 l0 x1.key _ L_7b.out (by omega)).mono ?_; rintro e w8 h
  rw [HW.out] at h
  obtain ⟨rfl, hb⟩ := h.some_
  clear h
  have S8 := Lib.hid (hb)
  have L_8 := Lib.hid (L_7b.out.keep S8.out)
  have X4_8 := Lib.hid (X4_7b.out.on S8.out)
  have M_8 := Lib.hid (M_7b.out.keep S8.out)
  have N_8 := Lib.hid (N_7b.out.keep S8.out)
  have A9_8 := Lib.hid (A9_7b.out.on S8.out)
  have B8 := Lib.hid (then_ B7b.out S8.out)
  clear hb S8 L_7b X4_7b M_7b N_7b A9_7b B7b
  have L_8b := Lib.hid (L_8.out.keep (new1 _ (z.obj 26)))
  clear L_8
  have X4_8b := Lib.hid (X4_8.out.on (new1 _ (z.obj 26)))
  clear X4_8
  have M_8b := Lib.hid (M_8.out.keep (new1 _ (z.obj 26)))
  clear M_8
  have N_8b := Lib.hid (N_8.out.keep (new1 _ (z.obj 26)))
  clear N_8
  have A9_8b := Lib.hid (A9_8.out.on (new1 _ (z.obj 26)))
  clear A9_8
  have C_8b := Lib.hid (at6_new w8 z 26)
  have B8b := Lib.hid (then_ B8.out (new1 _ (z.obj 26)))
  clear B8
  go_wp2_with fail
  refine (find_any A5 n5 c5 (layL l0 x1) x1.key _ M_8b.out (by omega)).mono ?_; rintro e w9 h
  rw [find_lay_same] at h
  obtain ⟨rfl, hb⟩ := h.some_
  clear h
  have S9 := Lib.hid (hb)
  have L_9 := Lib.hid (L_8b.out.keep S9.out)
  have X4_9 := Lib.hid (X4_8b.out.on S9.out)
  have M_9 := Lib.hid (M_8b.out.keep S9.out)
  have N_9 := Lib.hid (N_8b.out.keep S9.out)
  have A9_9 := Lib.hid (A9_8b.out.on S9.out)
  have C_9 := Lib.hid (C_8b.out.on S9.out)
  have B9 := Lib.hid (then_ B8b.out S9.out)
  clear hb S9 L_8b X4_8b M_8b N_8b A9_8b C_8b B8b
  have L_9b := Lib.hid (L_9.out.keep (new1 _ (x1.obj 26)))
  clear L_9
  have X4_9b := Lib.hid (X4_9.out.on (new1 _ (x1.obj 26)))
  clear X4_9
  have M_9b := Lib.hid (M_9.out.keep (new1 _ (x1.obj 26)))
  clear M_9
  have N_9b := Lib.hid (N_9.out.keep (new1 _ (x1.obj 26)))
  clear N_9
  have A9_9b := Lib.hid (A9_9.out.on (new1 _ (x1.obj 26)))
  clear A9_9
  have C_9b := Lib.hid (C_9.out.on (new1 _ (x1.obj 26)))
  clear C_9
  have E_9b := Lib.hid (at6_new w9 x1 26)
  have B9b := Lib.hid (then_ B9.out (new1 _ (x1.obj 26)))
  clear B9
  go_wp2_with fail
  refine (find_any A6 n6 c6 (takeL l0 x1.key) x1.key _ N_9b.out (by omega)).mono ?_; rintro e w10 h
  rw [find_take_same _ _ HR.out] at h
  obtain ⟨rfl, hb⟩ := h.none_
  clear h
  have S10 := Lib.hid (hb)
  have L_10 := Lib.hid (L_9b.out.keep S10.out)
  have X4_10 := Lib.hid (X4_9b.out.on S10.out)
  have M_10 := Lib.hid (M_9b.out.keep S10.out)
  have N_10 := Lib.hid (N_9b.out.keep S10.out)
  have A9_10 := Lib.hid (A9_9b.out.on S10.out)
  have C_10 := Lib.hid (C_9b.out.on S10.out)
  have E_10 := Lib.hid (E_9b.out.on S10.out)
  have B10 := Lib.hid (then_ B9b.out S10.out)
  clear hb S10 L_9b X4_9b M_9b N_9b A9_9b C_9b E_9b B9b
  have L_10b := Lib.hid (L_10.out.keep (new1 _ (.cells #[.string ⟨#[]⟩, .string ⟨#[]⟩, .int .i64 0, .int .i64 0, .int .i64 0, .int .i64 0] 26)))
  clear L_10
  have X4_10b := Lib.hid (X4_10.out.on (new1 _ (.cells #[.string ⟨#[]⟩, .string ⟨#[]⟩, .int .i64 0, .int .i64 0, .int .i64 0, .int .i64 0] 26)))
  clear X4_10
  have M_10b := Lib.hid (M_10.out.keep (new1 _ (.cells #[.string ⟨#[]⟩, .string ⟨#[]⟩, .int .i64 0, .int .i64 0, .int .i64 0, .int .i64 0] 26)))
  clear M_10
  have N_10b := Lib.hid (N_10.out.keep (new1 _ (.cells #[.string ⟨#[]⟩, .string ⟨#[]⟩, .int .i64 0, .int .i64 0, .int .i64 0, .int .i64 0] 26)))
  clear N_10
  have A9_10b := Lib.hid (A9_10.out.on (new1 _ (.cells #[.string ⟨#[]⟩, .string ⟨#[]⟩, .int .i64 0, .int .i64 0, .int .i64 0, .int .i64 0] 26)))
  clear A9_10
  have C_10b := Lib.hid (C_10.out.on (new1 _ (.cells #[.string ⟨#[]⟩, .string ⟨#[]⟩, .int .i64 0, .int .i64 0, .int .i64 0, .int .i64 0] 26)))
  clear C_10
  have E_10b := Lib.hid (E_10.out.on (new1 _ (.cells #[.string ⟨#[]⟩, .string ⟨#[]⟩, .int .i64 0, .int .i64 0, .int .i64 0, .int .i64 0] 26)))
  clear E_10
  have G_10b := Lib.hid (at6_new w10 zeroKV 26)
  have B10b := Lib.hid (then_ B10.out (new1 _ (.cells #[.string ⟨#[]⟩, .string ⟨#[]⟩, .int .i64 0, .int .i64 0, .int .i64 0, .int .i64 0] 26)))
  clear B10
  obtain ⟨q0, q1, q2, q3, q4, q5⟩ := X4_10b.out
  have ql := World.block_lt_of_cell? _ _ q0
  obtain ⟨r0, r1, r2, r3, r4, r5⟩ := A9_10b.out
  have rl := World.block_lt_of_cell? _ _ r0
  have hne9 := neq_same
  go_wp2_with fail
  refine (may_any A5 n5 c5 (layL l0 x1) _ M_10b.out (by omega)).mono ?_; rintro e w11 ⟨rfl, hb⟩
  rw [mayP_lay HM.out H1.out]
  have S11 := Lib.hid (hb)
  have L_11 := Lib.hid (L_10b.out.keep S11.out)
  have X4_11 := Lib.hid (X4_10b.out.on S11.out)
  have M_11 := Lib.hid (M_10b.out.keep S11.out)
  have N_11 := Lib.hid (N_10b.out.keep S11.out)
  have A9_11 := Lib.hid (A9_10b.out.on S11.out)
  have C_11 := Lib.hid (C_10b.out.on S11.out)
  have E_11 := Lib.hid (E_10b.out.on S11.out)
  have G_11 := Lib.hid (G_10b.out.on S11.out)
  have B11 := Lib.hid (then_ B10b.out S11.out)
  clear hb S11 L_10b X4_10b M_10b N_10b A9_10b C_10b E_10b G_10b B10b
  clear q0 q1 q2 q3 q4 q5 ql
  clear r0 r1 r2 r3 r4 r5 rl
  go_wp2_with fail
  refine (may_any A6 n6 c6 (takeL l0 x1.key) _ N_11.out (by omega)).mono ?_; rintro e w12 ⟨rfl, hb⟩
  rw [mayP_take HM.out]
  have S12 := Lib.hid (hb)
  have L_12 := Lib.hid (L_11.out.keep S12.out)
  have X4_12 := Lib.hid (X4_11.out.on S12.out)
  have M_12 := Lib.hid (M_11.out.keep S12.out)
  have N_12 := Lib.hid (N_11.out.keep S12.out)
  have A9_12 := Lib.hid (A9_11.out.on S12.out)
  have C_12 := Lib.hid (C_11.out.on S12.out)
  have E_12 := Lib.hid (E_11.out.on S12.out)
  have G_12 := Lib.hid (G_11.out.on S12.out)
  have B12 := Lib.hid (then_ B11.out S12.out)
  clear hb S12 L_11 X4_11 M_11 N_11 A9_11 C_11 E_11 G_11 B11
  obtain ⟨q0, q1, q2, q3, q4, q5⟩ := X4_12.out
  have ql := World.block_lt_of_cell? _ _ q0
  have e1 : ((n5 : Int) == (n0 : Int)) = true := by have h1 := M.out.len; have h2 := HLM.out; have h3 := HL0.out; simp; omega
  have e2 : ((n6 : Int) == (n0 : Int) - 1) = true := by have h1 := N.out.len; have h2 := HLN.out; have h3 := HL0.out; have h4 := hpos.out; simp; omega
  go_wp2_with fail
  refine (live_any _).mono ?_; rintro e w13 ⟨rfl, hb⟩
  have S13 := Lib.hid (hb)
  have L_13 := Lib.hid (L_12.out.keep S13.out)
  have X4_13 := Lib.hid (X4_12.out.on S13.out)
  have M_13 := Lib.hid (M_12.out.keep S13.out)
  have N_13 := Lib.hid (N_12.out.keep S13.out)
  have A9_13 := Lib.hid (A9_12.out.on S13.out)
  have C_13 := Lib.hid (C_12.out.on S13.out)
  have E_13 := Lib.hid (E_12.out.on S13.out)
  have G_13 := Lib.hid (G_12.out.on S13.out)
  have B13 := Lib.hid (then_ B12.out S13.out)
  clear hb S13 L_12 X4_12 M_12 N_12 A9_12 C_12 E_12 G_12 B12
  go_wp2
  go_ret
  exact ⟨rfl, B13.out⟩

theorem walkEqNone (w : World) (A0 : Option Addr) (n0 c0 : Nat) (l0 : List KV) (x1 : KV) (k0 : KVs w A0 n0 c0 l0) (k1 : x1.ok) (hn : n0 ≤ 40) (hs1 : x1.key.size ≤ 60) (hs2 : x1.val.size ≤ 60)
    (hf : fewB 40 l0 = true) (hm : mayP oneB l0 = true) (h1 : oneB x1 = true) (hr : rises l0 = true) (hw : findL l0 x1.key = none) :
    Calls Try.prog 5 #[.slice A0 n0 c0, x1.agg, .string x1.key] w fun e w' => e = .returned (.bool true) ∧ Below w.heap.size w w' := by
  have K := Lib.hid k0
  have X := Lib.hid k1
  have HR := Lib.hid hr
  have HW := Lib.hid hw
  have HM := Lib.hid hm
  have H1 := Lib.hid h1
  have HF := Lib.hid hf
  have HL0 := Lib.hid k0.len
  have hlm := len_lay l0 x1 hr
  have hln := len_take l0 x1.key
  rw [hw] at hlm hln
  simp only [Option.isSome_some, Option.isSome_none, if_true, Bool.false_eq_true, if_false, Nat.add_zero, Nat.sub_zero] at hlm hln
  have HLM := Lib.hid hlm
  have HLN := Lib.hid hln
  clear k0 k1 hr hw hm h1 hf hlm hln
  go_enter Try.func5, Try.ntmps5
  have L_0 := Lib.hid (K.out)
  have L_0b := Lib.hid (L_0.out.keep (new1 _ (x1.obj 26)))
  clear L_0
  have X4_0b := Lib.hid (at6_new w x1 26)
  have B0b := Lib.hid (new1 w (x1.obj 26))
  go_wp2_with fail
  refine (few_any A0 n0 c0 l0 40 _ L_0b.out (by omega)).mono ?_; rintro e w' ⟨rfl, rfl⟩
  rw [HF.out]
  go_wp2_with fail
  refine (may_any A0 n0 c0 l0 _ L_0b.out (by omega)).mono ?_; rintro e w1 ⟨rfl, hb⟩
  rw [HM.out]
  have S1 := Lib.hid (hb)
  have L_1 := Lib.hid (L_0b.out.keep S1.out)
  have X4_1 := Lib.hid (X4_0b.out.on S1.out)
  have B1 := Lib.hid (then_ B0b.out S1.out)
  clear hb S1 L_0b X4_0b B0b
  obtain ⟨q0, q1, q2, q3, q4, q5⟩ := X4_1.out
  have ql := World.block_lt_of_cell? _ _ q0
  go_wp2_with fail
  refine (one_any x1 _ X.out).mono ?_; rintro e w2 ⟨rfl, hb⟩
  rw [H1.out]
  have S2 := Lib.hid (hb)
  have L_2 := Lib.hid (L_1.out.keep S2.out)
  have X4_2 := Lib.hid (X4_1.out.on S2.out)
  have B2 := Lib.hid (then_ B1.out S2.out)
  clear hb S2 L_1 X4_1 B1
  clear q0 q1 q2 q3 q4 q5 ql
  obtain ⟨q0, q1, q2, q3, q4, q5⟩ := X4_2.out
  have ql := World.block_lt_of_cell? _ _ q0
  go_wp2_with fail
  refine (Lay_any A0 n0 c0 l0 x1 _ L_2.out X.out (by omega)).mono ?_; rintro e w3 ⟨A5, n5, c5, rfl, h, hb⟩
  have M := Lib.hid h
  clear h
  have S3 := Lib.hid (hb)
  have L_3 := Lib.hid (L_2.out.keep S3.out)
  have X4_3 := Lib.hid (X4_2.out.on S3.out)
  have B3 := Lib.hid (then_ B2.out S3.out)
  clear hb S3 L_2 X4_2 B2
  clear q0 q1 q2 q3 q4 q5 ql
  have M_3n := Lib.hid (M.out)
  obtain ⟨q0, q1, q2, q3, q4, q5⟩ := X4_3.out
  have ql := World.block_lt_of_cell? _ _ q0
  go_wp2_with fail
  refine (Take_any A0 n0 c0 l0 x1.key _ L_3.out (by omega)).mono ?_; rintro e w4 ⟨A6, n6, c6, rfl, h, hb⟩
  have N := Lib.hid h
  clear h
  have S4 := Lib.hid (hb)
  have L_4 := Lib.hid (L_3.out.keep S4.out)
  have X4_4 := Lib.hid (X4_3.out.on S4.out)
  have M_4 := Lib.hid (M_3n.out.keep S4.out)
  have B4 := Lib.hid (then_ B3.out S4.out)
  clear hb S4 L_3 X4_3 M_3n B3
  clear q0 q1 q2 q3 q4 q5 ql
  have N_4n := Lib.hid (N.out)
  have hn5 : n5 ≤ 1000 := by have h1 := M.out.len; have h2 := HLM.out; have h3 := HL0.out; omega
  have hn6 : n6 ≤ 1000 := by have h1 := N.out.len; have h2 := HLN.out; have h3 := HL0.out; omega
  obtain ⟨q0, q1, q2, q3, q4, q5⟩ := X4_4.out
  have ql := World.block_lt_of_cell? _ _ q0
  go_wp2_with fail
  refine (find_any A5 n5 c5 (layL l0 x1) x1.key _ M_4.out (by omega)).mono ?_; rintro e w5 h
  rw [find_lay_same] at h
  obtain ⟨rfl, hb⟩ := h.some_
  clear h
  have S5 := Lib.hid (hb)
  have L_5 := Lib.hid (L_4.out.keep S5.out)
  have X4_5 := Lib.hid (X4_4.out.on S5.out)
  have M_5 := Lib.hid (M_4.out.keep S5.out)
  have N_5 := Lib.hid (N_4n.out.keep S5.out)
  have B5 := Lib.hid (then_ B4.out S5.out)
  clear hb S5 L_4 X4_4 M_4 N_4n B4
  clear q0 q1 q2 q3 q4 q5 ql
  have L_5b := Lib.hid (L_5.out.keep (new1 _ (x1.obj 26)))
  clear L_5
  have X4_5b := Lib.hid (X4_5.out.on (new1 _ (x1.obj 26)))
  clear X4_5
  have M_5b := Lib.hid (M_5.out.keep (new1 _ (x1.obj 26)))
  clear M_5
  have N_5b := Lib.hid (N_5.out.keep (new1 _ (x1.obj 26)))
  clear N_5
  have A9_5b := Lib.hid (at6_new w5 x1 26)
  have B5b := Lib.hid (then_ B5.out (new1 _ (x1.obj 26)))
  clear B5
  obtain ⟨q0, q1, q2, q3, q4, q5⟩ := X4_5b.out
  have ql := World.block_lt_of_cell? _ _ q0
  go_wp2_with fail
  refine (find_any A6 n6 c6 (takeL l0 x1.key) x1.key _ N_5b.out (by omega)).mono ?_; rintro e w6 h
  rw [find_take_same _ _ HR.out] at h
  obtain ⟨rfl, hb⟩ := h.none_
  clear h
  have S6 := Lib.hid (hb)
  have L_6 := Lib.hid (L_5b.out.keep S6.out)
  have X4_6 := Lib.hid (X4_5b.out.on S6.out)
  have M_6 := Lib.hid (M_5b.out.keep S6.out)
  have N_6 := Lib.hid (N_5b.out.keep S6.out)
  have A9_6 := Lib.hid (A9_5b.out.on S6.out)
  have B6 := Lib.hid (then_ B5b.out S6.out)
  clear hb S6 L_5b X4_5b M_5b N_5b A9_5b B5b
  clear q0 q1 q2 q3 q4 q5 ql
  have L_6b := Lib.hid (L_6.out.keep (new1 _ (.cells #[.string ⟨#[]⟩, .string ⟨#[]⟩, .int .i64 0, .int .i64 0, .int .i64 0, .int .i64 0] 26)))
  clear L_6
  have X4_6b := Lib.hid (X4_6.out.on (new1 _ (.cells #[.string ⟨#[]⟩, .string ⟨#[]⟩, .int .i64 0, .int .i64 0, .int .i64 0, .int .i64 0] 26)))
  clear X4_6
  have M_6b := Lib.hid (M_6.out.keep (new1 _ (.cells #[.string ⟨#[]⟩, .string ⟨#[]⟩, .int .i64 0, .int .i64 0, .int .i64 0, .int .i64 0] 26)))
  clear M_6
  have N_6b := Lib.hid (N_6.out.keep (new1 _ (.cells #[.string ⟨#[]⟩, .string ⟨#[]⟩, .int .i64 0, .int .i64 0, .int .i64 0, .int .i64 0] 26)))
  clear N_6
  have A9_6b := Lib.hid (A9_6.out.on (new1 _ (.cells #[.string ⟨#[]⟩, .string ⟨#[]⟩, .int .i64 0, .int .i64 0, .int .i64 0, .int .i64 0] 26)))
  clear A9_6
  have B6b := Lib.hid (then_ B6.out (new1 _ (.cells #[.string ⟨#[]⟩, .string ⟨#[]⟩, .int .i64 0, .int .i64 0, .int .i64 0, .int .i64 0] 26)))
  clear B6
  obtain ⟨q0, q1, q2, q3, q4, q5⟩ := X4_6b.out
  have ql := World.block_lt_of_cell? _ _ q0
  go_wp2_with fail
  refine (find_any A0 n0 c0 l0 x1.key _ L_6b.out (by omega)).mono ?_; rintro e w7 h
  rw [HW.out] at h
  obtain ⟨rfl, hb⟩ := h.none_
  clear h
  have S7 := Lib.hid (hb)
  have L_7 := Lib.hid (L_6b.out.keep S7.out)
  have X4_7 := Lib.hid (X4_6b.out.on S7.out)
  have M_7 := Lib.hid (M_6b.out.keep S7.out)
  have N_7 := Lib.hid (N_6b.out.keep S7.out)
  have A9_7 := Lib.hid (A9_6b.out.on S7.out)
  have B7 := Lib.hid (then_ B6b.out S7.out)
  clear hb S7 L_6b X4_6b M_6b N_6b A9_6b B6b
  clear q0 q1 q2 q3 q4 q5 ql
  have L_7b := Lib.hid (L_7.out.keep (new1 _ (.cells #[.string ⟨#[]⟩, .string ⟨#[]⟩, .int .i64 0, .int .i64 0, .int .i64 0, .int .i64 0] 26)))
  clear L_7
  have X4_7b := Lib.hid (X4_7.out.on (new1 _ (.cells #[.string ⟨#[]⟩, .string ⟨#[]⟩, .int .i64 0, .int .i64 0, .int .i64 0, .int .i64 0] 26)))
  clear X4_7
  have M_7b := Lib.hid (M_7.out.keep (new1 _ (.cells #[.string ⟨#[]⟩, .string ⟨#[]⟩, .int .i64 0, .int .i64 0, .int .i64 0, .int .i64 0] 26)))
  clear M_7
  have N_7b := Lib.hid (N_7.out.keep (new1 _ (.cells #[.string ⟨#[]⟩, .string ⟨#[]⟩, .int .i64 0, .int .i64 0, .int .i64 0, .int .i64 0] 26)))
  clear N_7
  have A9_7b := Lib.hid (A9_7.out.on (new1 _ (.cells #[.string ⟨#[]⟩, .string ⟨#[]⟩, .int .i64 0, .int .i64 0, .int .i64 0, .int .i64 0] 26)))
  clear A9_7
  have B7b := Lib.hid (then_ B7.out (new1 _ (.cells #[.string ⟨#[]⟩, .string ⟨#[]⟩, .int .i64 0, .int .i64 0, .int .i64 0, .int .i64 0] 26)))
  clear B7
  go_wp2_with fail
  refine (find_any A0 n0 c0 l0 x1.key _ L_7b.out (by omega)).mono ?_; rintro e w8 h
  rw [HW.out] at h
  obtain ⟨rfl, hb⟩ := h.none_
  clear h
  have S8 := Lib.hid (hb)
  have L_8 := Lib.hid (L_7b.out.keep S8.out)
  have X4_8 := Lib.hid (X4_7b.out.on S8.out)
  have M_8 := Lib.hid (M_7b.out.keep S8.out)
  have N_8 := Lib.hid (N_7b.out.keep S8.out)
  have A9_8 := Lib.hid (A9_7b.out.on S8.out)
  have B8 := Lib.hid (then_ B7b.out S8.out)
  clear hb S8 L_7b X4_7b M_7b N_7b A9_7b B7b
  have L_8b := Lib.hid (L_8.out.keep (new1 _ (.cells #[.string ⟨#[]⟩, .string ⟨#[]⟩, .int .i64 0, .int .i64 0, .int .i64 0, .int .i64 0] 26)))
  clear L_8
  have X4_8b := Lib.hid (X4_8.out.on (new1 _ (.cells #[.string ⟨#[]⟩, .string ⟨#[]⟩, .int .i64 0, .int .i64 0, .int .i64 0, .int .i64 0] 26)))
  clear X4_8
  have M_8b := Lib.hid (M_8.out.keep (new1 _ (.cells #[.string ⟨#[]⟩, .string ⟨#[]⟩, .int .i64 0, .int .i64 0, .int .i64 0, .int .i64 0] 26)))
  clear M_8
  have N_8b := Lib.hid (N_8.out.keep (new1 _ (.cells #[.string ⟨#[]⟩, .string ⟨#[]⟩, .int .i64 0, .int .i64 0, .int .i64 0, .int .i64 0] 26)))
  clear N_8
  have A9_8b := Lib.hid (A9_8.out.on (new1 _ (.cells #[.string ⟨#[]⟩, .string ⟨#[]⟩, .int .i64 0, .int .i64 0, .int .i64 0, .int .i64 0] 26)))
  clear A9_8
  have C_8b := Lib.hid (at6_new w8 zeroKV 26)
  have B8b := Lib.hid (then_ B8.out (new1 _ (.cells #[.string ⟨#[]⟩, .string ⟨#[]⟩, .int .i64 0, .int .i64 0, .int .i64 0, .int .i64 0] 26)))
  clear B8
  go_wp2_with fail
  refine (find_any A5 n5 c5 (layL l0 x1) x1.key _ M_8b.out (by omega)).mono ?_; rintro e w9 h
  rw [find_lay_same] at h
  obtain ⟨rfl, hb⟩ := h.some_
  clear h
  have S9 := Lib.hid (hb)
  have L_9 := Lib.hid (L_8b.out.keep S9.out)
  have X4_9 := Lib.hid (X4_8b.out.on S9.out)
  have M_9 := Lib.hid (M_8b.out.keep S9.out)
  have N_9 := Lib.hid (N_8b.out.keep S9.out)
  have A9_9 := Lib.hid (A9_8b.out.on S9.out)
  have C_9 := Lib.hid (C_8b.out.on S9.out)
  have B9 := Lib.hid (then_ B8b.out S9.out)
  clear hb S9 L_8b X4_8b M_8b N_8b A9_8b C_8b B8b
  have L_9b := Lib.hid (L_9.out.keep (new1 _ (x1.obj 26)))
  clear L_9
  have X4_9b := Lib.hid (X4_9.out.on (new1 _ (x1.obj 26)))
  clear X4_9
  have M_9b := Lib.hid (M_9.out.keep (new1 _ (x1.obj 26)))
  clear M_9
  have N_9b := Lib.hid (N_9.out.keep (new1 _ (x1.obj 26)))
  clear N_9
  have A9_9b := Lib.hid (A9_9.out.on (new1 _ (x1.obj 26)))
  clear A9_9
  have C_9b := Lib.hid (C_9.out.on (new1 _ (x1.obj 26)))
  clear C_9
  have E_9b := Lib.hid (at6_new w9 x1 26)
  have B9b := Lib.hid (then_ B9.out (new1 _ (x1.obj 26)))
  clear B9
  go_wp2_with fail
  refine (find_any A6 n6 c6 (takeL l0 x1.key) x1.key _ N_9b.out (by omega)).mono ?_; rintro e w10 h
  rw [find_take_same _ _ HR.out] at h
  obtain ⟨rfl, hb⟩ := h.none_
  clear h
  have S10 := Lib.hid (hb)
  have L_10 := Lib.hid (L_9b.out.keep S10.out)
  have X4_10 := Lib.hid (X4_9b.out.on S10.out)
  have M_10 := Lib.hid (M_9b.out.keep S10.out)
  have N_10 := Lib.hid (N_9b.out.keep S10.out)
  have A9_10 := Lib.hid (A9_9b.out.on S10.out)
  have C_10 := Lib.hid (C_9b.out.on S10.out)
  have E_10 := Lib.hid (E_9b.out.on S10.out)
  have B10 := Lib.hid (then_ B9b.out S10.out)
  clear hb S10 L_9b X4_9b M_9b N_9b A9_9b C_9b E_9b B9b
  have L_10b := Lib.hid (L_10.out.keep (new1 _ (.cells #[.string ⟨#[]⟩, .string ⟨#[]⟩, .int .i64 0, .int .i64 0, .int .i64 0, .int .i64 0] 26)))
  clear L_10
  have X4_10b := Lib.hid (X4_10.out.on (new1 _ (.cells #[.string ⟨#[]⟩, .string ⟨#[]⟩, .int .i64 0, .int .i64 0, .int .i64 0, .int .i64 0] 26)))
  clear X4_10
  have M_10b := Lib.hid (M_10.out.keep (new1 _ (.cells #[.string ⟨#[]⟩, .string ⟨#[]⟩, .int .i64 0, .int .i64 0, .int .i64 0, .int .i64 0] 26)))
  clear M_10
  have N_10b := Lib.hid (N_10.out.keep (new1 _ (.cells #[.string ⟨#[]⟩, .string ⟨#[]⟩, .int .i64 0, .int .i64 0, .int .i64 0, .int .i64 0] 26)))
  clear N_10
  have A9_10b := Lib.hid (A9_10.out.on (new1 _ (.cells #[.string ⟨#[]⟩, .string ⟨#[]⟩, .int .i64 0, .int .i64 0, .int .i64 0, .int .i64 0] 26)))
  clear A9_10
  have C_10b := Lib.hid (C_10.out.on (new1 _ (.cells #[.string ⟨#[]⟩, .string ⟨#[]⟩, .int .i64 0, .int .i64 0, .int .i64 0, .int .i64 0] 26)))
  clear C_10
  have E_10b := Lib.hid (E_10.out.on (new1 _ (.cells #[.string ⟨#[]⟩, .string ⟨#[]⟩, .int .i64 0, .int .i64 0, .int .i64 0, .int .i64 0] 26)))
  clear E_10
  have G_10b := Lib.hid (at6_new w10 zeroKV 26)
  have B10b := Lib.hid (then_ B10.out (new1 _ (.cells #[.string ⟨#[]⟩, .string ⟨#[]⟩, .int .i64 0, .int .i64 0, .int .i64 0, .int .i64 0] 26)))
  clear B10
  obtain ⟨q0, q1, q2, q3, q4, q5⟩ := X4_10b.out
  have ql := World.block_lt_of_cell? _ _ q0
  obtain ⟨r0, r1, r2, r3, r4, r5⟩ := A9_10b.out
  have rl := World.block_lt_of_cell? _ _ r0
  have hne9 := neq_same
  go_wp2_with fail
  refine (may_any A5 n5 c5 (layL l0 x1) _ M_10b.out (by omega)).mono ?_; rintro e w11 ⟨rfl, hb⟩
  rw [mayP_lay HM.out H1.out]
  have S11 := Lib.hid (hb)
  have L_11 := Lib.hid (L_10b.out.keep S11.out)
  have X4_11 := Lib.hid (X4_10b.out.on S11.out)
  have M_11 := Lib.hid (M_10b.out.keep S11.out)
  have N_11 := Lib.hid (N_10b.out.keep S11.out)
  have A9_11 := Lib.hid (A9_10b.out.on S11.out)
  have C_11 := Lib.hid (C_10b.out.on S11.out)
  have E_11 := Lib.hid (E_10b.out.on S11.out)
  have G_11 := Lib.hid (G_10b.out.on S11.out)
  have B11 := Lib.hid (then_ B10b.out S11.out)
  clear hb S11 L_10b X4_10b M_10b N_10b A9_10b C_10b E_10b G_10b B10b
  clear q0 q1 q2 q3 q4 q5 ql
  clear r0 r1 r2 r3 r4 r5 rl
  go_wp2_with fail
  refine (may_any A6 n6 c6 (takeL l0 x1.key) _ N_11.out (by omega)).mono ?_; rintro e w12 ⟨rfl, hb⟩
  rw [mayP_take HM.out]
  have S12 := Lib.hid (hb)
  have L_12 := Lib.hid (L_11.out.keep S12.out)
  have X4_12 := Lib.hid (X4_11.out.on S12.out)
  have M_12 := Lib.hid (M_11.out.keep S12.out)
  have N_12 := Lib.hid (N_11.out.keep S12.out)
  have A9_12 := Lib.hid (A9_11.out.on S12.out)
  have C_12 := Lib.hid (C_11.out.on S12.out)
  have E_12 := Lib.hid (E_11.out.on S12.out)
  have G_12 := Lib.hid (G_11.out.on S12.out)
  have B12 := Lib.hid (then_ B11.out S12.out)
  clear hb S12 L_11 X4_11 M_11 N_11 A9_11 C_11 E_11 G_11 B11
  obtain ⟨q0, q1, q2, q3, q4, q5⟩ := X4_12.out
  have ql := World.block_lt_of_cell? _ _ q0
  have e1 : ((n5 : Int) == (n0 : Int) + 1) = true := by have h1 := M.out.len; have h2 := HLM.out; have h3 := HL0.out; simp; omega
  have e2 : ((n6 : Int) == (n0 : Int)) = true := by have h1 := N.out.len; have h2 := HLN.out; have h3 := HL0.out; simp; omega
  go_wp2_with fail
  refine (live_any _).mono ?_; rintro e w13 ⟨rfl, hb⟩
  have S13 := Lib.hid (hb)
  have L_13 := Lib.hid (L_12.out.keep S13.out)
  have X4_13 := Lib.hid (X4_12.out.on S13.out)
  have M_13 := Lib.hid (M_12.out.keep S13.out)
  have N_13 := Lib.hid (N_12.out.keep S13.out)
  have A9_13 := Lib.hid (A9_12.out.on S13.out)
  have C_13 := Lib.hid (C_12.out.on S13.out)
  have E_13 := Lib.hid (E_12.out.on S13.out)
  have G_13 := Lib.hid (G_12.out.on S13.out)
  have B13 := Lib.hid (then_ B12.out S13.out)
  clear hb S13 L_12 X4_12 M_12 N_12 A9_12 C_12 E_12 G_12 B12
  go_wp2
  go_ret
  exact ⟨rfl, B13.out⟩

theorem walkSomeSome (w : World) (A0 : Option Addr) (n0 c0 : Nat) (l0 : List KV) (x1 : KV) (a2 : ByteArray) (k0 : KVs w A0 n0 c0 l0) (k1 : x1.ok) (hn : n0 ≤ 40) (hs1 : x1.key.size ≤ 60) (hs2 : x1.val.size ≤ 60) (hs3 : a2.size ≤ 60)
    (hf : fewB 40 l0 = true) (hm : mayP oneB l0 = true) (h1 : oneB x1 = true) (hr : rises l0 = true) (z : KV) (hw : findL l0 x1.key = some z) (y : KV) (hk : findL l0 a2 = some y) (hkx : teq x1.key a2 = false) (hne : teq a2 x1.key = false) :
    Calls Try.prog 5 #[.slice A0 n0 c0, x1.agg, .string a2] w fun e w' => e = .returned (.bool true) ∧ Below w.heap.size w w' := by
  have K := Lib.hid k0
  have X := Lib.hid k1
  have HR := Lib.hid hr
  have HW := Lib.hid hw
  have HM := Lib.hid hm
  have H1 := Lib.hid h1
  have HF := Lib.hid hf
  have HK := Lib.hid hk
  have HKX := Lib.hid hkx
  have hkb : (a2.toList == x1.key.toList) = false := hne
  have HL0 := Lib.hid k0.len
  have z2 : (a2.size : Int) ≤ 60 := by omega
  have hlm := len_lay l0 x1 hr
  have hln := len_take l0 x1.key
  rw [hw] at hlm hln
  simp only [Option.isSome_some, Option.isSome_none, if_true, Bool.false_eq_true, if_false, Nat.add_zero, Nat.sub_zero] at hlm hln
  have HLM := Lib.hid hlm
  have HLN := Lib.hid hln
  have hpos := Lib.hid (find_pos hw)
  clear k0 k1 hr hw hm h1 hf hlm hln hk hkx hne
  go_enter Try.func5, Try.ntmps5
  have L_0 := Lib.hid (K.out)
  have L_0b := Lib.hid (L_0.out.keep (new1 _ (x1.obj 26)))
  clear L_0
  have X4_0b := Lib.hid (at6_new w x1 26)
  have B0b := Lib.hid (new1 w (x1.obj 26))
  go_wp2_with fail
  refine (few_any A0 n0 c0 l0 40 _ L_0b.out (by omega)).mono ?_; rintro e w' ⟨rfl, rfl⟩
  rw [HF.out]
  go_wp2_with fail
  refine (may_any A0 n0 c0 l0 _ L_0b.out (by omega)).mono ?_; rintro e w1 ⟨rfl, hb⟩
  rw [HM.out]
  have S1 := Lib.hid (hb)
  have L_1 := Lib.hid (L_0b.out.keep S1.out)
  have X4_1 := Lib.hid (X4_0b.out.on S1.out)
  have B1 := Lib.hid (then_ B0b.out S1.out)
  clear hb S1 L_0b X4_0b B0b
  obtain ⟨q0, q1, q2, q3, q4, q5⟩ := X4_1.out
  have ql := World.block_lt_of_cell? _ _ q0
  go_wp2_with fail
  refine (one_any x1 _ X.out).mono ?_; rintro e w2 ⟨rfl, hb⟩
  rw [H1.out]
  have S2 := Lib.hid (hb)
  have L_2 := Lib.hid (L_1.out.keep S2.out)
  have X4_2 := Lib.hid (X4_1.out.on S2.out)
  have B2 := Lib.hid (then_ B1.out S2.out)
  clear hb S2 L_1 X4_1 B1
  clear q0 q1 q2 q3 q4 q5 ql
  obtain ⟨q0, q1, q2, q3, q4, q5⟩ := X4_2.out
  have ql := World.block_lt_of_cell? _ _ q0
  go_wp2_with fail
  refine (Lay_any A0 n0 c0 l0 x1 _ L_2.out X.out (by omega)).mono ?_; rintro e w3 ⟨A5, n5, c5, rfl, h, hb⟩
  have M := Lib.hid h
  clear h
  have S3 := Lib.hid (hb)
  have L_3 := Lib.hid (L_2.out.keep S3.out)
  have X4_3 := Lib.hid (X4_2.out.on S3.out)
  have B3 := Lib.hid (then_ B2.out S3.out)
  clear hb S3 L_2 X4_2 B2
  clear q0 q1 q2 q3 q4 q5 ql
  have M_3n := Lib.hid (M.out)
  obtain ⟨q0, q1, q2, q3, q4, q5⟩ := X4_3.out
  have ql := World.block_lt_of_cell? _ _ q0
  go_wp2_with fail
  refine (Take_any A0 n0 c0 l0 x1.key _ L_3.out (by omega)).mono ?_; rintro e w4 ⟨A6, n6, c6, rfl, h, hb⟩
  have N := Lib.hid h
  clear h
  have S4 := Lib.hid (hb)
  have L_4 := Lib.hid (L_3.out.keep S4.out)
  have X4_4 := Lib.hid (X4_3.out.on S4.out)
  have M_4 := Lib.hid (M_3n.out.keep S4.out)
  have B4 := Lib.hid (then_ B3.out S4.out)
  clear hb S4 L_3 X4_3 M_3n B3
  clear q0 q1 q2 q3 q4 q5 ql
  have N_4n := Lib.hid (N.out)
  have hn5 : n5 ≤ 1000 := by have h1 := M.out.len; have h2 := HLM.out; have h3 := HL0.out; omega
  have hn6 : n6 ≤ 1000 := by have h1 := N.out.len; have h2 := HLN.out; have h3 := HL0.out; omega
  obtain ⟨q0, q1, q2, q3, q4, q5⟩ := X4_4.out
  have ql := World.block_lt_of_cell? _ _ q0
  go_wp2_with fail
  refine (find_any A5 n5 c5 (layL l0 x1) x1.key _ M_4.out (by omega)).mono ?_; rintro e w5 h
  rw [find_lay_same] at h
  obtain ⟨rfl, hb⟩ := h.some_
  clear h
  have S5 := Lib.hid (hb)
  have L_5 := Lib.hid (L_4.out.keep S5.out)
  have X4_5 := Lib.hid (X4_4.out.on S5.out)
  have M_5 := Lib.hid (M_4.out.keep S5.out)
  have N_5 := Lib.hid (N_4n.out.keep S5.out)
  have B5 := Lib.hid (then_ B4.out S5.out)
  clear hb S5 L_4 X4_4 M_4 N_4n B4
  clear q0 q1 q2 q3 q4 q5 ql
  have L_5b := Lib.hid (L_5.out.keep (new1 _ (x1.obj 26)))
  clear L_5
  have X4_5b := Lib.hid (X4_5.out.on (new1 _ (x1.obj 26)))
  clear X4_5
  have M_5b := Lib.hid (M_5.out.keep (new1 _ (x1.obj 26)))
  clear M_5
  have N_5b := Lib.hid (N_5.out.keep (new1 _ (x1.obj 26)))
  clear N_5
  have A9_5b := Lib.hid (at6_new w5 x1 26)
  have B5b := Lib.hid (then_ B5.out (new1 _ (x1.obj 26)))
  clear B5
  obtain ⟨q0, q1, q2, q3, q4, q5⟩ := X4_5b.out
  have ql := World.block_lt_of_cell? _ _ q0
  go_wp2_with fail
  refine (find_any A6 n6 c6 (takeL l0 x1.key) x1.key _ N_5b.out (by omega)).mono ?_; rintro e w6 h
  rw [find_take_same _ _ HR.out] at h
  obtain ⟨rfl, hb⟩ := h.none_
  clear h
  have S6 := Lib.hid (hb)
  have L_6 := Lib.hid (L_5b.out.keep S6.out)
  have X4_6 := Lib.hid (X4_5b.out.on S6.out)
  have M_6 := Lib.hid (M_5b.out.keep S6.out)
  have N_6 := Lib.hid (N_5b.out.keep S6.out)
  have A9_6 := Lib.hid (A9_5b.out.on S6.out)
  have B6 := Lib.hid (then_ B5b.out S6.out)
  clear hb S6 L_5b X4_5b M_5b N_5b A9_5b B5b
  clear q0 q1 q2 q3 q4 q5 ql
  have L_6b := Lib.hid (L_6.out.keep (new1 _ (.cells #[.string ⟨#[]⟩, .string ⟨#[]⟩, .int .i64 0, .int .i64 0, .int .i64 0, .int .i64 0] 26)))
  clear L_6
  have X4_6b := Lib.hid (X4_6.out.on (new1 _ (.cells #[.string ⟨#[]⟩, .string ⟨#[]⟩, .int .i64 0, .int .i64 0, .int .i64 0, .int .i64 0] 26)))
  clear X4_6
  have M_6b := Lib.hid (M_6.out.keep (new1 _ (.cells #[.string ⟨#[]⟩, .string ⟨#[]⟩, .int .i64 0, .int .i64 0, .int .i64 0, .int .i64 0] 26)))
  clear M_6
  have N_6b := Lib.hid (N_6.out.keep (new1 _ (.cells #[.string ⟨#[]⟩, .string ⟨#[]⟩, .int .i64 0, .int .i64 0, .int .i64 0, .int .i64 0] 26)))
  clear N_6
  have A9_6b := Lib.hid (A9_6.out.on (new1 _ (.cells #[.string ⟨#[]⟩, .string ⟨#[]⟩, .int .i64 0, .int .i64 0, .int .i64 0, .int .i64 0] 26)))
  clear A9_6
  have B6b := Lib.hid (then_ B6.out (new1 _ (.cells #[.string ⟨#[]⟩, .string ⟨#[]⟩, .int .i64 0, .int .i64 0, .int .i64 0, .int .i64 0] 26)))
  clear B6
  obtain ⟨q0, q1, q2, q3, q4, q5⟩ := X4_6b.out
  have ql := World.block_lt_of_cell? _ _ q0
  go_wp2_with fail
  refine (find_any A0 n0 c0 l0 x1.key _ L_6b.out (by omega)).mono ?_; rintro e w7 h
  rw [HW.out] at h
  obtain ⟨rfl, hb⟩ := h.some_
  clear h
  have S7 := Lib.hid (hb)
  have L_7 := Lib.hid (L_6b.out.keep S7.out)
  have X4_7 := Lib.hid (X4_6b.out.on S7.out)
  have M_7 := Lib.hid (M_6b.out.keep S7.out)
  have N_7 := Lib.hid (N_6b.out.keep S7.out)
  have A9_7 := Lib.hid (A9_6b.out.on S7.out)
  have B7 := Lib.hid (then_ B6b.out S7.out)
  clear hb S7 L_6b X4_6b M_6b N_6b A9_6b B6b
  clear q0 q1 q2 q3 q4 q5 ql
  have L_7b := Lib.hid (L_7.out.keep (new1 _ (z.obj 26)))
  clear L_7
  have X4_7b := Lib.hid (X4_7.out.on (new1 _ (z.obj 26)))
  clear X4_7
  have M_7b := Lib.hid (M_7.out.keep (new1 _ (z.obj 26)))
  clear M_7
  have N_7b := Lib.hid (N_7.out.keep (new1 _ (z.obj 26)))
  clear N_7
  have A9_7b := Lib.hid (A9_7.out.on (new1 _ (z.obj 26)))
  clear A9_7
  have B7b := Lib.hid (then_ B7.out (new1 _ (z.obj 26)))
  clear B7
  go_wp2_with fail
  refine (find_any A0 n0 c0 l0 a2 _ L_7b.out (by omega)).mono ?_; rintro e w8 h
  rw [HK.out] at h
  obtain ⟨rfl, hb⟩ := h.some_
  clear h
  have S8 := Lib.hid (hb)
  have L_8 := Lib.hid (L_7b.out.keep S8.out)
  have X4_8 := Lib.hid (X4_7b.out.on S8.out)
  have M_8 := Lib.hid (M_7b.out.keep S8.out)
  have N_8 := Lib.hid (N_7b.out.keep S8.out)
  have A9_8 := Lib.hid (A9_7b.out.on S8.out)
  have B8 := Lib.hid (then_ B7b.out S8.out)
  clear hb S8 L_7b X4_7b M_7b N_7b A9_7b B7b
  have L_8b := Lib.hid (L_8.out.keep (new1 _ (y.obj 26)))
  clear L_8
  have X4_8b := Lib.hid (X4_8.out.on (new1 _ (y.obj 26)))
  clear X4_8
  have M_8b := Lib.hid (M_8.out.keep (new1 _ (y.obj 26)))
  clear M_8
  have N_8b := Lib.hid (N_8.out.keep (new1 _ (y.obj 26)))
  clear N_8
  have A9_8b := Lib.hid (A9_8.out.on (new1 _ (y.obj 26)))
  clear A9_8
  have C_8b := Lib.hid (at6_new w8 y 26)
  have B8b := Lib.hid (then_ B8.out (new1 _ (y.obj 26)))
  clear B8
  go_wp2_with fail
  refine (find_any A5 n5 c5 (layL l0 x1) a2 _ M_8b.out (by omega)).mono ?_; rintro e w9 h
  rw [find_lay_other _ _ _ HKX.out, HK.out] at h
  obtain ⟨rfl, hb⟩ := h.some_
  clear h
  have S9 := Lib.hid (hb)
  have L_9 := Lib.hid (L_8b.out.keep S9.out)
  have X4_9 := Lib.hid (X4_8b.out.on S9.out)
  have M_9 := Lib.hid (M_8b.out.keep S9.out)
  have N_9 := Lib.hid (N_8b.out.keep S9.out)
  have A9_9 := Lib.hid (A9_8b.out.on S9.out)
  have C_9 := Lib.hid (C_8b.out.on S9.out)
  have B9 := Lib.hid (then_ B8b.out S9.out)
  clear hb S9 L_8b X4_8b M_8b N_8b A9_8b C_8b B8b
  have L_9b := Lib.hid (L_9.out.keep (new1 _ (y.obj 26)))
  clear L_9
  have X4_9b := Lib.hid (X4_9.out.on (new1 _ (y.obj 26)))
  clear X4_9
  have M_9b := Lib.hid (M_9.out.keep (new1 _ (y.obj 26)))
  clear M_9
  have N_9b := Lib.hid (N_9.out.keep (new1 _ (y.obj 26)))
  clear N_9
  have A9_9b := Lib.hid (A9_9.out.on (new1 _ (y.obj 26)))
  clear A9_9
  have C_9b := Lib.hid (C_9.out.on (new1 _ (y.obj 26)))
  clear C_9
  have E_9b := Lib.hid (at6_new w9 y 26)
  have B9b := Lib.hid (then_ B9.out (new1 _ (y.obj 26)))
  clear B9
  go_wp2_with fail
  refine (find_any A6 n6 c6 (takeL l0 x1.key) a2 _ N_9b.out (by omega)).mono ?_; rintro e w10 h
  rw [find_take_other _ _ _ HKX.out, HK.out] at h
  obtain ⟨rfl, hb⟩ := h.some_
  clear h
  have S10 := Lib.hid (hb)
  have L_10 := Lib.hid (L_9b.out.keep S10.out)
  have X4_10 := Lib.hid (X4_9b.out.on S10.out)
  have M_10 := Lib.hid (M_9b.out.keep S10.out)
  have N_10 := Lib.hid (N_9b.out.keep S10.out)
  have A9_10 := Lib.hid (A9_9b.out.on S10.out)
  have C_10 := Lib.hid (C_9b.out.on S10.out)
  have E_10 := Lib.hid (E_9b.out.on S10.out)
  have B10 := Lib.hid (then_ B9b.out S10.out)
  clear hb S10 L_9b X4_9b M_9b N_9b A9_9b C_9b E_9b B9b
  have L_10b := Lib.hid (L_10.out.keep (new1 _ (y.obj 26)))
  clear L_10
  have X4_10b := Lib.hid (X4_10.out.on (new1 _ (y.obj 26)))
  clear X4_10
  have M_10b := Lib.hid (M_10.out.keep (new1 _ (y.obj 26)))
  clear M_10
  have N_10b := Lib.hid (N_10.out.keep (new1 _ (y.obj 26)))
  clear N_10
  have A9_10b := Lib.hid (A9_10.out.on (new1 _ (y.obj 26)))
  clear A9_10
  have C_10b := Lib.hid (C_10.out.on (new1 _ (y.obj 26)))
  clear C_10
  have E_10b := Lib.hid (E_10.out.on (new1 _ (y.obj 26)))
  clear E_10
  have G_10b := Lib.hid (at6_new w10 y 26)
  have B10b := Lib.hid (then_ B10.out (new1 _ (y.obj 26)))
  clear B10
  obtain ⟨q0, q1, q2, q3, q4, q5⟩ := X4_10b.out
  have ql := World.block_lt_of_cell? _ _ q0
  obtain ⟨r0, r1, r2, r3, r4, r5⟩ := A9_10b.out
  have rl := World.block_lt_of_cell? _ _ r0
  have hne9 := neq_same
  go_wp2_with fail
  refine (may_any A5 n5 c5 (layL l0 x1) _ M_10b.out (by omega)).mono ?_; rintro e w11 ⟨rfl, hb⟩
  rw [mayP_lay HM.out H1.out]
  have S11 := Lib.hid (hb)
  have L_11 := Lib.hid (L_10b.out.keep S11.out)
  have X4_11 := Lib.hid (X4_10b.out.on S11.out)
  have M_11 := Lib.hid (M_10b.out.keep S11.out)
  have N_11 := Lib.hid (N_10b.out.keep S11.out)
  have A9_11 := Lib.hid (A9_10b.out.on S11.out)
  have C_11 := Lib.hid (C_10b.out.on S11.out)
  have E_11 := Lib.hid (E_10b.out.on S11.out)
  have G_11 := Lib.hid (G_10b.out.on S11.out)
  have B11 := Lib.hid (then_ B10b.out S11.out)
  clear hb S11 L_10b X4_10b M_10b N_10b A9_10b C_10b E_10b G_10b B10b
  clear q0 q1 q2 q3 q4 q5 ql
  clear r0 r1 r2 r3 r4 r5 rl
  go_wp2_with fail
  refine (may_any A6 n6 c6 (takeL l0 x1.key) _ N_11.out (by omega)).mono ?_; rintro e w12 ⟨rfl, hb⟩
  rw [mayP_take HM.out]
  have S12 := Lib.hid (hb)
  have L_12 := Lib.hid (L_11.out.keep S12.out)
  have X4_12 := Lib.hid (X4_11.out.on S12.out)
  have M_12 := Lib.hid (M_11.out.keep S12.out)
  have N_12 := Lib.hid (N_11.out.keep S12.out)
  have A9_12 := Lib.hid (A9_11.out.on S12.out)
  have C_12 := Lib.hid (C_11.out.on S12.out)
  have E_12 := Lib.hid (E_11.out.on S12.out)
  have G_12 := Lib.hid (G_11.out.on S12.out)
  have B12 := Lib.hid (then_ B11.out S12.out)
  clear hb S12 L_11 X4_11 M_11 N_11 A9_11 C_11 E_11 G_11 B11
  obtain ⟨q0, q1, q2, q3, q4, q5⟩ := X4_12.out
  have ql := World.block_lt_of_cell? _ _ q0
  obtain ⟨r0, r1, r2, r3, r4, r5⟩ := C_12.out
  have rl := World.block_lt_of_cell? _ _ r0
  obtain ⟨s0, s1, s2, s3, s4, s5⟩ := E_12.out
  have sl := World.block_lt_of_cell? _ _ s0
  obtain ⟨t0, t1, t2, t3, t4, t5⟩ := G_12.out
  have tl := World.block_lt_of_cell? _ _ t0
  have e1 : ((n5 : Int) == (n0 : Int)) = true := by have h1 := M.out.len; have h2 := HLM.out; have h3 := HL0.out; simp; omega
  have e2 : ((n6 : Int) == (n0 : Int) - 1) = true := by have h1 := N.out.len; have h2 := HLN.out; have h3 := HL0.out; have h4 := hpos.out; simp; omega
  go_wp2_with fail
  refine (live_any _).mono ?_; rintro e w13 ⟨rfl, hb⟩
  have S13 := Lib.hid (hb)
  have L_13 := Lib.hid (L_12.out.keep S13.out)
  have X4_13 := Lib.hid (X4_12.out.on S13.out)
  have M_13 := Lib.hid (M_12.out.keep S13.out)
  have N_13 := Lib.hid (N_12.out.keep S13.out)
  have A9_13 := Lib.hid (A9_12.out.on S13.out)
  have C_13 := Lib.hid (C_12.out.on S13.out)
  have E_13 := Lib.hid (E_12.out.on S13.out)
  have G_13 := Lib.hid (G_12.out.on S13.out)
  have B13 := Lib.hid (then_ B12.out S13.out)
  clear hb S13 L_12 X4_12 M_12 N_12 A9_12 C_12 E_12 G_12 B12
  go_wp2
  go_ret
  exact ⟨rfl, B13.out⟩

theorem walkSomeNone (w : World) (A0 : Option Addr) (n0 c0 : Nat) (l0 : List KV) (x1 : KV) (a2 : ByteArray) (k0 : KVs w A0 n0 c0 l0) (k1 : x1.ok) (hn : n0 ≤ 40) (hs1 : x1.key.size ≤ 60) (hs2 : x1.val.size ≤ 60) (hs3 : a2.size ≤ 60)
    (hf : fewB 40 l0 = true) (hm : mayP oneB l0 = true) (h1 : oneB x1 = true) (hr : rises l0 = true) (z : KV) (hw : findL l0 x1.key = some z) (hk : findL l0 a2 = none) (hkx : teq x1.key a2 = false) (hne : teq a2 x1.key = false) :
    Calls Try.prog 5 #[.slice A0 n0 c0, x1.agg, .string a2] w fun e w' => e = .returned (.bool true) ∧ Below w.heap.size w w' := by
  have K := Lib.hid k0
  have X := Lib.hid k1
  have HR := Lib.hid hr
  have HW := Lib.hid hw
  have HM := Lib.hid hm
  have H1 := Lib.hid h1
  have HF := Lib.hid hf
  have HK := Lib.hid hk
  have HKX := Lib.hid hkx
  have hkb : (a2.toList == x1.key.toList) = false := hne
  have HL0 := Lib.hid k0.len
  have z2 : (a2.size : Int) ≤ 60 := by omega
  have hlm := len_lay l0 x1 hr
  have hln := len_take l0 x1.key
  rw [hw] at hlm hln
  simp only [Option.isSome_some, Option.isSome_none, if_true, Bool.false_eq_true, if_false, Nat.add_zero, Nat.sub_zero] at hlm hln
  have HLM := Lib.hid hlm
  have HLN := Lib.hid hln
  have hpos := Lib.hid (find_pos hw)
  clear k0 k1 hr hw hm h1 hf hlm hln hk hkx hne
  go_enter Try.func5, Try.ntmps5
  have L_0 := Lib.hid (K.out)
  have L_0b := Lib.hid (L_0.out.keep (new1 _ (x1.obj 26)))
  clear L_0
  have X4_0b := Lib.hid (at6_new w x1 26)
  have B0b := Lib.hid (new1 w (x1.obj 26))
  go_wp2_with fail
  refine (few_any A0 n0 c0 l0 40 _ L_0b.out (by omega)).mono ?_; rintro e w' ⟨rfl, rfl⟩
  rw [HF.out]
  go_wp2_with fail
  refine (may_any A0 n0 c0 l0 _ L_0b.out (by omega)).mono ?_; rintro e w1 ⟨rfl, hb⟩
  rw [HM.out]
  have S1 := Lib.hid (hb)
  have L_1 := Lib.hid (L_0b.out.keep S1.out)
  have X4_1 := Lib.hid (X4_0b.out.on S1.out)
  have B1 := Lib.hid (then_ B0b.out S1.out)
  clear hb S1 L_0b X4_0b B0b
  obtain ⟨q0, q1, q2, q3, q4, q5⟩ := X4_1.out
  have ql := World.block_lt_of_cell? _ _ q0
  go_wp2_with fail
  refine (one_any x1 _ X.out).mono ?_; rintro e w2 ⟨rfl, hb⟩
  rw [H1.out]
  have S2 := Lib.hid (hb)
  have L_2 := Lib.hid (L_1.out.keep S2.out)
  have X4_2 := Lib.hid (X4_1.out.on S2.out)
  have B2 := Lib.hid (then_ B1.out S2.out)
  clear hb S2 L_1 X4_1 B1
  clear q0 q1 q2 q3 q4 q5 ql
  obtain ⟨q0, q1, q2, q3, q4, q5⟩ := X4_2.out
  have ql := World.block_lt_of_cell? _ _ q0
  go_wp2_with fail
  refine (Lay_any A0 n0 c0 l0 x1 _ L_2.out X.out (by omega)).mono ?_; rintro e w3 ⟨A5, n5, c5, rfl, h, hb⟩
  have M := Lib.hid h
  clear h
  have S3 := Lib.hid (hb)
  have L_3 := Lib.hid (L_2.out.keep S3.out)
  have X4_3 := Lib.hid (X4_2.out.on S3.out)
  have B3 := Lib.hid (then_ B2.out S3.out)
  clear hb S3 L_2 X4_2 B2
  clear q0 q1 q2 q3 q4 q5 ql
  have M_3n := Lib.hid (M.out)
  obtain ⟨q0, q1, q2, q3, q4, q5⟩ := X4_3.out
  have ql := World.block_lt_of_cell? _ _ q0
  go_wp2_with fail
  refine (Take_any A0 n0 c0 l0 x1.key _ L_3.out (by omega)).mono ?_; rintro e w4 ⟨A6, n6, c6, rfl, h, hb⟩
  have N := Lib.hid h
  clear h
  have S4 := Lib.hid (hb)
  have L_4 := Lib.hid (L_3.out.keep S4.out)
  have X4_4 := Lib.hid (X4_3.out.on S4.out)
  have M_4 := Lib.hid (M_3n.out.keep S4.out)
  have B4 := Lib.hid (then_ B3.out S4.out)
  clear hb S4 L_3 X4_3 M_3n B3
  clear q0 q1 q2 q3 q4 q5 ql
  have N_4n := Lib.hid (N.out)
  have hn5 : n5 ≤ 1000 := by have h1 := M.out.len; have h2 := HLM.out; have h3 := HL0.out; omega
  have hn6 : n6 ≤ 1000 := by have h1 := N.out.len; have h2 := HLN.out; have h3 := HL0.out; omega
  obtain ⟨q0, q1, q2, q3, q4, q5⟩ := X4_4.out
  have ql := World.block_lt_of_cell? _ _ q0
  go_wp2_with fail
  refine (find_any A5 n5 c5 (layL l0 x1) x1.key _ M_4.out (by omega)).mono ?_; rintro e w5 h
  rw [find_lay_same] at h
  obtain ⟨rfl, hb⟩ := h.some_
  clear h
  have S5 := Lib.hid (hb)
  have L_5 := Lib.hid (L_4.out.keep S5.out)
  have X4_5 := Lib.hid (X4_4.out.on S5.out)
  have M_5 := Lib.hid (M_4.out.keep S5.out)
  have N_5 := Lib.hid (N_4n.out.keep S5.out)
  have B5 := Lib.hid (then_ B4.out S5.out)
  clear hb S5 L_4 X4_4 M_4 N_4n B4
  clear q0 q1 q2 q3 q4 q5 ql
  have L_5b := Lib.hid (L_5.out.keep (new1 _ (x1.obj 26)))
  clear L_5
  have X4_5b := Lib.hid (X4_5.out.on (new1 _ (x1.obj 26)))
  clear X4_5
  have M_5b := Lib.hid (M_5.out.keep (new1 _ (x1.obj 26)))
  clear M_5
  have N_5b := Lib.hid (N_5.out.keep (new1 _ (x1.obj 26)))
  clear N_5
  have A9_5b := Lib.hid (at6_new w5 x1 26)
  have B5b := Lib.hid (then_ B5.out (new1 _ (x1.obj 26)))
  clear B5
  obtain ⟨q0, q1, q2, q3, q4, q5⟩ := X4_5b.out
  have ql := World.block_lt_of_cell? _ _ q0
  go_wp2_with fail
  refine (find_any A6 n6 c6 (takeL l0 x1.key) x1.key _ N_5b.out (by omega)).mono ?_; rintro e w6 h
  rw [find_take_same _ _ HR.out] at h
  obtain ⟨rfl, hb⟩ := h.none_
  clear h
  have S6 := Lib.hid (hb)
  have L_6 := Lib.hid (L_5b.out.keep S6.out)
  have X4_6 := Lib.hid (X4_5b.out.on S6.out)
  have M_6 := Lib.hid (M_5b.out.keep S6.out)
  have N_6 := Lib.hid (N_5b.out.keep S6.out)
  have A9_6 := Lib.hid (A9_5b.out.on S6.out)
  have B6 := Lib.hid (then_ B5b.out S6.out)
  clear hb S6 L_5b X4_5b M_5b N_5b A9_5b B5b
  clear q0 q1 q2 q3 q4 q5 ql
  have L_6b := Lib.hid (L_6.out.keep (new1 _ (.cells #[.string ⟨#[]⟩, .string ⟨#[]⟩, .int .i64 0, .int .i64 0, .int .i64 0, .int .i64 0] 26)))
  clear L_6
  have X4_6b := Lib.hid (X4_6.out.on (new1 _ (.cells #[.string ⟨#[]⟩, .string ⟨#[]⟩, .int .i64 0, .int .i64 0, .int .i64 0, .int .i64 0] 26)))
  clear X4_6
  have M_6b := Lib.hid (M_6.out.keep (new1 _ (.cells #[.string ⟨#[]⟩, .string ⟨#[]⟩, .int .i64 0, .int .i64 0, .int .i64 0, .int .i64 0] 26)))
  clear M_6
  have N_6b := Lib.hid (N_6.out.keep (new1 _ (.cells #[.string ⟨#[]⟩, .string ⟨#[]⟩, .int .i64 0, .int .i64 0, .int .i64 0, .int .i64 0] 26)))
  clear N_6
  have A9_6b := Lib.hid (A9_6.out.on (new1 _ (.cells #[.string ⟨#[]⟩, .string ⟨#[]⟩, .int .i64 0, .int .i64 0, .int .i64 0, .int .i64 0] 26)))
  clear A9_6
  have B6b := Lib.hid (then_ B6.out (new1 _ (.cells #[.string ⟨#[]⟩, .string ⟨#[]⟩, .int .i64 0, .int .i64 0, .int .i64 0, .int .i64 0] 26)))
  clear B6
  obtain ⟨q0, q1, q2, q3, q4, q5⟩ := X4_6b.out
  have ql := World.block_lt_of_cell? _ _ q0
  go_wp2_with fail
  refine (find_any A0 n0 c0 l0 x1.key _ L_6b.out (by omega)).mono ?_; rintro e w7 h
  rw [HW.out] at h
  obtain ⟨rfl, hb⟩ := h.some_
  clear h
  have S7 := Lib.hid (hb)
  have L_7 := Lib.hid (L_6b.out.keep S7.out)
  have X4_7 := Lib.hid (X4_6b.out.on S7.out)
  have M_7 := Lib.hid (M_6b.out.keep S7.out)
  have N_7 := Lib.hid (N_6b.out.keep S7.out)
  have A9_7 := Lib.hid (A9_6b.out.on S7.out)
  have B7 := Lib.hid (then_ B6b.out S7.out)
  clear hb S7 L_6b X4_6b M_6b N_6b A9_6b B6b
  clear q0 q1 q2 q3 q4 q5 ql
  have L_7b := Lib.hid (L_7.out.keep (new1 _ (z.obj 26)))
  clear L_7
  have X4_7b := Lib.hid (X4_7.out.on (new1 _ (z.obj 26)))
  clear X4_7
  have M_7b := Lib.hid (M_7.out.keep (new1 _ (z.obj 26)))
  clear M_7
  have N_7b := Lib.hid (N_7.out.keep (new1 _ (z.obj 26)))
  clear N_7
  have A9_7b := Lib.hid (A9_7.out.on (new1 _ (z.obj 26)))
  clear A9_7
  have B7b := Lib.hid (then_ B7.out (new1 _ (z.obj 26)))
  clear B7
  go_wp2_with fail
  refine (find_any A0 n0 c0 l0 a2 _ L_7b.out (by omega)).mono ?_; rintro e w8 h
  rw [HK.out] at h
  obtain ⟨rfl, hb⟩ := h.none_
  clear h
  have S8 := Lib.hid (hb)
  have L_8 := Lib.hid (L_7b.out.keep S8.out)
  have X4_8 := Lib.hid (X4_7b.out.on S8.out)
  have M_8 := Lib.hid (M_7b.out.keep S8.out)
  have N_8 := Lib.hid (N_7b.out.keep S8.out)
  have A9_8 := Lib.hid (A9_7b.out.on S8.out)
  have B8 := Lib.hid (then_ B7b.out S8.out)
  clear hb S8 L_7b X4_7b M_7b N_7b A9_7b B7b
  have L_8b := Lib.hid (L_8.out.keep (new1 _ (.cells #[.string ⟨#[]⟩, .string ⟨#[]⟩, .int .i64 0, .int .i64 0, .int .i64 0, .int .i64 0] 26)))
  clear L_8
  have X4_8b := Lib.hid (X4_8.out.on (new1 _ (.cells #[.string ⟨#[]⟩, .string ⟨#[]⟩, .int .i64 0, .int .i64 0, .int .i64 0, .int .i64 0] 26)))
  clear X4_8
  have M_8b := Lib.hid (M_8.out.keep (new1 _ (.cells #[.string ⟨#[]⟩, .string ⟨#[]⟩, .int .i64 0, .int .i64 0, .int .i64 0, .int .i64 0] 26)))
  clear M_8
  have N_8b := Lib.hid (N_8.out.keep (new1 _ (.cells #[.string ⟨#[]⟩, .string ⟨#[]⟩, .int .i64 0, .int .i64 0, .int .i64 0, .int .i64 0] 26)))
  clear N_8
  have A9_8b := Lib.hid (A9_8.out.on (new1 _ (.cells #[.string ⟨#[]⟩, .string ⟨#[]⟩, .int .i64 0, .int .i64 0, .int .i64 0, .int .i64 0] 26)))
  clear A9_8
  have C_8b := Lib.hid (at6_new w8 zeroKV 26)
  have B8b := Lib.hid (then_ B8.out (new1 _ (.cells #[.string ⟨#[]⟩, .string ⟨#[]⟩, .int .i64 0, .int .i64 0, .int .i64 0, .int .i64 0] 26)))
  clear B8
  go_wp2_with fail
  refine (find_any A5 n5 c5 (layL l0 x1) a2 _ M_8b.out (by omega)).mono ?_; rintro e w9 h
  rw [find_lay_other _ _ _ HKX.out, HK.out] at h
  obtain ⟨rfl, hb⟩ := h.none_
  clear h
  have S9 := Lib.hid (hb)
  have L_9 := Lib.hid (L_8b.out.keep S9.out)
  have X4_9 := Lib.hid (X4_8b.out.on S9.out)
  have M_9 := Lib.hid (M_8b.out.keep S9.out)
  have N_9 := Lib.hid (N_8b.out.keep S9.out)
  have A9_9 := Lib.hid (A9_8b.out.on S9.out)
  have C_9 := Lib.hid (C_8b.out.on S9.out)
  have B9 := Lib.hid (then_ B8b.out S9.out)
  clear hb S9 L_8b X4_8b M_8b N_8b A9_8b C_8b B8b
  have L_9b := Lib.hid (L_9.out.keep (new1 _ (.cells #[.string ⟨#[]⟩, .string ⟨#[]⟩, .int .i64 0, .int .i64 0, .int .i64 0, .int .i64 0] 26)))
  clear L_9
  have X4_9b := Lib.hid (X4_9.out.on (new1 _ (.cells #[.string ⟨#[]⟩, .string ⟨#[]⟩, .int .i64 0, .int .i64 0, .int .i64 0, .int .i64 0] 26)))
  clear X4_9
  have M_9b := Lib.hid (M_9.out.keep (new1 _ (.cells #[.string ⟨#[]⟩, .string ⟨#[]⟩, .int .i64 0, .int .i64 0, .int .i64 0, .int .i64 0] 26)))
  clear M_9
  have N_9b := Lib.hid (N_9.out.keep (new1 _ (.cells #[.string ⟨#[]⟩, .string ⟨#[]⟩, .int .i64 0, .int .i64 0, .int .i64 0, .int .i64 0] 26)))
  clear N_9
  have A9_9b := Lib.hid (A9_9.out.on (new1 _ (.cells #[.string ⟨#[]⟩, .string ⟨#[]⟩, .int .i64 0, .int .i64 0, .int .i64 0, .int .i64 0] 26)))
  clear A9_9
  have C_9b := Lib.hid (C_9.out.on (new1 _ (.cells #[.string ⟨#[]⟩, .string ⟨#[]⟩, .int .i64 0, .int .i64 0, .int .i64 0, .int .i64 0] 26)))
  clear C_9
  have E_9b := Lib.hid (at6_new w9 zeroKV 26)
  have B9b := Lib.hid (then_ B9.out (new1 _ (.cells #[.string ⟨#[]⟩, .string ⟨#[]⟩, .int .i64 0, .int .i64 0, .int .i64 0, .int .i64 0] 26)))
  clear B9
  go_wp2_with fail
  refine (find_any A6 n6 c6 (takeL l0 x1.key) a2 _ N_9b.out (by omega)).mono ?_; rintro e w10 h
  rw [find_take_other _ _ _ HKX.out, HK.out] at h
  obtain ⟨rfl, hb⟩ := h.none_
  clear h
  have S10 := Lib.hid (hb)
  have L_10 := Lib.hid (L_9b.out.keep S10.out)
  have X4_10 := Lib.hid (X4_9b.out.on S10.out)
  have M_10 := Lib.hid (M_9b.out.keep S10.out)
  have N_10 := Lib.hid (N_9b.out.keep S10.out)
  have A9_10 := Lib.hid (A9_9b.out.on S10.out)
  have C_10 := Lib.hid (C_9b.out.on S10.out)
  have E_10 := Lib.hid (E_9b.out.on S10.out)
  have B10 := Lib.hid (then_ B9b.out S10.out)
  clear hb S10 L_9b X4_9b M_9b N_9b A9_9b C_9b E_9b B9b
  have L_10b := Lib.hid (L_10.out.keep (new1 _ (.cells #[.string ⟨#[]⟩, .string ⟨#[]⟩, .int .i64 0, .int .i64 0, .int .i64 0, .int .i64 0] 26)))
  clear L_10
  have X4_10b := Lib.hid (X4_10.out.on (new1 _ (.cells #[.string ⟨#[]⟩, .string ⟨#[]⟩, .int .i64 0, .int .i64 0, .int .i64 0, .int .i64 0] 26)))
  clear X4_10
  have M_10b := Lib.hid (M_10.out.keep (new1 _ (.cells #[.string ⟨#[]⟩, .string ⟨#[]⟩, .int .i64 0, .int .i64 0, .int .i64 0, .int .i64 0] 26)))
  clear M_10
  have N_10b := Lib.hid (N_10.out.keep (new1 _ (.cells #[.string ⟨#[]⟩, .string ⟨#[]⟩, .int .i64 0, .int .i64 0, .int .i64 0, .int .i64 0] 26)))
  clear N_10
  have A9_10b := Lib.hid (A9_10.out.on (new1 _ (.cells #[.string ⟨#[]⟩, .string ⟨#[]⟩, .int .i64 0, .int .i64 0, .int .i64 0, .int .i64 0] 26)))
  clear A9_10
  have C_10b := Lib.hid (C_10.out.on (new1 _ (.cells #[.string ⟨#[]⟩, .string ⟨#[]⟩, .int .i64 0, .int .i64 0, .int .i64 0, .int .i64 0] 26)))
  clear C_10
  have E_10b := Lib.hid (E_10.out.on (new1 _ (.cells #[.string ⟨#[]⟩, .string ⟨#[]⟩, .int .i64 0, .int .i64 0, .int .i64 0, .int .i64 0] 26)))
  clear E_10
  have G_10b := Lib.hid (at6_new w10 zeroKV 26)
  have B10b := Lib.hid (then_ B10.out (new1 _ (.cells #[.string ⟨#[]⟩, .string ⟨#[]⟩, .int .i64 0, .int .i64 0, .int .i64 0, .int .i64 0] 26)))
  clear B10
  obtain ⟨q0, q1, q2, q3, q4, q5⟩ := X4_10b.out
  have ql := World.block_lt_of_cell? _ _ q0
  obtain ⟨r0, r1, r2, r3, r4, r5⟩ := A9_10b.out
  have rl := World.block_lt_of_cell? _ _ r0
  have hne9 := neq_same
  go_wp2_with fail
  refine (may_any A5 n5 c5 (layL l0 x1) _ M_10b.out (by omega)).mono ?_; rintro e w11 ⟨rfl, hb⟩
  rw [mayP_lay HM.out H1.out]
  have S11 := Lib.hid (hb)
  have L_11 := Lib.hid (L_10b.out.keep S11.out)
  have X4_11 := Lib.hid (X4_10b.out.on S11.out)
  have M_11 := Lib.hid (M_10b.out.keep S11.out)
  have N_11 := Lib.hid (N_10b.out.keep S11.out)
  have A9_11 := Lib.hid (A9_10b.out.on S11.out)
  have C_11 := Lib.hid (C_10b.out.on S11.out)
  have E_11 := Lib.hid (E_10b.out.on S11.out)
  have G_11 := Lib.hid (G_10b.out.on S11.out)
  have B11 := Lib.hid (then_ B10b.out S11.out)
  clear hb S11 L_10b X4_10b M_10b N_10b A9_10b C_10b E_10b G_10b B10b
  clear q0 q1 q2 q3 q4 q5 ql
  clear r0 r1 r2 r3 r4 r5 rl
  go_wp2_with fail
  refine (may_any A6 n6 c6 (takeL l0 x1.key) _ N_11.out (by omega)).mono ?_; rintro e w12 ⟨rfl, hb⟩
  rw [mayP_take HM.out]
  have S12 := Lib.hid (hb)
  have L_12 := Lib.hid (L_11.out.keep S12.out)
  have X4_12 := Lib.hid (X4_11.out.on S12.out)
  have M_12 := Lib.hid (M_11.out.keep S12.out)
  have N_12 := Lib.hid (N_11.out.keep S12.out)
  have A9_12 := Lib.hid (A9_11.out.on S12.out)
  have C_12 := Lib.hid (C_11.out.on S12.out)
  have E_12 := Lib.hid (E_11.out.on S12.out)
  have G_12 := Lib.hid (G_11.out.on S12.out)
  have B12 := Lib.hid (then_ B11.out S12.out)
  clear hb S12 L_11 X4_11 M_11 N_11 A9_11 C_11 E_11 G_11 B11
  obtain ⟨q0, q1, q2, q3, q4, q5⟩ := X4_12.out
  have ql := World.block_lt_of_cell? _ _ q0
  obtain ⟨r0, r1, r2, r3, r4, r5⟩ := C_12.out
  have rl := World.block_lt_of_cell? _ _ r0
  obtain ⟨s0, s1, s2, s3, s4, s5⟩ := E_12.out
  have sl := World.block_lt_of_cell? _ _ s0
  obtain ⟨t0, t1, t2, t3, t4, t5⟩ := G_12.out
  have tl := World.block_lt_of_cell? _ _ t0
  have e1 : ((n5 : Int) == (n0 : Int)) = true := by have h1 := M.out.len; have h2 := HLM.out; have h3 := HL0.out; simp; omega
  have e2 : ((n6 : Int) == (n0 : Int) - 1) = true := by have h1 := N.out.len; have h2 := HLN.out; have h3 := HL0.out; have h4 := hpos.out; simp; omega
  go_wp2_with fail
  refine (live_any _).mono ?_; rintro e w13 ⟨rfl, hb⟩
  have S13 := Lib.hid (hb)
  have L_13 := Lib.hid (L_12.out.keep S13.out)
  have X4_13 := Lib.hid (X4_12.out.on S13.out)
  have M_13 := Lib.hid (M_12.out.keep S13.out)
  have N_13 := Lib.hid (N_12.out.keep S13.out)
  have A9_13 := Lib.hid (A9_12.out.on S13.out)
  have C_13 := Lib.hid (C_12.out.on S13.out)
  have E_13 := Lib.hid (E_12.out.on S13.out)
  have G_13 := Lib.hid (G_12.out.on S13.out)
  have B13 := Lib.hid (then_ B12.out S13.out)
  clear hb S13 L_12 X4_12 M_12 N_12 A9_12 C_12 E_12 G_12 B12
  go_wp2
  go_ret
  exact ⟨rfl, B13.out⟩

theorem walkNoneSome (w : World) (A0 : Option Addr) (n0 c0 : Nat) (l0 : List KV) (x1 : KV) (a2 : ByteArray) (k0 : KVs w A0 n0 c0 l0) (k1 : x1.ok) (hn : n0 ≤ 40) (hs1 : x1.key.size ≤ 60) (hs2 : x1.val.size ≤ 60) (hs3 : a2.size ≤ 60)
    (hf : fewB 40 l0 = true) (hm : mayP oneB l0 = true) (h1 : oneB x1 = true) (hr : rises l0 = true) (hw : findL l0 x1.key = none) (y : KV) (hk : findL l0 a2 = some y) (hkx : teq x1.key a2 = false) (hne : teq a2 x1.key = false) :
    Calls Try.prog 5 #[.slice A0 n0 c0, x1.agg, .string a2] w fun e w' => e = .returned (.bool true) ∧ Below w.heap.size w w' := by
  have K := Lib.hid k0
  have X := Lib.hid k1
  have HR := Lib.hid hr
  have HW := Lib.hid hw
  have HM := Lib.hid hm
  have H1 := Lib.hid h1
  have HF := Lib.hid hf
  have HK := Lib.hid hk
  have HKX := Lib.hid hkx
  have hkb : (a2.toList == x1.key.toList) = false := hne
  have HL0 := Lib.hid k0.len
  have z2 : (a2.size : Int) ≤ 60 := by omega
  have hlm := len_lay l0 x1 hr
  have hln := len_take l0 x1.key
  rw [hw] at hlm hln
  simp only [Option.isSome_some, Option.isSome_none, if_true, Bool.false_eq_true, if_false, Nat.add_zero, Nat.sub_zero] at hlm hln
  have HLM := Lib.hid hlm
  have HLN := Lib.hid hln
  clear k0 k1 hr hw hm h1 hf hlm hln hk hkx hne
  go_enter Try.func5, Try.ntmps5
  have L_0 := Lib.hid (K.out)
  have L_0b := Lib.hid (L_0.out.keep (new1 _ (x1.obj 26)))
  clear L_0
  have X4_0b := Lib.hid (at6_new w x1 26)
  have B0b := Lib.hid (new1 w (x1.obj 26))
  go_wp2_with fail
  refine (few_any A0 n0 c0 l0 40 _ L_0b.out (by omega)).mono ?_; rintro e w' ⟨rfl, rfl⟩
  rw [HF.out]
  go_wp2_with fail
  refine (may_any A0 n0 c0 l0 _ L_0b.out (by omega)).mono ?_; rintro e w1 ⟨rfl, hb⟩
  rw [HM.out]
  have S1 := Lib.hid (hb)
  have L_1 := Lib.hid (L_0b.out.keep S1.out)
  have X4_1 := Lib.hid (X4_0b.out.on S1.out)
  have B1 := Lib.hid (then_ B0b.out S1.out)
  clear hb S1 L_0b X4_0b B0b
  obtain ⟨q0, q1, q2, q3, q4, q5⟩ := X4_1.out
  have ql := World.block_lt_of_cell? _ _ q0
  go_wp2_with fail
  refine (one_any x1 _ X.out).mono ?_; rintro e w2 ⟨rfl, hb⟩
  rw [H1.out]
  have S2 := Lib.hid (hb)
  have L_2 := Lib.hid (L_1.out.keep S2.out)
  have X4_2 := Lib.hid (X4_1.out.on S2.out)
  have B2 := Lib.hid (then_ B1.out S2.out)
  clear hb S2 L_1 X4_1 B1
  clear q0 q1 q2 q3 q4 q5 ql
  obtain ⟨q0, q1, q2, q3, q4, q5⟩ := X4_2.out
  have ql := World.block_lt_of_cell? _ _ q0
  go_wp2_with fail
  refine (Lay_any A0 n0 c0 l0 x1 _ L_2.out X.out (by omega)).mono ?_; rintro e w3 ⟨A5, n5, c5, rfl, h, hb⟩
  have M := Lib.hid h
  clear h
  have S3 := Lib.hid (hb)
  have L_3 := Lib.hid (L_2.out.keep S3.out)
  have X4_3 := Lib.hid (X4_2.out.on S3.out)
  have B3 := Lib.hid (then_ B2.out S3.out)
  clear hb S3 L_2 X4_2 B2
  clear q0 q1 q2 q3 q4 q5 ql
  have M_3n := Lib.hid (M.out)
  obtain ⟨q0, q1, q2, q3, q4, q5⟩ := X4_3.out
  have ql := World.block_lt_of_cell? _ _ q0
  go_wp2_with fail
  refine (Take_any A0 n0 c0 l0 x1.key _ L_3.out (by omega)).mono ?_; rintro e w4 ⟨A6, n6, c6, rfl, h, hb⟩
  have N := Lib.hid h
  clear h
  have S4 := Lib.hid (hb)
  have L_4 := Lib.hid (L_3.out.keep S4.out)
  have X4_4 := Lib.hid (X4_3.out.on S4.out)
  have M_4 := Lib.hid (M_3n.out.keep S4.out)
  have B4 := Lib.hid (then_ B3.out S4.out)
  clear hb S4 L_3 X4_3 M_3n B3
  clear q0 q1 q2 q3 q4 q5 ql
  have N_4n := Lib.hid (N.out)
  have hn5 : n5 ≤ 1000 := by have h1 := M.out.len; have h2 := HLM.out; have h3 := HL0.out; omega
  have hn6 : n6 ≤ 1000 := by have h1 := N.out.len; have h2 := HLN.out; have h3 := HL0.out; omega
  obtain ⟨q0, q1, q2, q3, q4, q5⟩ := X4_4.out
  have ql := World.block_lt_of_cell? _ _ q0
  go_wp2_with fail
  refine (find_any A5 n5 c5 (layL l0 x1) x1.key _ M_4.out (by omega)).mono ?_; rintro e w5 h
  rw [find_lay_same] at h
  obtain ⟨rfl, hb⟩ := h.some_
  clear h
  have S5 := Lib.hid (hb)
  have L_5 := Lib.hid (L_4.out.keep S5.out)
  have X4_5 := Lib.hid (X4_4.out.on S5.out)
  have M_5 := Lib.hid (M_4.out.keep S5.out)
  have N_5 := Lib.hid (N_4n.out.keep S5.out)
  have B5 := Lib.hid (then_ B4.out S5.out)
  clear hb S5 L_4 X4_4 M_4 N_4n B4
  clear q0 q1 q2 q3 q4 q5 ql
  have L_5b := Lib.hid (L_5.out.keep (new1 _ (x1.obj 26)))
  clear L_5
  have X4_5b := Lib.hid (X4_5.out.on (new1 _ (x1.obj 26)))
  clear X4_5
  have M_5b := Lib.hid (M_5.out.keep (new1 _ (x1.obj 26)))
  clear M_5
  have N_5b := Lib.hid (N_5.out.keep (new1 _ (x1.obj 26)))
  clear N_5
  have A9_5b := Lib.hid (at6_new w5 x1 26)
  have B5b := Lib.hid (then_ B5.out (new1 _ (x1.obj 26)))
  clear B5
  obtain ⟨q0, q1, q2, q3, q4, q5⟩ := X4_5b.out
  have ql := World.block_lt_of_cell? _ _ q0
  go_wp2_with fail
  refine (find_any A6 n6 c6 (takeL l0 x1.key) x1.key _ N_5b.out (by omega)).mono ?_; rintro e w6 h
  rw [find_take_same _ _ HR.out] at h
  obtain ⟨rfl, hb⟩ := h.none_
  clear h
  have S6 := Lib.hid (hb)
  have L_6 := Lib.hid (L_5b.out.keep S6.out)
  have X4_6 := Lib.hid (X4_5b.out.on S6.out)
  have M_6 := Lib.hid (M_5b.out.keep S6.out)
  have N_6 := Lib.hid (N_5b.out.keep S6.out)
  have A9_6 := Lib.hid (A9_5b.out.on S6.out)
  have B6 := Lib.hid (then_ B5b.out S6.out)
  clear hb S6 L_5b X4_5b M_5b N_5b A9_5b B5b
  clear q0 q1 q2 q3 q4 q5 ql
  have L_6b := Lib.hid (L_6.out.keep (new1 _ (.cells #[.string ⟨#[]⟩, .string ⟨#[]⟩, .int .i64 0, .int .i64 0, .int .i64 0, .int .i64 0] 26)))
  clear L_6
  have X4_6b := Lib.hid (X4_6.out.on (new1 _ (.cells #[.string ⟨#[]⟩, .string ⟨#[]⟩, .int .i64 0, .int .i64 0, .int .i64 0, .int .i64 0] 26)))
  clear X4_6
  have M_6b := Lib.hid (M_6.out.keep (new1 _ (.cells #[.string ⟨#[]⟩, .string ⟨#[]⟩, .int .i64 0, .int .i64 0, .int .i64 0, .int .i64 0] 26)))
  clear M_6
  have N_6b := Lib.hid (N_6.out.keep (new1 _ (.cells #[.string ⟨#[]⟩, .string ⟨#[]⟩, .int .i64 0, .int .i64 0, .int .i64 0, .int .i64 0] 26)))
  clear N_6
  have A9_6b := Lib.hid (A9_6.out.on (new1 _ (.cells #[.string ⟨#[]⟩, .string ⟨#[]⟩, .int .i64 0, .int .i64 0, .int .i64 0, .int .i64 0] 26)))
  clear A9_6
  have B6b := Lib.hid (then_ B6.out (new1 _ (.cells #[.string ⟨#[]⟩, .string ⟨#[]⟩, .int .i64 0, .int .i64 0, .int .i64 0, .int .i64 0] 26)))
  clear B6
  obtain ⟨q0, q1, q2, q3, q4, q5⟩ := X4_6b.out
  have ql := World.block_lt_of_cell? _ _ q0
  go_wp2_with fail
  refine (find_any A0 n0 c0 l0 x1.key _ L_6b.out (by omega)).mono ?_; rintro e w7 h
  rw [HW.out] at h
  obtain ⟨rfl, hb⟩ := h.none_
  clear h
  have S7 := Lib.hid (hb)
  have L_7 := Lib.hid (L_6b.out.keep S7.out)
  have X4_7 := Lib.hid (X4_6b.out.on S7.out)
  have M_7 := Lib.hid (M_6b.out.keep S7.out)
  have N_7 := Lib.hid (N_6b.out.keep S7.out)
  have A9_7 := Lib.hid (A9_6b.out.on S7.out)
  have B7 := Lib.hid (then_ B6b.out S7.out)
  clear hb S7 L_6b X4_6b M_6b N_6b A9_6b B6b
  clear q0 q1 q2 q3 q4 q5 ql
  have L_7b := Lib.hid (L_7.out.keep (new1 _ (.cells #[.string ⟨#[]⟩, .string ⟨#[]⟩, .int .i64 0, .int .i64 0, .int .i64 0, .int .i64 0] 26)))
  clear L_7
  have X4_7b := Lib.hid (X4_7.out.on (new1 _ (.cells #[.string ⟨#[]⟩, .string ⟨#[]⟩, .int .i64 0, .int .i64 0, .int .i64 0, .int .i64 0] 26)))
  clear X4_7
  have M_7b := Lib.hid (M_7.out.keep (new1 _ (.cells #[.string ⟨#[]⟩, .string ⟨#[]⟩, .int .i64 0, .int .i64 0, .int .i64 0, .int .i64 0] 26)))
  clear M_7
  have N_7b := Lib.hid (N_7.out.keep (new1 _ (.cells #[.string ⟨#[]⟩, .string ⟨#[]⟩, .int .i64 0, .int .i64 0, .int .i64 0, .int .i64 0] 26)))
  clear N_7
  have A9_7b := Lib.hid (A9_7.out.on (new1 _ (.cells #[.string ⟨#[]⟩, .string ⟨#[]⟩, .int .i64 0, .int .i64 0, .int .i64 0, .int .i64 0] 26)))
  clear A9_7
  have B7b := Lib.hid (then_ B7.out (new1 _ (.cells #[.string ⟨#[]⟩, .string ⟨#[]⟩, .int .i64 0, .int .i64 0, .int .i64 0, .int .i64 0] 26)))
  clear B7
  go_wp2_with fail
  refine (find_any A0 n0 c0 l0 a2 _ L_7b.out (by omega)).mono ?_; rintro e w8 h
  rw [HK.out] at h
  obtain ⟨rfl, hb⟩ := h.some_
  clear h
  have S8 := Lib.hid (hb)
  have L_8 := Lib.hid (L_7b.out.keep S8.out)
  have X4_8 := Lib.hid (X4_7b.out.on S8.out)
  have M_8 := Lib.hid (M_7b.out.keep S8.out)
  have N_8 := Lib.hid (N_7b.out.keep S8.out)
  have A9_8 := Lib.hid (A9_7b.out.on S8.out)
  have B8 := Lib.hid (then_ B7b.out S8.out)
  clear hb S8 L_7b X4_7b M_7b N_7b A9_7b B7b
  have L_8b := Lib.hid (L_8.out.keep (new1 _ (y.obj 26)))
  clear L_8
  have X4_8b := Lib.hid (X4_8.out.on (new1 _ (y.obj 26)))
  clear X4_8
  have M_8b := Lib.hid (M_8.out.keep (new1 _ (y.obj 26)))
  clear M_8
  have N_8b := Lib.hid (N_8.out.keep (new1 _ (y.obj 26)))
  clear N_8
  have A9_8b := Lib.hid (A9_8.out.on (new1 _ (y.obj 26)))
  clear A9_8
  have C_8b := Lib.hid (at6_new w8 y 26)
  have B8b := Lib.hid (then_ B8.out (new1 _ (y.obj 26)))
  clear B8
  go_wp2_with fail
  refine (find_any A5 n5 c5 (layL l0 x1) a2 _ M_8b.out (by omega)).mono ?_; rintro e w9 h
  rw [find_lay_other _ _ _ HKX.out, HK.out] at h
  obtain ⟨rfl, hb⟩ := h.some_
  clear h
  have S9 := Lib.hid (hb)
  have L_9 := Lib.hid (L_8b.out.keep S9.out)
  have X4_9 := Lib.hid (X4_8b.out.on S9.out)
  have M_9 := Lib.hid (M_8b.out.keep S9.out)
  have N_9 := Lib.hid (N_8b.out.keep S9.out)
  have A9_9 := Lib.hid (A9_8b.out.on S9.out)
  have C_9 := Lib.hid (C_8b.out.on S9.out)
  have B9 := Lib.hid (then_ B8b.out S9.out)
  clear hb S9 L_8b X4_8b M_8b N_8b A9_8b C_8b B8b
  have L_9b := Lib.hid (L_9.out.keep (new1 _ (y.obj 26)))
  clear L_9
  have X4_9b := Lib.hid (X4_9.out.on (new1 _ (y.obj 26)))
  clear X4_9
  have M_9b := Lib.hid (M_9.out.keep (new1 _ (y.obj 26)))
  clear M_9
  have N_9b := Lib.hid (N_9.out.keep (new1 _ (y.obj 26)))
  clear N_9
  have A9_9b := Lib.hid (A9_9.out.on (new1 _ (y.obj 26)))
  clear A9_9
  have C_9b := Lib.hid (C_9.out.on (new1 _ (y.obj 26)))
  clear C_9
  have E_9b := Lib.hid (at6_new w9 y 26)
  have B9b := Lib.hid (then_ B9.out (new1 _ (y.obj 26)))
  clear B9
  go_wp2_with fail
  refine (find_any A6 n6 c6 (takeL l0 x1.key) a2 _ N_9b.out (by omega)).mono ?_; rintro e w10 h
  rw [find_take_other _ _ _ HKX.out, HK.out] at h
  obtain ⟨rfl, hb⟩ := h.some_
  clear h
  have S10 := Lib.hid (hb)
  have L_10 := Lib.hid (L_9b.out.keep S10.out)
  have X4_10 := Lib.hid (X4_9b.out.on S10.out)
  have M_10 := Lib.hid (M_9b.out.keep S10.out)
  have N_10 := Lib.hid (N_9b.out.keep S10.out)
  have A9_10 := Lib.hid (A9_9b.out.on S10.out)
  have C_10 := Lib.hid (C_9b.out.on S10.out)
  have E_10 := Lib.hid (E_9b.out.on S10.out)
  have B10 := Lib.hid (then_ B9b.out S10.out)
  clear hb S10 L_9b X4_9b M_9b N_9b A9_9b C_9b E_9b B9b
  have L_10b := Lib.hid (L_10.out.keep (new1 _ (y.obj 26)))
  clear L_10
  have X4_10b := Lib.hid (X4_10.out.on (new1 _ (y.obj 26)))
  clear X4_10
  have M_10b := Lib.hid (M_10.out.keep (new1 _ (y.obj 26)))
  clear M_10
  have N_10b := Lib.hid (N_10.out.keep (new1 _ (y.obj 26)))
  clear N_10
  have A9_10b := Lib.hid (A9_10.out.on (new1 _ (y.obj 26)))
  clear A9_10
  have C_10b := Lib.hid (C_10.out.on (new1 _ (y.obj 26)))
  clear C_10
  have E_10b := Lib.hid (E_10.out.on (new1 _ (y.obj 26)))
  clear E_10
  have G_10b := Lib.hid (at6_new w10 y 26)
  have B10b := Lib.hid (then_ B10.out (new1 _ (y.obj 26)))
  clear B10
  obtain ⟨q0, q1, q2, q3, q4, q5⟩ := X4_10b.out
  have ql := World.block_lt_of_cell? _ _ q0
  obtain ⟨r0, r1, r2, r3, r4, r5⟩ := A9_10b.out
  have rl := World.block_lt_of_cell? _ _ r0
  have hne9 := neq_same
  go_wp2_with fail
  refine (may_any A5 n5 c5 (layL l0 x1) _ M_10b.out (by omega)).mono ?_; rintro e w11 ⟨rfl, hb⟩
  rw [mayP_lay HM.out H1.out]
  have S11 := Lib.hid (hb)
  have L_11 := Lib.hid (L_10b.out.keep S11.out)
  have X4_11 := Lib.hid (X4_10b.out.on S11.out)
  have M_11 := Lib.hid (M_10b.out.keep S11.out)
  have N_11 := Lib.hid (N_10b.out.keep S11.out)
  have A9_11 := Lib.hid (A9_10b.out.on S11.out)
  have C_11 := Lib.hid (C_10b.out.on S11.out)
  have E_11 := Lib.hid (E_10b.out.on S11.out)
  have G_11 := Lib.hid (G_10b.out.on S11.out)
  have B11 := Lib.hid (then_ B10b.out S11.out)
  clear hb S11 L_10b X4_10b M_10b N_10b A9_10b C_10b E_10b G_10b B10b
  clear q0 q1 q2 q3 q4 q5 ql
  clear r0 r1 r2 r3 r4 r5 rl
  go_wp2_with fail
  refine (may_any A6 n6 c6 (takeL l0 x1.key) _ N_11.out (by omega)).mono ?_; rintro e w12 ⟨rfl, hb⟩
  rw [mayP_take HM.out]
  have S12 := Lib.hid (hb)
  have L_12 := Lib.hid (L_11.out.keep S12.out)
  have X4_12 := Lib.hid (X4_11.out.on S12.out)
  have M_12 := Lib.hid (M_11.out.keep S12.out)
  have N_12 := Lib.hid (N_11.out.keep S12.out)
  have A9_12 := Lib.hid (A9_11.out.on S12.out)
  have C_12 := Lib.hid (C_11.out.on S12.out)
  have E_12 := Lib.hid (E_11.out.on S12.out)
  have G_12 := Lib.hid (G_11.out.on S12.out)
  have B12 := Lib.hid (then_ B11.out S12.out)
  clear hb S12 L_11 X4_11 M_11 N_11 A9_11 C_11 E_11 G_11 B11
  obtain ⟨q0, q1, q2, q3, q4, q5⟩ := X4_12.out
  have ql := World.block_lt_of_cell? _ _ q0
  obtain ⟨r0, r1, r2, r3, r4, r5⟩ := C_12.out
  have rl := World.block_lt_of_cell? _ _ r0
  obtain ⟨s0, s1, s2, s3, s4, s5⟩ := E_12.out
  have sl := World.block_lt_of_cell? _ _ s0
  obtain ⟨t0, t1, t2, t3, t4, t5⟩ := G_12.out
  have tl := World.block_lt_of_cell? _ _ t0
  have e1 : ((n5 : Int) == (n0 : Int) + 1) = true := by have h1 := M.out.len; have h2 := HLM.out; have h3 := HL0.out; simp; omega
  have e2 : ((n6 : Int) == (n0 : Int)) = true := by have h1 := N.out.len; have h2 := HLN.out; have h3 := HL0.out; simp; omega
  go_wp2_with fail
  refine (live_any _).mono ?_; rintro e w13 ⟨rfl, hb⟩
  have S13 := Lib.hid (hb)
  have L_13 := Lib.hid (L_12.out.keep S13.out)
  have X4_13 := Lib.hid (X4_12.out.on S13.out)
  have M_13 := Lib.hid (M_12.out.keep S13.out)
  have N_13 := Lib.hid (N_12.out.keep S13.out)
  have A9_13 := Lib.hid (A9_12.out.on S13.out)
  have C_13 := Lib.hid (C_12.out.on S13.out)
  have E_13 := Lib.hid (E_12.out.on S13.out)
  have G_13 := Lib.hid (G_12.out.on S13.out)
  have B13 := Lib.hid (then_ B12.out S13.out)
  clear hb S13 L_12 X4_12 M_12 N_12 A9_12 C_12 E_12 G_12 B12
  go_wp2
  go_ret
  exact ⟨rfl, B13.out⟩

theorem walkNoneNone (w : World) (A0 : Option Addr) (n0 c0 : Nat) (l0 : List KV) (x1 : KV) (a2 : ByteArray) (k0 : KVs w A0 n0 c0 l0) (k1 : x1.ok) (hn : n0 ≤ 40) (hs1 : x1.key.size ≤ 60) (hs2 : x1.val.size ≤ 60) (hs3 : a2.size ≤ 60)
    (hf : fewB 40 l0 = true) (hm : mayP oneB l0 = true) (h1 : oneB x1 = true) (hr : rises l0 = true) (hw : findL l0 x1.key = none) (hk : findL l0 a2 = none) (hkx : teq x1.key a2 = false) (hne : teq a2 x1.key = false) :
    Calls Try.prog 5 #[.slice A0 n0 c0, x1.agg, .string a2] w fun e w' => e = .returned (.bool true) ∧ Below w.heap.size w w' := by
  have K := Lib.hid k0
  have X := Lib.hid k1
  have HR := Lib.hid hr
  have HW := Lib.hid hw
  have HM := Lib.hid hm
  have H1 := Lib.hid h1
  have HF := Lib.hid hf
  have HK := Lib.hid hk
  have HKX := Lib.hid hkx
  have hkb : (a2.toList == x1.key.toList) = false := hne
  have HL0 := Lib.hid k0.len
  have z2 : (a2.size : Int) ≤ 60 := by omega
  have hlm := len_lay l0 x1 hr
  have hln := len_take l0 x1.key
  rw [hw] at hlm hln
  simp only [Option.isSome_some, Option.isSome_none, if_true, Bool.false_eq_true, if_false, Nat.add_zero, Nat.sub_zero] at hlm hln
  have HLM := Lib.hid hlm
  have HLN := Lib.hid hln
  clear k0 k1 hr hw hm h1 hf hlm hln hk hkx hne
  go_enter Try.func5, Try.ntmps5
  have L_0 := Lib.hid (K.out)
  have L_0b := Lib.hid (L_0.out.keep (new1 _ (x1.obj 26)))
  clear L_0
  have X4_0b := Lib.hid (at6_new w x1 26)
  have B0b := Lib.hid (new1 w (x1.obj 26))
  go_wp2_with fail
  refine (few_any A0 n0 c0 l0 40 _ L_0b.out (by omega)).mono ?_; rintro e w' ⟨rfl, rfl⟩
  rw [HF.out]
  go_wp2_with fail
  refine (may_any A0 n0 c0 l0 _ L_0b.out (by omega)).mono ?_; rintro e w1 ⟨rfl, hb⟩
  rw [HM.out]
  have S1 := Lib.hid (hb)
  have L_1 := Lib.hid (L_0b.out.keep S1.out)
  have X4_1 := Lib.hid (X4_0b.out.on S1.out)
  have B1 := Lib.hid (then_ B0b.out S1.out)
  clear hb S1 L_0b X4_0b B0b
  obtain ⟨q0, q1, q2, q3, q4, q5⟩ := X4_1.out
  have ql := World.block_lt_of_cell? _ _ q0
  go_wp2_with fail
  refine (one_any x1 _ X.out).mono ?_; rintro e w2 ⟨rfl, hb⟩
  rw [H1.out]
  have S2 := Lib.hid (hb)
  have L_2 := Lib.hid (L_1.out.keep S2.out)
  have X4_2 := Lib.hid (X4_1.out.on S2.out)
  have B2 := Lib.hid (then_ B1.out S2.out)
  clear hb S2 L_1 X4_1 B1
  clear q0 q1 q2 q3 q4 q5 ql
  obtain ⟨q0, q1, q2, q3, q4, q5⟩ := X4_2.out
  have ql := World.block_lt_of_cell? _ _ q0
  go_wp2_with fail
  refine (Lay_any A0 n0 c0 l0 x1 _ L_2.out X.out (by omega)).mono ?_; rintro e w3 ⟨A5, n5, c5, rfl, h, hb⟩
  have M := Lib.hid h
  clear h
  have S3 := Lib.hid (hb)
  have L_3 := Lib.hid (L_2.out.keep S3.out)
  have X4_3 := Lib.hid (X4_2.out.on S3.out)
  have B3 := Lib.hid (then_ B2.out S3.out)
  clear hb S3 L_2 X4_2 B2
  clear q0 q1 q2 q3 q4 q5 ql
  have M_3n := Lib.hid (M.out)
  obtain ⟨q0, q1, q2, q3, q4, q5⟩ := X4_3.out
  have ql := World.block_lt_of_cell? _ _ q0
  go_wp2_with fail
  refine (Take_any A0 n0 c0 l0 x1.key _ L_3.out (by omega)).mono ?_; rintro e w4 ⟨A6, n6, c6, rfl, h, hb⟩
  have N := Lib.hid h
  clear h
  have S4 := Lib.hid (hb)
  have L_4 := Lib.hid (L_3.out.keep S4.out)
  have X4_4 := Lib.hid (X4_3.out.on S4.out)
  have M_4 := Lib.hid (M_3n.out.keep S4.out)
  have B4 := Lib.hid (then_ B3.out S4.out)
  clear hb S4 L_3 X4_3 M_3n B3
  clear q0 q1 q2 q3 q4 q5 ql
  have N_4n := Lib.hid (N.out)
  have hn5 : n5 ≤ 1000 := by have h1 := M.out.len; have h2 := HLM.out; have h3 := HL0.out; omega
  have hn6 : n6 ≤ 1000 := by have h1 := N.out.len; have h2 := HLN.out; have h3 := HL0.out; omega
  obtain ⟨q0, q1, q2, q3, q4, q5⟩ := X4_4.out
  have ql := World.block_lt_of_cell? _ _ q0
  go_wp2_with fail
  refine (find_any A5 n5 c5 (layL l0 x1) x1.key _ M_4.out (by omega)).mono ?_; rintro e w5 h
  rw [find_lay_same] at h
  obtain ⟨rfl, hb⟩ := h.some_
  clear h
  have S5 := Lib.hid (hb)
  have L_5 := Lib.hid (L_4.out.keep S5.out)
  have X4_5 := Lib.hid (X4_4.out.on S5.out)
  have M_5 := Lib.hid (M_4.out.keep S5.out)
  have N_5 := Lib.hid (N_4n.out.keep S5.out)
  have B5 := Lib.hid (then_ B4.out S5.out)
  clear hb S5 L_4 X4_4 M_4 N_4n B4
  clear q0 q1 q2 q3 q4 q5 ql
  have L_5b := Lib.hid (L_5.out.keep (new1 _ (x1.obj 26)))
  clear L_5
  have X4_5b := Lib.hid (X4_5.out.on (new1 _ (x1.obj 26)))
  clear X4_5
  have M_5b := Lib.hid (M_5.out.keep (new1 _ (x1.obj 26)))
  clear M_5
  have N_5b := Lib.hid (N_5.out.keep (new1 _ (x1.obj 26)))
  clear N_5
  have A9_5b := Lib.hid (at6_new w5 x1 26)
  have B5b := Lib.hid (then_ B5.out (new1 _ (x1.obj 26)))
  clear B5
  obtain ⟨q0, q1, q2, q3, q4, q5⟩ := X4_5b.out
  have ql := World.block_lt_of_cell? _ _ q0
  go_wp2_with fail
  refine (find_any A6 n6 c6 (takeL l0 x1.key) x1.key _ N_5b.out (by omega)).mono ?_; rintro e w6 h
  rw [find_take_same _ _ HR.out] at h
  obtain ⟨rfl, hb⟩ := h.none_
  clear h
  have S6 := Lib.hid (hb)
  have L_6 := Lib.hid (L_5b.out.keep S6.out)
  have X4_6 := Lib.hid (X4_5b.out.on S6.out)
  have M_6 := Lib.hid (M_5b.out.keep S6.out)
  have N_6 := Lib.hid (N_5b.out.keep S6.out)
  have A9_6 := Lib.hid (A9_5b.out.on S6.out)
  have B6 := Lib.hid (then_ B5b.out S6.out)
  clear hb S6 L_5b X4_5b M_5b N_5b A9_5b B5b
  clear q0 q1 q2 q3 q4 q5 ql
  have L_6b := Lib.hid (L_6.out.keep (new1 _ (.cells #[.string ⟨#[]⟩, .string ⟨#[]⟩, .int .i64 0, .int .i64 0, .int .i64 0, .int .i64 0] 26)))
  clear L_6
  have X4_6b := Lib.hid (X4_6.out.on (new1 _ (.cells #[.string ⟨#[]⟩, .string ⟨#[]⟩, .int .i64 0, .int .i64 0, .int .i64 0, .int .i64 0] 26)))
  clear X4_6
  have M_6b := Lib.hid (M_6.out.keep (new1 _ (.cells #[.string ⟨#[]⟩, .string ⟨#[]⟩, .int .i64 0, .int .i64 0, .int .i64 0, .int .i64 0] 26)))
  clear M_6
  have N_6b := Lib.hid (N_6.out.keep (new1 _ (.cells #[.string ⟨#[]⟩, .string ⟨#[]⟩, .int .i64 0, .int .i64 0, .int .i64 0, .int .i64 0] 26)))
  clear N_6
  have A9_6b := Lib.hid (A9_6.out.on (new1 _ (.cells #[.string ⟨#[]⟩, .string ⟨#[]⟩, .int .i64 0, .int .i64 0, .int .i64 0, .int .i64 0] 26)))
  clear A9_6
  have B6b := Lib.hid (then_ B6.out (new1 _ (.cells #[.string ⟨#[]⟩, .string ⟨#[]⟩, .int .i64 0, .int .i64 0, .int .i64 0, .int .i64 0] 26)))
  clear B6
  obtain ⟨q0, q1, q2, q3, q4, q5⟩ := X4_6b.out
  have ql := World.block_lt_of_cell? _ _ q0
  go_wp2_with fail
  refine (find_any A0 n0 c0 l0 x1.key _ L_6b.out (by omega)).mono ?_; rintro e w7 h
  rw [HW.out] at h
  obtain ⟨rfl, hb⟩ := h.none_
  clear h
  have S7 := Lib.hid (hb)
  have L_7 := Lib.hid (L_6b.out.keep S7.out)
  have X4_7 := Lib.hid (X4_6b.out.on S7.out)
  have M_7 := Lib.hid (M_6b.out.keep S7.out)
  have N_7 := Lib.hid (N_6b.out.keep S7.out)
  have A9_7 := Lib.hid (A9_6b.out.on S7.out)
  have B7 := Lib.hid (then_ B6b.out S7.out)
  clear hb S7 L_6b X4_6b M_6b N_6b A9_6b B6b
  clear q0 q1 q2 q3 q4 q5 ql
  have L_7b := Lib.hid (L_7.out.keep (new1 _ (.cells #[.string ⟨#[]⟩, .string ⟨#[]⟩, .int .i64 0, .int .i64 0, .int .i64 0, .int .i64 0] 26)))
  clear L_7
  have X4_7b := Lib.hid (X4_7.out.on (new1 _ (.cells #[.string ⟨#[]⟩, .string ⟨#[]⟩, .int .i64 0, .int .i64 0, .int .i64 0, .int .i64 0] 26)))
  clear X4_7
  have M_7b := Lib.hid (M_7.out.keep (new1 _ (.cells #[.string ⟨#[]⟩, .string ⟨#[]⟩, .int .i64 0, .int .i64 0, .int .i64 0, .int .i64 0] 26)))
  clear M_7
  have N_7b := Lib.hid (N_7.out.keep (new1 _ (.cells #[.string ⟨#[]⟩, .string ⟨#[]⟩, .int .i64 0, .int .i64 0, .int .i64 0, .int .i64 0] 26)))
  clear N_7
  have A9_7b := Lib.hid (A9_7.out.on (new1 _ (.cells #[.string ⟨#[]⟩, .string ⟨#[]⟩, .int .i64 0, .int .i64 0, .int .i64 0, .int .i64 0] 26)))
  clear A9_7
  have B7b := Lib.hid (then_ B7.out (new1 _ (.cells #[.string ⟨#[]⟩, .string ⟨#[]⟩, .int .i64 0, .int .i64 0, .int .i64 0, .int .i64 0] 26)))
  clear B7
  go_wp2_with fail
  refine (find_any A0 n0 c0 l0 a2 _ L_7b.out (by omega)).mono ?_; rintro e w8 h
  rw [HK.out] at h
  obtain ⟨rfl, hb⟩ := h.none_
  clear h
  have S8 := Lib.hid (hb)
  have L_8 := Lib.hid (L_7b.out.keep S8.out)
  have X4_8 := Lib.hid (X4_7b.out.on S8.out)
  have M_8 := Lib.hid (M_7b.out.keep S8.out)
  have N_8 := Lib.hid (N_7b.out.keep S8.out)
  have A9_8 := Lib.hid (A9_7b.out.on S8.out)
  have B8 := Lib.hid (then_ B7b.out S8.out)
  clear hb S8 L_7b X4_7b M_7b N_7b A9_7b B7b
  have L_8b := Lib.hid (L_8.out.keep (new1 _ (.cells #[.string ⟨#[]⟩, .string ⟨#[]⟩, .int .i64 0, .int .i64 0, .int .i64 0, .int .i64 0] 26)))
  clear L_8
  have X4_8b := Lib.hid (X4_8.out.on (new1 _ (.cells #[.string ⟨#[]⟩, .string ⟨#[]⟩, .int .i64 0, .int .i64 0, .int .i64 0, .int .i64 0] 26)))
  clear X4_8
  have M_8b := Lib.hid (M_8.out.keep (new1 _ (.cells #[.string ⟨#[]⟩, .string ⟨#[]⟩, .int .i64 0, .int .i64 0, .int .i64 0, .int .i64 0] 26)))
  clear M_8
  have N_8b := Lib.hid (N_8.out.keep (new1 _ (.cells #[.string ⟨#[]⟩, .string ⟨#[]⟩, .int .i64 0, .int .i64 0, .int .i64 0, .int .i64 0] 26)))
  clear N_8
  have A9_8b := Lib.hid (A9_8.out.on (new1 _ (.cells #[.string ⟨#[]⟩, .string ⟨#[]⟩, .int .i64 0, .int .i64 0, .int .i64 0, .int .i64 0] 26)))
  clear A9_8
  have C_8b := Lib.hid (at6_new w8 zeroKV 26)
  have B8b := Lib.hid (then_ B8.out (new1 _ (.cells #[.string ⟨#[]⟩, .string ⟨#[]⟩, .int .i64 0, .int .i64 0, .int .i64 0, .int .i64 0] 26)))
  clear B8
  go_wp2_with fail
  refine (find_any A5 n5 c5 (layL l0 x1) a2 _ M_8b.out (by omega)).mono ?_; rintro e w9 h
  rw [find_lay_other _ _ _ HKX.out, HK.out] at h
  obtain ⟨rfl, hb⟩ := h.none_
  clear h
  have S9 := Lib.hid (hb)
  have L_9 := Lib.hid (L_8b.out.keep S9.out)
  have X4_9 := Lib.hid (X4_8b.out.on S9.out)
  have M_9 := Lib.hid (M_8b.out.keep S9.out)
  have N_9 := Lib.hid (N_8b.out.keep S9.out)
  have A9_9 := Lib.hid (A9_8b.out.on S9.out)
  have C_9 := Lib.hid (C_8b.out.on S9.out)
  have B9 := Lib.hid (then_ B8b.out S9.out)
  clear hb S9 L_8b X4_8b M_8b N_8b A9_8b C_8b B8b
  have L_9b := Lib.hid (L_9.out.keep (new1 _ (.cells #[.string ⟨#[]⟩, .string ⟨#[]⟩, .int .i64 0, .int .i64 0, .int .i64 0, .int .i64 0] 26)))
  clear L_9
  have X4_9b := Lib.hid (X4_9.out.on (new1 _ (.cells #[.string ⟨#[]⟩, .string ⟨#[]⟩, .int .i64 0, .int .i64 0, .int .i64 0, .int .i64 0] 26)))
  clear X4_9
  have M_9b := Lib.hid (M_9.out.keep (new1 _ (.cells #[.string ⟨#[]⟩, .string ⟨#[]⟩, .int .i64 0, .int .i64 0, .int .i64 0, .int .i64 0] 26)))
  clear M_9
  have N_9b := Lib.hid (N_9.out.keep (new1 _ (.cells #[.string ⟨#[]⟩, .string ⟨#[]⟩, .int .i64 0, .int .i64 0, .int .i64 0, .int .i64 0] 26)))
  clear N_9
  have A9_9b := Lib.hid (A9_9.out.on (new1 _ (.cells #[.string ⟨#[]⟩, .string ⟨#[]⟩, .int .i64 0, .int .i64 0, .int .i64 0, .int .i64 0] 26)))
  clear A9_9
  have C_9b := Lib.hid (C_9.out.on (new1 _ (.cells #[.string ⟨#[]⟩, .string ⟨#[]⟩, .int .i64 0, .int .i64 0, .int .i64 0, .int .i64 0] 26)))
  clear C_9
  have E_9b := Lib.hid (at6_new w9 zeroKV 26)
  have B9b := Lib.hid (then_ B9.out (new1 _ (.cells #[.string ⟨#[]⟩, .string ⟨#[]⟩, .int .i64 0, .int .i64 0, .int .i64 0, .int .i64 0] 26)))
  clear B9
  go_wp2_with fail
  refine (find_any A6 n6 c6 (takeL l0 x1.key) a2 _ N_9b.out (by omega)).mono ?_; rintro e w10 h
  rw [find_take_other _ _ _ HKX.out, HK.out] at h
  obtain ⟨rfl, hb⟩ := h.none_
  clear h
  have S10 := Lib.hid (hb)
  have L_10 := Lib.hid (L_9b.out.keep S10.out)
  have X4_10 := Lib.hid (X4_9b.out.on S10.out)
  have M_10 := Lib.hid (M_9b.out.keep S10.out)
  have N_10 := Lib.hid (N_9b.out.keep S10.out)
  have A9_10 := Lib.hid (A9_9b.out.on S10.out)
  have C_10 := Lib.hid (C_9b.out.on S10.out)
  have E_10 := Lib.hid (E_9b.out.on S10.out)
  have B10 := Lib.hid (then_ B9b.out S10.out)
  clear hb S10 L_9b X4_9b M_9b N_9b A9_9b C_9b E_9b B9b
  have L_10b := Lib.hid (L_10.out.keep (new1 _ (.cells #[.string ⟨#[]⟩, .string ⟨#[]⟩, .int .i64 0, .int .i64 0, .int .i64 0, .int .i64 0] 26)))
  clear L_10
  have X4_10b := Lib.hid (X4_10.out.on (new1 _ (.cells #[.string ⟨#[]⟩, .string ⟨#[]⟩, .int .i64 0, .int .i64 0, .int .i64 0, .int .i64 0] 26)))
  clear X4_10
  have M_10b := Lib.hid (M_10.out.keep (new1 _ (.cells #[.string ⟨#[]⟩, .string ⟨#[]⟩, .int .i64 0, .int .i64 0, .int .i64 0, .int .i64 0] 26)))
  clear M_10
  have N_10b := Lib.hid (N_10.out.keep (new1 _ (.cells #[.string ⟨#[]⟩, .string ⟨#[]⟩, .int .i64 0, .int .i64 0, .int .i64 0, .int .i64 0] 26)))
  clear N_10
  have A9_10b := Lib.hid (A9_10.out.on (new1 _ (.cells #[.string ⟨#[]⟩, .string ⟨#[]⟩, .int .i64 0, .int .i64 0, .int .i64 0, .int .i64 0] 26)))
  clear A9_10
  have C_10b := Lib.hid (C_10.out.on (new1 _ (.cells #[.string ⟨#[]⟩, .string ⟨#[]⟩, .int .i64 0, .int .i64 0, .int .i64 0, .int .i64 0] 26)))
  clear C_10
  have E_10b := Lib.hid (E_10.out.on (new1 _ (.cells #[.string ⟨#[]⟩, .string ⟨#[]⟩, .int .i64 0, .int .i64 0, .int .i64 0, .int .i64 0] 26)))
  clear E_10
  have G_10b := Lib.hid (at6_new w10 zeroKV 26)
  have B10b := Lib.hid (then_ B10.out (new1 _ (.cells #[.string ⟨#[]⟩, .string ⟨#[]⟩, .int .i64 0, .int .i64 0, .int .i64 0, .int .i64 0] 26)))
  clear B10
  obtain ⟨q0, q1, q2, q3, q4, q5⟩ := X4_10b.out
  have ql := World.block_lt_of_cell? _ _ q0
  obtain ⟨r0, r1, r2, r3, r4, r5⟩ := A9_10b.out
  have rl := World.block_lt_of_cell? _ _ r0
  have hne9 := neq_same
  go_wp2_with fail
  refine (may_any A5 n5 c5 (layL l0 x1) _ M_10b.out (by omega)).mono ?_; rintro e w11 ⟨rfl, hb⟩
  rw [mayP_lay HM.out H1.out]
  have S11 := Lib.hid (hb)
  have L_11 := Lib.hid (L_10b.out.keep S11.out)
  have X4_11 := Lib.hid (X4_10b.out.on S11.out)
  have M_11 := Lib.hid (M_10b.out.keep S11.out)
  have N_11 := Lib.hid (N_10b.out.keep S11.out)
  have A9_11 := Lib.hid (A9_10b.out.on S11.out)
  have C_11 := Lib.hid (C_10b.out.on S11.out)
  have E_11 := Lib.hid (E_10b.out.on S11.out)
  have G_11 := Lib.hid (G_10b.out.on S11.out)
  have B11 := Lib.hid (then_ B10b.out S11.out)
  clear hb S11 L_10b X4_10b M_10b N_10b A9_10b C_10b E_10b G_10b B10b
  clear q0 q1 q2 q3 q4 q5 ql
  clear r0 r1 r2 r3 r4 r5 rl
  go_wp2_with fail
  refine (may_any A6 n6 c6 (takeL l0 x1.key) _ N_11.out (by omega)).mono ?_; rintro e w12 ⟨rfl, hb⟩
  rw [mayP_take HM.out]
  have S12 := Lib.hid (hb)
  have L_12 := Lib.hid (L_11.out.keep S12.out)
  have X4_12 := Lib.hid (X4_11.out.on S12.out)
  have M_12 := Lib.hid (M_11.out.keep S12.out)
  have N_12 := Lib.hid (N_11.out.keep S12.out)
  have A9_12 := Lib.hid (A9_11.out.on S12.out)
  have C_12 := Lib.hid (C_11.out.on S12.out)
  have E_12 := Lib.hid (E_11.out.on S12.out)
  have G_12 := Lib.hid (G_11.out.on S12.out)
  have B12 := Lib.hid (then_ B11.out S12.out)
  clear hb S12 L_11 X4_11 M_11 N_11 A9_11 C_11 E_11 G_11 B11
  obtain ⟨q0, q1, q2, q3, q4, q5⟩ := X4_12.out
  have ql := World.block_lt_of_cell? _ _ q0
  obtain ⟨r0, r1, r2, r3, r4, r5⟩ := C_12.out
  have rl := World.block_lt_of_cell? _ _ r0
  obtain ⟨s0, s1, s2, s3, s4, s5⟩ := E_12.out
  have sl := World.block_lt_of_cell? _ _ s0
  obtain ⟨t0, t1, t2, t3, t4, t5⟩ := G_12.out
  have tl := World.block_lt_of_cell? _ _ t0
  have e1 : ((n5 : Int) == (n0 : Int) + 1) = true := by have h1 := M.out.len; have h2 := HLM.out; have h3 := HL0.out; simp; omega
  have e2 : ((n6 : Int) == (n0 : Int)) = true := by have h1 := N.out.len; have h2 := HLN.out; have h3 := HL0.out; simp; omega
  go_wp2_with fail
  refine (live_any _).mono ?_; rintro e w13 ⟨rfl, hb⟩
  have S13 := Lib.hid (hb)
  have L_13 := Lib.hid (L_12.out.keep S13.out)
  have X4_13 := Lib.hid (X4_12.out.on S13.out)
  have M_13 := Lib.hid (M_12.out.keep S13.out)
  have N_13 := Lib.hid (N_12.out.keep S13.out)
  have A9_13 := Lib.hid (A9_12.out.on S13.out)
  have C_13 := Lib.hid (C_12.out.on S13.out)
  have E_13 := Lib.hid (E_12.out.on S13.out)
  have G_13 := Lib.hid (G_12.out.on S13.out)
  have B13 := Lib.hid (then_ B12.out S13.out)
  clear hb S13 L_12 X4_12 M_12 N_12 A9_12 C_12 E_12 G_12 B12
  go_wp2
  go_ret
  exact ⟨rfl, B13.out⟩

theorem shortFew (w : World) (A0 : Option Addr) (n0 c0 : Nat) (l0 : List KV) (x1 : KV) (a2 : ByteArray) (k0 : KVs w A0 n0 c0 l0) (k1 : x1.ok) (hf : fewB 40 l0 = false) :
    Calls Try.prog 5 #[.slice A0 n0 c0, x1.agg, .string a2] w fun e w' => e = .returned (.bool true) ∧ Below w.heap.size w w' := by
  have K := Lib.hid k0
  have X := Lib.hid k1
  have HF := Lib.hid hf
  have z0 : x1.key.size ≤ 9223372036854775807 := by have := k1.key; unfold maxLen at this; omega
  have z1 : x1.val.size ≤ 9223372036854775807 := by have := k1.val; unfold maxLen at this; omega
  clear k0 k1 hf
  go_enter Try.func5, Try.ntmps5
  have L_0 := Lib.hid (K.out)
  have L_0b := Lib.hid (L_0.out.keep (new1 _ (x1.obj 26)))
  clear L_0
  have X4_0b := Lib.hid (at6_new w x1 26)
  have B0b := Lib.hid (new1 w (x1.obj 26))
  go_wp2_with fail
  refine (few_any A0 n0 c0 l0 40 _ L_0b.out (by omega)).mono ?_; rintro e w' ⟨rfl, rfl⟩
  rw [HF.out]
  go_wp2_with fail
  refine (live_any _).mono ?_; rintro e w1 ⟨rfl, hb⟩
  have S1 := Lib.hid (hb)
  have L_1 := Lib.hid (L_0b.out.keep S1.out)
  have X4_1 := Lib.hid (X4_0b.out.on S1.out)
  have B1 := Lib.hid (then_ B0b.out S1.out)
  clear hb S1 L_0b X4_0b B0b
  go_wp2
  go_ret
  exact ⟨rfl, B1.out⟩

theorem shortKey (w : World) (A0 : Option Addr) (n0 c0 : Nat) (l0 : List KV) (x1 : KV) (a2 : ByteArray) (k0 : KVs w A0 n0 c0 l0) (k1 : x1.ok) (hf : fewB 40 l0 = true) (hn : n0 ≤ 40) (hs1 : (60 : Int) < x1.key.size) :
    Calls Try.prog 5 #[.slice A0 n0 c0, x1.agg, .string a2] w fun e w' => e = .returned (.bool true) ∧ Below w.heap.size w w' := by
  have K := Lib.hid k0
  have X := Lib.hid k1
  have HF := Lib.hid hf
  have z0 : x1.key.size ≤ 9223372036854775807 := by have := k1.key; unfold maxLen at this; omega
  have z1 : x1.val.size ≤ 9223372036854775807 := by have := k1.val; unfold maxLen at this; omega
  clear k0 k1 hf
  go_enter Try.func5, Try.ntmps5
  have L_0 := Lib.hid (K.out)
  have L_0b := Lib.hid (L_0.out.keep (new1 _ (x1.obj 26)))
  clear L_0
  have X4_0b := Lib.hid (at6_new w x1 26)
  have B0b := Lib.hid (new1 w (x1.obj 26))
  go_wp2_with fail
  refine (few_any A0 n0 c0 l0 40 _ L_0b.out (by omega)).mono ?_; rintro e w' ⟨rfl, rfl⟩
  rw [HF.out]
  go_wp2_with fail
  refine (live_any _).mono ?_; rintro e w1 ⟨rfl, hb⟩
  have S1 := Lib.hid (hb)
  have L_1 := Lib.hid (L_0b.out.keep S1.out)
  have X4_1 := Lib.hid (X4_0b.out.on S1.out)
  have B1 := Lib.hid (then_ B0b.out S1.out)
  clear hb S1 L_0b X4_0b B0b
  go_wp2
  go_ret
  exact ⟨rfl, B1.out⟩

theorem shortVal (w : World) (A0 : Option Addr) (n0 c0 : Nat) (l0 : List KV) (x1 : KV) (a2 : ByteArray) (k0 : KVs w A0 n0 c0 l0) (k1 : x1.ok) (hf : fewB 40 l0 = true) (hn : n0 ≤ 40) (hs1 : x1.key.size ≤ 60) (hs2 : (60 : Int) < x1.val.size) :
    Calls Try.prog 5 #[.slice A0 n0 c0, x1.agg, .string a2] w fun e w' => e = .returned (.bool true) ∧ Below w.heap.size w w' := by
  have K := Lib.hid k0
  have X := Lib.hid k1
  have HF := Lib.hid hf
  have z0 : x1.key.size ≤ 9223372036854775807 := by have := k1.key; unfold maxLen at this; omega
  have z1 : x1.val.size ≤ 9223372036854775807 := by have := k1.val; unfold maxLen at this; omega
  clear k0 k1 hf
  go_enter Try.func5, Try.ntmps5
  have L_0 := Lib.hid (K.out)
  have L_0b := Lib.hid (L_0.out.keep (new1 _ (x1.obj 26)))
  clear L_0
  have X4_0b := Lib.hid (at6_new w x1 26)
  have B0b := Lib.hid (new1 w (x1.obj 26))
  go_wp2_with fail
  refine (few_any A0 n0 c0 l0 40 _ L_0b.out (by omega)).mono ?_; rintro e w' ⟨rfl, rfl⟩
  rw [HF.out]
  go_wp2_with fail
  refine (live_any _).mono ?_; rintro e w1 ⟨rfl, hb⟩
  have S1 := Lib.hid (hb)
  have L_1 := Lib.hid (L_0b.out.keep S1.out)
  have X4_1 := Lib.hid (X4_0b.out.on S1.out)
  have B1 := Lib.hid (then_ B0b.out S1.out)
  clear hb S1 L_0b X4_0b B0b
  go_wp2
  go_ret
  exact ⟨rfl, B1.out⟩

theorem shortArg (w : World) (A0 : Option Addr) (n0 c0 : Nat) (l0 : List KV) (x1 : KV) (a2 : ByteArray) (k0 : KVs w A0 n0 c0 l0) (k1 : x1.ok) (hf : fewB 40 l0 = true) (hn : n0 ≤ 40) (hs1 : x1.key.size ≤ 60) (hs2 : x1.val.size ≤ 60) (hs3 : (60 : Int) < a2.size) (hz : a2.size ≤ 9223372036854775807) :
    Calls Try.prog 5 #[.slice A0 n0 c0, x1.agg, .string a2] w fun e w' => e = .returned (.bool true) ∧ Below w.heap.size w w' := by
  have K := Lib.hid k0
  have X := Lib.hid k1
  have HF := Lib.hid hf
  have z0 : x1.key.size ≤ 9223372036854775807 := by have := k1.key; unfold maxLen at this; omega
  have z1 : x1.val.size ≤ 9223372036854775807 := by have := k1.val; unfold maxLen at this; omega
  clear k0 k1 hf
  go_enter Try.func5, Try.ntmps5
  have L_0 := Lib.hid (K.out)
  have L_0b := Lib.hid (L_0.out.keep (new1 _ (x1.obj 26)))
  clear L_0
  have X4_0b := Lib.hid (at6_new w x1 26)
  have B0b := Lib.hid (new1 w (x1.obj 26))
  go_wp2_with fail
  refine (few_any A0 n0 c0 l0 40 _ L_0b.out (by omega)).mono ?_; rintro e w' ⟨rfl, rfl⟩
  rw [HF.out]
  go_wp2_with fail
  refine (live_any _).mono ?_; rintro e w1 ⟨rfl, hb⟩
  have S1 := Lib.hid (hb)
  have L_1 := Lib.hid (L_0b.out.keep S1.out)
  have X4_1 := Lib.hid (X4_0b.out.on S1.out)
  have B1 := Lib.hid (then_ B0b.out S1.out)
  clear hb S1 L_0b X4_0b B0b
  go_wp2
  go_ret
  exact ⟨rfl, B1.out⟩

theorem shortMay (w : World) (A0 : Option Addr) (n0 c0 : Nat) (l0 : List KV) (x1 : KV) (a2 : ByteArray) (k0 : KVs w A0 n0 c0 l0) (k1 : x1.ok) (hf : fewB 40 l0 = true) (hn : n0 ≤ 40) (hs1 : x1.key.size ≤ 60) (hs2 : x1.val.size ≤ 60) (hs3 : a2.size ≤ 60) (hm : mayP oneB l0 = false) :
    Calls Try.prog 5 #[.slice A0 n0 c0, x1.agg, .string a2] w fun e w' => e = .returned (.bool true) ∧ Below w.heap.size w w' := by
  have K := Lib.hid k0
  have X := Lib.hid k1
  have HF := Lib.hid hf
  have z0 : x1.key.size ≤ 9223372036854775807 := by have := k1.key; unfold maxLen at this; omega
  have z1 : x1.val.size ≤ 9223372036854775807 := by have := k1.val; unfold maxLen at this; omega
  have HM := Lib.hid hm
  clear k0 k1 hf hm
  go_enter Try.func5, Try.ntmps5
  have L_0 := Lib.hid (K.out)
  have L_0b := Lib.hid (L_0.out.keep (new1 _ (x1.obj 26)))
  clear L_0
  have X4_0b := Lib.hid (at6_new w x1 26)
  have B0b := Lib.hid (new1 w (x1.obj 26))
  go_wp2_with fail
  refine (few_any A0 n0 c0 l0 40 _ L_0b.out (by omega)).mono ?_; rintro e w' ⟨rfl, rfl⟩
  rw [HF.out]
  obtain ⟨qX40, qX41, qX42, qX43, qX44, qX45⟩ := X4_0b.out
  have qX4l := World.block_lt_of_cell? _ _ qX40
  go_wp2_with fail
  refine (may_any A0 n0 c0 l0 _ L_0b.out (by omega)).mono ?_; rintro e w1 ⟨rfl, hb⟩
  rw [HM.out]
  have S1 := Lib.hid (hb)
  have L_1 := Lib.hid (L_0b.out.keep S1.out)
  have X4_1 := Lib.hid (X4_0b.out.on S1.out)
  have B1 := Lib.hid (then_ B0b.out S1.out)
  clear hb S1 L_0b X4_0b B0b
  clear qX40 qX41 qX42 qX43 qX44 qX45 qX4l
  go_wp2_with fail
  refine (live_any _).mono ?_; rintro e w2 ⟨rfl, hb⟩
  have S2 := Lib.hid (hb)
  have L_2 := Lib.hid (L_1.out.keep S2.out)
  have X4_2 := Lib.hid (X4_1.out.on S2.out)
  have B2 := Lib.hid (then_ B1.out S2.out)
  clear hb S2 L_1 X4_1 B1
  go_wp2
  go_ret
  exact ⟨rfl, B2.out⟩

theorem shortOne (w : World) (A0 : Option Addr) (n0 c0 : Nat) (l0 : List KV) (x1 : KV) (a2 : ByteArray) (k0 : KVs w A0 n0 c0 l0) (k1 : x1.ok) (hf : fewB 40 l0 = true) (hn : n0 ≤ 40) (hs1 : x1.key.size ≤ 60) (hs2 : x1.val.size ≤ 60) (hs3 : a2.size ≤ 60) (hm : mayP oneB l0 = true) (h1 : oneB x1 = false) :
    Calls Try.prog 5 #[.slice A0 n0 c0, x1.agg, .string a2] w fun e w' => e = .returned (.bool true) ∧ Below w.heap.size w w' := by
  have K := Lib.hid k0
  have X := Lib.hid k1
  have HF := Lib.hid hf
  have z0 : x1.key.size ≤ 9223372036854775807 := by have := k1.key; unfold maxLen at this; omega
  have z1 : x1.val.size ≤ 9223372036854775807 := by have := k1.val; unfold maxLen at this; omega
  have HM := Lib.hid hm
  have H1 := Lib.hid h1
  clear k0 k1 hf hm h1
  go_enter Try.func5, Try.ntmps5
  have L_0 := Lib.hid (K.out)
  have L_0b := Lib.hid (L_0.out.keep (new1 _ (x1.obj 26)))
  clear L_0
  have X4_0b := Lib.hid (at6_new w x1 26)
  have B0b := Lib.hid (new1 w (x1.obj 26))
  go_wp2_with fail
  refine (few_any A0 n0 c0 l0 40 _ L_0b.out (by omega)).mono ?_; rintro e w' ⟨rfl, rfl⟩
  rw [HF.out]
  obtain ⟨qX40, qX41, qX42, qX43, qX44, qX45⟩ := X4_0b.out
  have qX4l := World.block_lt_of_cell? _ _ qX40
  go_wp2_with fail
  refine (may_any A0 n0 c0 l0 _ L_0b.out (by omega)).mono ?_; rintro e w1 ⟨rfl, hb⟩
  rw [HM.out]
  have S1 := Lib.hid (hb)
  have L_1 := Lib.hid (L_0b.out.keep S1.out)
  have X4_1 := Lib.hid (X4_0b.out.on S1.out)
  have B1 := Lib.hid (then_ B0b.out S1.out)
  clear hb S1 L_0b X4_0b B0b
  clear qX40 qX41 qX42 qX43 qX44 qX45 qX4l
  obtain ⟨qX40, qX41, qX42, qX43, qX44, qX45⟩ := X4_1.out
  have qX4l := World.block_lt_of_cell? _ _ qX40
  go_wp2_with fail
  refine (one_any x1 _ X.out).mono ?_; rintro e w2 ⟨rfl, hb⟩
  rw [H1.out]
  have S2 := Lib.hid (hb)
  have L_2 := Lib.hid (L_1.out.keep S2.out)
  have X4_2 := Lib.hid (X4_1.out.on S2.out)
  have B2 := Lib.hid (then_ B1.out S2.out)
  clear hb S2 L_1 X4_1 B1
  clear qX40 qX41 qX42 qX43 qX44 qX45 qX4l
  go_wp2_with fail
  refine (live_any _).mono ?_; rintro e w3 ⟨rfl, hb⟩
  have S3 := Lib.hid (hb)
  have L_3 := Lib.hid (L_2.out.keep S3.out)
  have X4_3 := Lib.hid (X4_2.out.on S3.out)
  have B3 := Lib.hid (then_ B2.out S3.out)
  clear hb S3 L_2 X4_2 B2
  go_wp2
  go_ret
  exact ⟨rfl, B3.out⟩

theorem walk (w : World) (A0 : Option Addr) (n0 c0 : Nat) (l0 : List KV) (x1 : KV) (a2 : ByteArray) (k0 : KVs w A0 n0 c0 l0) (k1 : x1.ok) (w2 : a2.size ≤ maxLen) :
    Calls Try.prog 5 #[.slice A0 n0 c0, x1.agg, .string a2] w fun e w' => e = .returned (.bool true) ∧ Below w.heap.size w w' := by
  cases hf : fewB 40 l0 with
  | false => exact shortFew w A0 n0 c0 l0 x1 a2 k0 k1 hf
  | true =>
    have hn : n0 ≤ 40 := by have := k0.len; simp only [fewB, Bool.and_eq_true, decide_eq_true_eq] at hf; omega
    by_cases hs1 : x1.key.size ≤ 60
    · by_cases hs2 : x1.val.size ≤ 60
      · by_cases hs3 : a2.size ≤ 60
        · cases hm : mayP oneB l0 with
          | false => exact shortMay w A0 n0 c0 l0 x1 a2 k0 k1 hf hn hs1 hs2 hs3 hm
          | true =>
            cases h1 : oneB x1 with
            | false => exact shortOne w A0 n0 c0 l0 x1 a2 k0 k1 hf hn hs1 hs2 hs3 hm h1
            | true =>
              have hr := mayP_rises hm
              by_cases he : a2 = x1.key
              · subst he
                cases hw : findL l0 x1.key with
                | none => exact walkEqNone w A0 n0 c0 l0 x1 k0 k1 hn hs1 hs2 hf hm h1 hr hw
                | some z => exact walkEqSome w A0 n0 c0 l0 x1 k0 k1 hn hs1 hs2 hf hm h1 hr z hw
              · have hne : teq a2 x1.key = false := teq_ne.2 he
                have hkx : teq x1.key a2 = false := teq_ne.2 (fun e => he e.symm)
                cases hw : findL l0 x1.key with
                | none =>
                  cases hk : findL l0 a2 with
                  | none => exact walkNoneNone w A0 n0 c0 l0 x1 a2 k0 k1 hn hs1 hs2 hs3 hf hm h1 hr hw hk hkx hne
                  | some y => exact walkNoneSome w A0 n0 c0 l0 x1 a2 k0 k1 hn hs1 hs2 hs3 hf hm h1 hr hw y hk hkx hne
                | some z =>
                  cases hk : findL l0 a2 with
                  | none => exact walkSomeNone w A0 n0 c0 l0 x1 a2 k0 k1 hn hs1 hs2 hs3 hf hm h1 hr z hw hk hkx hne
                  | some y => exact walkSomeSome w A0 n0 c0 l0 x1 a2 k0 k1 hn hs1 hs2 hs3 hf hm h1 hr z hw y hk hkx hne
        · exact shortArg w A0 n0 c0 l0 x1 a2 k0 k1 hf hn hs1 hs2 (by omega) (by unfold maxLen at w2; omega)
      · exact shortVal w A0 n0 c0 l0 x1 a2 k0 k1 hf hn hs1 (by omega)
    · exact shortKey w A0 n0 c0 l0 x1 a2 k0 k1 hf hn (by omega)

theorem own : ownKnob Try.prog.godebug = none := by kernel_rfl
theorem laidOut : laidOutB Try.prog = true := by kernel_rfl

set_option maxRecDepth 100000 in
theorem lifted (os : Os) (started : os.Started) (H : Type) (enc : TypeId × Value → H) :
    ReturnsInHanded {} Try.checked os 5 .any (Rows.histLaidSpec.pre6 enc Try.prog Try.f5 Rows.histLaidRow.domain false) (Rows.histLaidSpec.post enc Try.prog Try.f5 false true false false) := by
  refine returnsInHanded_of_change (C := Try.checked) own started (by kernel_rfl) Try.func5
    (ChangeSpec.witness6 (enc := enc) (C := Try.checked) false ⟨#[], #[.slice none 0 0, .agg #[.string ByteArray.empty, .string ByteArray.empty, .int .i64 0, .int .i64 0, .int .i64 0, .int .i64 0], .string ByteArray.empty], []⟩ 8 (by kernel_rfl) (by kernel_rfl) (by kernel_rfl) (by kernel_rfl)) ?_
  intro W base args ds gs before hval0 hW hcnd _
  have hval : ∀ (j : Nat) t v, Try.f5.params[j]? = some t → args[j]? = some v → Value.okWide Try.prog W .any base t v := hval0
  have hW' := hW
  obtain ⟨p, q, hA0, hV, rfl, hfz, hnd⟩ := hW
  have hA : DataW.TrodAll enc Try.prog W 0 (fun _ => true) true Try.f5.params.toList args.toList ds p := hA0
  rw [Try.params5] at hA hval
  obtain ⟨v0, vs0, d0, ds0, p0, q0, hargs, rfl, rfl, h0, r0⟩ := trodAll_cons hA
  obtain ⟨v1, vs1, d1, ds1, p1, q1, rfl, rfl, rfl, h1, r1⟩ := trodAll_cons r0
  obtain ⟨v2, vs2, d2, ds2, p2, q2, rfl, rfl, rfl, h2, r2⟩ := trodAll_cons r1
  obtain ⟨rfl, rfl, rfl⟩ := trodAll_nil r2
  obtain rfl : args = #[v0, v1, v2] := by cases args; simp_all
  obtain ⟨rfl, rfl⟩ := trodVars_none hV
  obtain ⟨A0, n0, c0, l0, rfl, k0⟩ := open_kvs (hval 0 22 v0 rfl rfl) h0
  obtain ⟨x1, rfl, k1⟩ := open_kv (hval 1 26 v1 rfl rfl) h1
  obtain ⟨a2, rfl, rfl, rfl, w2⟩ := open_string Try.underlying9 (hval 2 9 v2 rfl rfl) h2
  clear hA0 hval0
  refine (walk W A0 n0 c0 l0 x1 a2 k0 k1 w2).mono fun e W' ⟨he, bel⟩ => ?_
  subst he
  exact ⟨_, rfl, _, _, _, [], _, [], hW', trodAll_mk1 (shut_bool Try.underlying4 _), (trodAll_cons_mk (Below.trod laidOut (by kernel_rfl) (of_decide_eq_true (by kernel_rfl)) h0 bel (fun x hx => hW'.lt x (by simp [hx]))) (trodAll_cons_mk (Below.trod laidOut (by kernel_rfl) (of_decide_eq_true (by kernel_rfl)) h1 bel (fun x hx => hW'.lt x (by simp [hx]))) (trodAll_cons_mk (shut_string Try.underlying9 w2) trodAll_mk0))), rfl, bel.frame _, fun h => by cases h⟩

theorem over : Rows.histLaidRow.holds Try.pinned (OpenSpec.ofChange Rows.histLaidSpec) :=
  OpenClaim.holds_of_wide 5 Try.f5 rfl rfl rfl rfl rfl rfl rfl ⟨rfl, rfl, rfl, rfl, rfl⟩ rfl rfl rfl rfl rfl (by kernel_rfl) Try.func5 (by kernel_rfl)
    (of_decide_eq_true (by kernel_rfl)) (by unfold Func.isWrapper; first | (rw [if_pos (by decide +kernel)]; kernel_rfl) | (rw [if_neg (by decide +kernel)]; exact ⟨rfl, rfl⟩))
    (fun os started H enc _ => lifted os started H enc)

theorem proved : Rows.HistLaidSaid := over
#print axioms proved
end Go.Proofs.Ytlpnnbjdolodcaa.histLaid
