/- For every list of things and every two things the law HistAgain answers true: what is laid twice is laid once; unlike keys are laid in either order. No condition. -/
import Derived.Test.YtlpnnbjdolodcaaKvOpen
import Derived.Test.YtlpnnbjdolodcaaHistLive
import Derived.Test.YtlpnnbjdolodcaaRows
import Derived.Deep.RegionHeld3
namespace Go.Proofs.Ytlpnnbjdolodcaa.histAgain
open Go.ChangeShapes Go.WideShapes Go.ChangeAt Go.RowKit Go.Proofs.Ytlpnnbjdolodcaa.P
open Go.ChangeMaps (open_string shut_string)
set_option linter.unusedVariables false
set_option maxHeartbeats 2000000
set_option maxRecDepth 100000

theorem walkEq (w : World) (A0 : Option Addr) (n0 c0 : Nat) (l0 : List KV) (x1 x2 : KV) (k0 : KVs w A0 n0 c0 l0) (k1 : x1.ok) (k2 : x2.ok) (hn : n0 ≤ 40) (hf : fewB 40 l0 = true) (hm : mayP oneB l0 = true) (h1 : oneB x1 = true) (h2 : oneB x2 = true) (he : teq x1.key x2.key = true) :
    Calls Try.prog 6 #[.slice A0 n0 c0, x1.agg, x2.agg] w fun e w' => e = .returned (.bool true) ∧ Below w.heap.size w w' := by
  have K := Lib.hid k0
  have X := Lib.hid k1
  have Y := Lib.hid k2
  have HR := Lib.hid (mayP_rises hm)
  have HM := Lib.hid hm
  have H1 := Lib.hid h1
  have H2 := Lib.hid h2
  have HF := Lib.hid hf
  have HE := Lib.hid he
  have hkb : (x1.key.toList == x2.key.toList) = true := he
  have HN0 : Hid (l0.length ≤ 40) := Lib.hid (by rw [k0.len]; exact hn)
  clear k0 k1 k2 hm h1 h2 hf he
  go_enter Try.func6, Try.ntmps6
  have L_0 := Lib.hid (K.out)
  have L_0b := Lib.hid (L_0.out.keep (new1 _ (x1.obj 26)))
  clear L_0
  have X4_0b := Lib.hid (at6_new w x1 26)
  have B0b := Lib.hid (new1 w (x1.obj 26))
  have Y5_0c := Lib.hid (at6_new (w.alloc (x1.obj 26)) x2 26)
  have L_0c := Lib.hid (L_0b.out.keep (new1 _ (x2.obj 26)))
  have X4_0c := Lib.hid (X4_0b.out.on (new1 _ (x2.obj 26)))
  have B0c := Lib.hid (then_ B0b.out (new1 _ (x2.obj 26)))
  clear L_0b X4_0b B0b
  go_wp2_with fail
  refine (few_any A0 n0 c0 l0 40 _ L_0c.out (by omega)).mono ?_; rintro e w' ⟨rfl, rfl⟩
  rw [HF.out]
  go_wp2_with fail
  refine (may_any A0 n0 c0 l0 _ L_0c.out (by omega)).mono ?_; rintro e w1 ⟨rfl, hb⟩
  rw [HM.out]
  have S1 := Lib.hid (hb)
  have L_1 := Lib.hid (L_0c.out.keep S1.out)
  have X4_1 := Lib.hid (X4_0c.out.on S1.out)
  have Y5_1 := Lib.hid (Y5_0c.out.on S1.out)
  have B1 := Lib.hid (then_ B0c.out S1.out)
  clear hb S1 L_0c X4_0c Y5_0c B0c
  have Y5_1' : Hid (At6 w1 ⟨w.heap.size + 1, 0, none⟩ x2) := Lib.hid (by have := Y5_1.out; simpa using this)
  clear Y5_1
  have Y5_1q := Y5_1'
  clear Y5_1'
  obtain ⟨q0, q1, q2, q3, q4, q5⟩ := X4_1.out
  have ql := World.block_lt_of_cell? _ _ q0
  go_wp2_with fail
  refine (one_any x1 _ X.out).mono ?_; rintro e w2 ⟨rfl, hb⟩
  rw [H1.out]
  have S2 := Lib.hid (hb)
  have L_2 := Lib.hid (L_1.out.keep S2.out)
  have X4_2 := Lib.hid (X4_1.out.on S2.out)
  have Y5_2 := Lib.hid (Y5_1q.out.on S2.out)
  have B2 := Lib.hid (then_ B1.out S2.out)
  clear hb S2 L_1 X4_1 Y5_1q B1
  clear q0 q1 q2 q3 q4 q5 ql
  obtain ⟨q0, q1, q2, q3, q4, q5⟩ := Y5_2.out
  have ql := World.block_lt_of_cell? _ _ q0
  go_wp2_with fail
  refine (one_any x2 _ Y.out).mono ?_; rintro e w3 ⟨rfl, hb⟩
  rw [H2.out]
  have S3 := Lib.hid (hb)
  have L_3 := Lib.hid (L_2.out.keep S3.out)
  have X4_3 := Lib.hid (X4_2.out.on S3.out)
  have Y5_3 := Lib.hid (Y5_2.out.on S3.out)
  have B3 := Lib.hid (then_ B2.out S3.out)
  clear hb S3 L_2 X4_2 Y5_2 B2
  clear q0 q1 q2 q3 q4 q5 ql
  obtain ⟨q0, q1, q2, q3, q4, q5⟩ := X4_3.out
  have ql := World.block_lt_of_cell? _ _ q0
  go_wp2_with fail
  refine (Lay_any A0 n0 c0 l0 x1 _ L_3.out X.out (by omega)).mono ?_; rintro e w4 ⟨A7, n7, c7, rfl, h, hb⟩
  have M := Lib.hid h
  clear h
  have S4 := Lib.hid (hb)
  have L_4 := Lib.hid (L_3.out.keep S4.out)
  have X4_4 := Lib.hid (X4_3.out.on S4.out)
  have Y5_4 := Lib.hid (Y5_3.out.on S4.out)
  have B4 := Lib.hid (then_ B3.out S4.out)
  clear hb S4 L_3 X4_3 Y5_3 B3
  clear q0 q1 q2 q3 q4 q5 ql
  have M_4n := Lib.hid (M.out)
  have hn7 : n7 ≤ 1000 := by have h1 := M.out.len; have h2 := layL_len l0 x1; have h3 := HN0.out; omega
  obtain ⟨q0, q1, q2, q3, q4, q5⟩ := X4_4.out
  have ql := World.block_lt_of_cell? _ _ q0
  obtain ⟨r0, r1, r2, r3, r4, r5⟩ := Y5_4.out
  have rl := World.block_lt_of_cell? _ _ r0
  go_wp2
  have tok5 : True := trivial
  have tok6 : True := trivial
  have tok7 : True := trivial
  have tok8 : True := trivial
  have tok9 : True := trivial
  go_region_held3 (fun w' => w'.cell? ⟨w.heap.size, 0, none⟩ = some (.string x1.key) ∧ w'.cell? ⟨w.heap.size, 1, none⟩ = some (.string x1.val) ∧ w'.cell? ⟨w.heap.size, 2, none⟩ = some (.int .i64 x1.cre) ∧ w'.cell? ⟨w.heap.size, 3, none⟩ = some (.int .i64 x1.mod) ∧ w'.cell? ⟨w.heap.size, 4, none⟩ = some (.int .i64 x1.ver) ∧ w'.cell? ⟨w.heap.size, 5, none⟩ = some (.int .i64 x1.lea) ∧ w'.cell? ⟨w.heap.size + 1, 0, none⟩ = some (.string x2.key) ∧ w'.cell? ⟨w.heap.size + 1, 1, none⟩ = some (.string x2.val) ∧ w'.cell? ⟨w.heap.size + 1, 2, none⟩ = some (.int .i64 x2.cre) ∧ w'.cell? ⟨w.heap.size + 1, 3, none⟩ = some (.int .i64 x2.mod) ∧ w'.cell? ⟨w.heap.size + 1, 4, none⟩ = some (.int .i64 x2.ver) ∧ w'.cell? ⟨w.heap.size + 1, 5, none⟩ = some (.int .i64 x2.lea)) (go_keep) (first
    | (go_at_call 23; have _t := tok5; clear _t tok5; refine (Lay_any A7 n7 c7 (layL l0 x1) x1 _ (M_4n.out.keep (new_drew _)) X.out (by omega)).mono ?_; rintro e w5 ⟨A8, n8, c8, rfl, h, hb⟩; rw [lay_lay_same _ _ _ rfl] at h; obtain rfl : n7 = n8 := M.out.len.symm.trans h.len; have MM := Lib.hid h; clear h; have S5 := Lib.hid (then_ (new_drew _) hb); have L_5 := Lib.hid (L_4.out.keep S5.out); have X4_5 := Lib.hid (X4_4.out.on S5.out); have Y5_5 := Lib.hid (Y5_4.out.on S5.out); have M_5 := Lib.hid (M_4n.out.keep S5.out); have B5 := Lib.hid (then_ B4.out S5.out); have HS5 := S5; clear hb S5 L_4 X4_4 Y5_4 M_4n B4; have HR5 : Hid (Below w4.heap.size w4 w5) := Lib.hid (HS5.out); obtain ⟨hc5, hf5⟩ := bcell HR5.out)
    | (go_at_call 15; have _t := tok6; clear _t tok6; refine (kvs_same A8 A7 n7 c8 c7 _ _ MM.out M_5.out (by omega)).mono ?_; rintro e w6 ⟨rfl, hb⟩; have S6 := Lib.hid (hb); have L_6 := Lib.hid (L_5.out.keep S6.out); have X4_6 := Lib.hid (X4_5.out.on S6.out); have Y5_6 := Lib.hid (Y5_5.out.on S6.out); have M_6 := Lib.hid (M_5.out.keep S6.out); have B6 := Lib.hid (then_ B5.out S6.out); have HS6 := S6; clear hb S6 L_5 X4_5 Y5_5 M_5 B5; have HR6 : Hid (Below w4.heap.size w4 w6) := Lib.hid (then_ HR5.out (HS6.out)); clear hc5 hf5; obtain ⟨hc6, hf6⟩ := bcell HR6.out)
    | (go_at_call 16; have _t := tok7; clear _t tok7; refine (Take_any A7 n7 c7 (layL l0 x1) x1.key _ M_6.out (by omega)).mono ?_; rintro e w7 ⟨A9, n9, c9, rfl, h, hb⟩; rw [take_lay_same _ _ HR.out] at h; have T9 := Lib.hid h; clear h; have S7 := Lib.hid (hb); have L_7 := Lib.hid (L_6.out.keep S7.out); have X4_7 := Lib.hid (X4_6.out.on S7.out); have Y5_7 := Lib.hid (Y5_6.out.on S7.out); have M_7 := Lib.hid (M_6.out.keep S7.out); have B7 := Lib.hid (then_ B6.out S7.out); have HS7 := S7; clear hb S7 L_6 X4_6 Y5_6 M_6 B6; have HR7 : Hid (Below w4.heap.size w4 w7) := Lib.hid (then_ HR6.out (HS7.out)); clear hc6 hf6; obtain ⟨hc7, hf7⟩ := bcell HR7.out; have T9_7 := T9)
    | (go_at_call 16; have _t := tok8; clear _t tok8; refine (Take_any A0 n0 c0 l0 x1.key _ L_7.out (by omega)).mono ?_; rintro e w8 ⟨A10, n10, c10, rfl, h, hb⟩; obtain rfl : n9 = n10 := T9.out.len.symm.trans h.len; have T10 := Lib.hid h; clear h; have S8 := Lib.hid (hb); have L_8 := Lib.hid (L_7.out.keep S8.out); have X4_8 := Lib.hid (X4_7.out.on S8.out); have Y5_8 := Lib.hid (Y5_7.out.on S8.out); have M_8 := Lib.hid (M_7.out.keep S8.out); have T9_8 := Lib.hid (T9_7.out.keep S8.out); have B8 := Lib.hid (then_ B7.out S8.out); have HS8 := S8; clear hb S8 L_7 X4_7 Y5_7 M_7 T9_7 B7; have HR8 : Hid (Below w4.heap.size w4 w8) := Lib.hid (then_ HR7.out (HS8.out)); clear hc7 hf7; obtain ⟨hc8, hf8⟩ := bcell HR8.out)
    | (go_at_call 15; have _t := tok9; clear _t tok9; refine (kvs_same A9 A10 n9 c9 c10 _ _ T9_8.out T10.out (by have h1 := takeL_len l0 x1.key; have h2 := T10.out.len; have h3 := HN0.out; omega)).mono ?_; rintro e w9 ⟨rfl, hb⟩; have S9 := Lib.hid (hb); have L_9 := Lib.hid (L_8.out.keep S9.out); have X4_9 := Lib.hid (X4_8.out.on S9.out); have Y5_9 := Lib.hid (Y5_8.out.on S9.out); have M_9 := Lib.hid (M_8.out.keep S9.out); have T9_9 := Lib.hid (T9_8.out.keep S9.out); have B9 := Lib.hid (then_ B8.out S9.out); have HS9 := S9; clear hb S9 L_8 X4_8 Y5_8 M_8 T9_8 B8; have HR9 : Hid (Below w4.heap.size w4 w9) := Lib.hid (then_ HR8.out (HS9.out)); clear hc8 hf8; obtain ⟨hc9, hf9⟩ := bcell HR9.out))
  clear q0 q1 q2 q3 q4 q5 ql r0 r1 r2 r3 r4 r5 rl hc9 hf9
  obtain ⟨q0, q1, q2, q3, q4, q5⟩ := X4_9.out
  have ql := World.block_lt_of_cell? _ _ q0
  obtain ⟨r0, r1, r2, r3, r4, r5⟩ := Y5_9.out
  have rl := World.block_lt_of_cell? _ _ r0
  go_wp2
  have tok10 : True := trivial
  have tok11 : True := trivial
  have tok12 : True := trivial
  have tok13 : True := trivial
  go_region_held3 (fun w' => w'.cell? ⟨w.heap.size, 0, none⟩ = some (.string x1.key) ∧ w'.cell? ⟨w.heap.size, 1, none⟩ = some (.string x1.val) ∧ w'.cell? ⟨w.heap.size, 2, none⟩ = some (.int .i64 x1.cre) ∧ w'.cell? ⟨w.heap.size, 3, none⟩ = some (.int .i64 x1.mod) ∧ w'.cell? ⟨w.heap.size, 4, none⟩ = some (.int .i64 x1.ver) ∧ w'.cell? ⟨w.heap.size, 5, none⟩ = some (.int .i64 x1.lea) ∧ w'.cell? ⟨w.heap.size + 1, 0, none⟩ = some (.string x2.key) ∧ w'.cell? ⟨w.heap.size + 1, 1, none⟩ = some (.string x2.val) ∧ w'.cell? ⟨w.heap.size + 1, 2, none⟩ = some (.int .i64 x2.cre) ∧ w'.cell? ⟨w.heap.size + 1, 3, none⟩ = some (.int .i64 x2.mod) ∧ w'.cell? ⟨w.heap.size + 1, 4, none⟩ = some (.int .i64 x2.ver) ∧ w'.cell? ⟨w.heap.size + 1, 5, none⟩ = some (.int .i64 x2.lea)) (go_keep) (first
    | (go_at_call 23; have _t := tok10; clear _t tok10; refine (Lay_any A7 n7 c7 (layL l0 x1) x2 _ (M_9.out.keep (new_drew _)) Y.out (by omega)).mono ?_; rintro e w10 ⟨A11, n11, c11, rfl, h, hb⟩; rw [lay_lay_same _ _ _ (teq_iff.1 HE.out)] at h; have U := Lib.hid h; clear h; have S10 := Lib.hid (then_ (new_drew _) hb); have L_10 := Lib.hid (L_9.out.keep S10.out); have X4_10 := Lib.hid (X4_9.out.on S10.out); have Y5_10 := Lib.hid (Y5_9.out.on S10.out); have M_10 := Lib.hid (M_9.out.keep S10.out); have B10 := Lib.hid (then_ B9.out S10.out); have HS10 := S10; clear hb S10 L_9 X4_9 Y5_9 M_9 B9; have HR10 : Hid (Below w9.heap.size w9 w10) := Lib.hid (HS10.out); obtain ⟨hc10, hf10⟩ := bcell HR10.out; have U_10 := U)
    | (go_at_call 23; have _t := tok11; clear _t tok11; refine (Lay_any A0 n0 c0 l0 x2 _ L_10.out Y.out (by omega)).mono ?_; rintro e w11 ⟨A12, n12, c12, rfl, h, hb⟩; obtain rfl : n11 = n12 := U.out.len.symm.trans h.len; have V := Lib.hid h; clear h; have S11 := Lib.hid (hb); have L_11 := Lib.hid (L_10.out.keep S11.out); have X4_11 := Lib.hid (X4_10.out.on S11.out); have Y5_11 := Lib.hid (Y5_10.out.on S11.out); have M_11 := Lib.hid (M_10.out.keep S11.out); have U_11 := Lib.hid (U_10.out.keep S11.out); have B11 := Lib.hid (then_ B10.out S11.out); have HS11 := S11; clear hb S11 L_10 X4_10 Y5_10 M_10 U_10 B10; have HR11 : Hid (Below w9.heap.size w9 w11) := Lib.hid (then_ HR10.out (HS11.out)); clear hc10 hf10; obtain ⟨hc11, hf11⟩ := bcell HR11.out)
    | (go_at_call 15; have _t := tok12; clear _t tok12; refine (kvs_same A11 A12 n11 c11 c12 _ _ U_11.out V.out (by have h1 := layL_len l0 x2; have h2 := V.out.len; have h3 := HN0.out; omega)).mono ?_; rintro e w12 ⟨rfl, hb⟩; have S12 := Lib.hid (hb); have L_12 := Lib.hid (L_11.out.keep S12.out); have X4_12 := Lib.hid (X4_11.out.on S12.out); have Y5_12 := Lib.hid (Y5_11.out.on S12.out); have M_12 := Lib.hid (M_11.out.keep S12.out); have U_12 := Lib.hid (U_11.out.keep S12.out); have B12 := Lib.hid (then_ B11.out S12.out); have HS12 := S12; clear hb S12 L_11 X4_11 Y5_11 M_11 U_11 B11; have HR12 : Hid (Below w9.heap.size w9 w12) := Lib.hid (then_ HR11.out (HS12.out)); clear hc11 hf11; obtain ⟨hc12, hf12⟩ := bcell HR12.out)
    | (go_at_call 10; have _t := tok13; clear _t tok13; refine (live_any _).mono ?_; rintro e w13 ⟨rfl, hb⟩; have S13 := Lib.hid (hb); have L_13 := Lib.hid (L_12.out.keep S13.out); have X4_13 := Lib.hid (X4_12.out.on S13.out); have Y5_13 := Lib.hid (Y5_12.out.on S13.out); have M_13 := Lib.hid (M_12.out.keep S13.out); have U_13 := Lib.hid (U_12.out.keep S13.out); have B13 := Lib.hid (then_ B12.out S13.out); have HS13 := S13; clear hb S13 L_12 X4_12 Y5_12 M_12 U_12 B12; have HR13 : Hid (Below w9.heap.size w9 w13) := Lib.hid (then_ HR12.out (HS13.out)); clear hc12 hf12; obtain ⟨hc13, hf13⟩ := bcell HR13.out))
  go_wp2
  go_ret
  exact ⟨rfl, B13.out⟩

theorem walkNe (w : World) (A0 : Option Addr) (n0 c0 : Nat) (l0 : List KV) (x1 x2 : KV) (k0 : KVs w A0 n0 c0 l0) (k1 : x1.ok) (k2 : x2.ok) (hn : n0 ≤ 40) (hf : fewB 40 l0 = true) (hm : mayP oneB l0 = true) (h1 : oneB x1 = true) (h2 : oneB x2 = true) (he : teq x1.key x2.key = false) :
    Calls Try.prog 6 #[.slice A0 n0 c0, x1.agg, x2.agg] w fun e w' => e = .returned (.bool true) ∧ Below w.heap.size w w' := by
  have K := Lib.hid k0
  have X := Lib.hid k1
  have Y := Lib.hid k2
  have HR := Lib.hid (mayP_rises hm)
  have HM := Lib.hid hm
  have H1 := Lib.hid h1
  have H2 := Lib.hid h2
  have HF := Lib.hid hf
  have HE := Lib.hid he
  have hkb : (x1.key.toList == x2.key.toList) = false := he
  have HN0 : Hid (l0.length ≤ 40) := Lib.hid (by rw [k0.len]; exact hn)
  clear k0 k1 k2 hm h1 h2 hf he
  go_enter Try.func6, Try.ntmps6
  have L_0 := Lib.hid (K.out)
  have L_0b := Lib.hid (L_0.out.keep (new1 _ (x1.obj 26)))
  clear L_0
  have X4_0b := Lib.hid (at6_new w x1 26)
  have B0b := Lib.hid (new1 w (x1.obj 26))
  have Y5_0c := Lib.hid (at6_new (w.alloc (x1.obj 26)) x2 26)
  have L_0c := Lib.hid (L_0b.out.keep (new1 _ (x2.obj 26)))
  have X4_0c := Lib.hid (X4_0b.out.on (new1 _ (x2.obj 26)))
  have B0c := Lib.hid (then_ B0b.out (new1 _ (x2.obj 26)))
  clear L_0b X4_0b B0b
  go_wp2_with fail
  refine (few_any A0 n0 c0 l0 40 _ L_0c.out (by omega)).mono ?_; rintro e w' ⟨rfl, rfl⟩
  rw [HF.out]
  go_wp2_with fail
  refine (may_any A0 n0 c0 l0 _ L_0c.out (by omega)).mono ?_; rintro e w1 ⟨rfl, hb⟩
  rw [HM.out]
  have S1 := Lib.hid (hb)
  have L_1 := Lib.hid (L_0c.out.keep S1.out)
  have X4_1 := Lib.hid (X4_0c.out.on S1.out)
  have Y5_1 := Lib.hid (Y5_0c.out.on S1.out)
  have B1 := Lib.hid (then_ B0c.out S1.out)
  clear hb S1 L_0c X4_0c Y5_0c B0c
  have Y5_1' : Hid (At6 w1 ⟨w.heap.size + 1, 0, none⟩ x2) := Lib.hid (by have := Y5_1.out; simpa using this)
  clear Y5_1
  have Y5_1q := Y5_1'
  clear Y5_1'
  obtain ⟨q0, q1, q2, q3, q4, q5⟩ := X4_1.out
  have ql := World.block_lt_of_cell? _ _ q0
  go_wp2_with fail
  refine (one_any x1 _ X.out).mono ?_; rintro e w2 ⟨rfl, hb⟩
  rw [H1.out]
  have S2 := Lib.hid (hb)
  have L_2 := Lib.hid (L_1.out.keep S2.out)
  have X4_2 := Lib.hid (X4_1.out.on S2.out)
  have Y5_2 := Lib.hid (Y5_1q.out.on S2.out)
  have B2 := Lib.hid (then_ B1.out S2.out)
  clear hb S2 L_1 X4_1 Y5_1q B1
  clear q0 q1 q2 q3 q4 q5 ql
  obtain ⟨q0, q1, q2, q3, q4, q5⟩ := Y5_2.out
  have ql := World.block_lt_of_cell? _ _ q0
  go_wp2_with fail
  refine (one_any x2 _ Y.out).mono ?_; rintro e w3 ⟨rfl, hb⟩
  rw [H2.out]
  have S3 := Lib.hid (hb)
  have L_3 := Lib.hid (L_2.out.keep S3.out)
  have X4_3 := Lib.hid (X4_2.out.on S3.out)
  have Y5_3 := Lib.hid (Y5_2.out.on S3.out)
  have B3 := Lib.hid (then_ B2.out S3.out)
  clear hb S3 L_2 X4_2 Y5_2 B2
  clear q0 q1 q2 q3 q4 q5 ql
  obtain ⟨q0, q1, q2, q3, q4, q5⟩ := X4_3.out
  have ql := World.block_lt_of_cell? _ _ q0
  go_wp2_with fail
  refine (Lay_any A0 n0 c0 l0 x1 _ L_3.out X.out (by omega)).mono ?_; rintro e w4 ⟨A7, n7, c7, rfl, h, hb⟩
  have M := Lib.hid h
  clear h
  have S4 := Lib.hid (hb)
  have L_4 := Lib.hid (L_3.out.keep S4.out)
  have X4_4 := Lib.hid (X4_3.out.on S4.out)
  have Y5_4 := Lib.hid (Y5_3.out.on S4.out)
  have B4 := Lib.hid (then_ B3.out S4.out)
  clear hb S4 L_3 X4_3 Y5_3 B3
  clear q0 q1 q2 q3 q4 q5 ql
  have M_4n := Lib.hid (M.out)
  have hn7 : n7 ≤ 1000 := by have h1 := M.out.len; have h2 := layL_len l0 x1; have h3 := HN0.out; omega
  obtain ⟨q0, q1, q2, q3, q4, q5⟩ := X4_4.out
  have ql := World.block_lt_of_cell? _ _ q0
  obtain ⟨r0, r1, r2, r3, r4, r5⟩ := Y5_4.out
  have rl := World.block_lt_of_cell? _ _ r0
  go_wp2
  have tok5 : True := trivial
  have tok6 : True := trivial
  have tok7 : True := trivial
  have tok8 : True := trivial
  have tok9 : True := trivial
  go_region_held3 (fun w' => w'.cell? ⟨w.heap.size, 0, none⟩ = some (.string x1.key) ∧ w'.cell? ⟨w.heap.size, 1, none⟩ = some (.string x1.val) ∧ w'.cell? ⟨w.heap.size, 2, none⟩ = some (.int .i64 x1.cre) ∧ w'.cell? ⟨w.heap.size, 3, none⟩ = some (.int .i64 x1.mod) ∧ w'.cell? ⟨w.heap.size, 4, none⟩ = some (.int .i64 x1.ver) ∧ w'.cell? ⟨w.heap.size, 5, none⟩ = some (.int .i64 x1.lea) ∧ w'.cell? ⟨w.heap.size + 1, 0, none⟩ = some (.string x2.key) ∧ w'.cell? ⟨w.heap.size + 1, 1, none⟩ = some (.string x2.val) ∧ w'.cell? ⟨w.heap.size + 1, 2, none⟩ = some (.int .i64 x2.cre) ∧ w'.cell? ⟨w.heap.size + 1, 3, none⟩ = some (.int .i64 x2.mod) ∧ w'.cell? ⟨w.heap.size + 1, 4, none⟩ = some (.int .i64 x2.ver) ∧ w'.cell? ⟨w.heap.size + 1, 5, none⟩ = some (.int .i64 x2.lea)) (go_keep) (first
    | (go_at_call 23; have _t := tok5; clear _t tok5; refine (Lay_any A7 n7 c7 (layL l0 x1) x1 _ (M_4n.out.keep (new_drew _)) X.out (by omega)).mono ?_; rintro e w5 ⟨A8, n8, c8, rfl, h, hb⟩; rw [lay_lay_same _ _ _ rfl] at h; obtain rfl : n7 = n8 := M.out.len.symm.trans h.len; have MM := Lib.hid h; clear h; have S5 := Lib.hid (then_ (new_drew _) hb); have L_5 := Lib.hid (L_4.out.keep S5.out); have X4_5 := Lib.hid (X4_4.out.on S5.out); have Y5_5 := Lib.hid (Y5_4.out.on S5.out); have M_5 := Lib.hid (M_4n.out.keep S5.out); have B5 := Lib.hid (then_ B4.out S5.out); have HS5 := S5; clear hb S5 L_4 X4_4 Y5_4 M_4n B4; have HR5 : Hid (Below w4.heap.size w4 w5) := Lib.hid (HS5.out); obtain ⟨hc5, hf5⟩ := bcell HR5.out)
    | (go_at_call 15; have _t := tok6; clear _t tok6; refine (kvs_same A8 A7 n7 c8 c7 _ _ MM.out M_5.out (by omega)).mono ?_; rintro e w6 ⟨rfl, hb⟩; have S6 := Lib.hid (hb); have L_6 := Lib.hid (L_5.out.keep S6.out); have X4_6 := Lib.hid (X4_5.out.on S6.out); have Y5_6 := Lib.hid (Y5_5.out.on S6.out); have M_6 := Lib.hid (M_5.out.keep S6.out); have B6 := Lib.hid (then_ B5.out S6.out); have HS6 := S6; clear hb S6 L_5 X4_5 Y5_5 M_5 B5; have HR6 : Hid (Below w4.heap.size w4 w6) := Lib.hid (then_ HR5.out (HS6.out)); clear hc5 hf5; obtain ⟨hc6, hf6⟩ := bcell HR6.out)
    | (go_at_call 16; have _t := tok7; clear _t tok7; refine (Take_any A7 n7 c7 (layL l0 x1) x1.key _ M_6.out (by omega)).mono ?_; rintro e w7 ⟨A9, n9, c9, rfl, h, hb⟩; rw [take_lay_same _ _ HR.out] at h; have T9 := Lib.hid h; clear h; have S7 := Lib.hid (hb); have L_7 := Lib.hid (L_6.out.keep S7.out); have X4_7 := Lib.hid (X4_6.out.on S7.out); have Y5_7 := Lib.hid (Y5_6.out.on S7.out); have M_7 := Lib.hid (M_6.out.keep S7.out); have B7 := Lib.hid (then_ B6.out S7.out); have HS7 := S7; clear hb S7 L_6 X4_6 Y5_6 M_6 B6; have HR7 : Hid (Below w4.heap.size w4 w7) := Lib.hid (then_ HR6.out (HS7.out)); clear hc6 hf6; obtain ⟨hc7, hf7⟩ := bcell HR7.out; have T9_7 := T9)
    | (go_at_call 16; have _t := tok8; clear _t tok8; refine (Take_any A0 n0 c0 l0 x1.key _ L_7.out (by omega)).mono ?_; rintro e w8 ⟨A10, n10, c10, rfl, h, hb⟩; obtain rfl : n9 = n10 := T9.out.len.symm.trans h.len; have T10 := Lib.hid h; clear h; have S8 := Lib.hid (hb); have L_8 := Lib.hid (L_7.out.keep S8.out); have X4_8 := Lib.hid (X4_7.out.on S8.out); have Y5_8 := Lib.hid (Y5_7.out.on S8.out); have M_8 := Lib.hid (M_7.out.keep S8.out); have T9_8 := Lib.hid (T9_7.out.keep S8.out); have B8 := Lib.hid (then_ B7.out S8.out); have HS8 := S8; clear hb S8 L_7 X4_7 Y5_7 M_7 T9_7 B7; have HR8 : Hid (Below w4.heap.size w4 w8) := Lib.hid (then_ HR7.out (HS8.out)); clear hc7 hf7; obtain ⟨hc8, hf8⟩ := bcell HR8.out)
    | (go_at_call 15; have _t := tok9; clear _t tok9; refine (kvs_same A9 A10 n9 c9 c10 _ _ T9_8.out T10.out (by have h1 := takeL_len l0 x1.key; have h2 := T10.out.len; have h3 := HN0.out; omega)).mono ?_; rintro e w9 ⟨rfl, hb⟩; have S9 := Lib.hid (hb); have L_9 := Lib.hid (L_8.out.keep S9.out); have X4_9 := Lib.hid (X4_8.out.on S9.out); have Y5_9 := Lib.hid (Y5_8.out.on S9.out); have M_9 := Lib.hid (M_8.out.keep S9.out); have T9_9 := Lib.hid (T9_8.out.keep S9.out); have B9 := Lib.hid (then_ B8.out S9.out); have HS9 := S9; clear hb S9 L_8 X4_8 Y5_8 M_8 T9_8 B8; have HR9 : Hid (Below w4.heap.size w4 w9) := Lib.hid (then_ HR8.out (HS9.out)); clear hc8 hf8; obtain ⟨hc9, hf9⟩ := bcell HR9.out))
  clear q0 q1 q2 q3 q4 q5 ql r0 r1 r2 r3 r4 r5 rl hc9 hf9
  obtain ⟨q0, q1, q2, q3, q4, q5⟩ := X4_9.out
  have ql := World.block_lt_of_cell? _ _ q0
  obtain ⟨r0, r1, r2, r3, r4, r5⟩ := Y5_9.out
  have rl := World.block_lt_of_cell? _ _ r0
  go_wp2
  have tok10 : True := trivial
  have tok11 : True := trivial
  have tok12 : True := trivial
  have tok13 : True := trivial
  have tok14 : True := trivial
  go_region_held3 (fun w' => w'.cell? ⟨w.heap.size, 0, none⟩ = some (.string x1.key) ∧ w'.cell? ⟨w.heap.size, 1, none⟩ = some (.string x1.val) ∧ w'.cell? ⟨w.heap.size, 2, none⟩ = some (.int .i64 x1.cre) ∧ w'.cell? ⟨w.heap.size, 3, none⟩ = some (.int .i64 x1.mod) ∧ w'.cell? ⟨w.heap.size, 4, none⟩ = some (.int .i64 x1.ver) ∧ w'.cell? ⟨w.heap.size, 5, none⟩ = some (.int .i64 x1.lea) ∧ w'.cell? ⟨w.heap.size + 1, 0, none⟩ = some (.string x2.key) ∧ w'.cell? ⟨w.heap.size + 1, 1, none⟩ = some (.string x2.val) ∧ w'.cell? ⟨w.heap.size + 1, 2, none⟩ = some (.int .i64 x2.cre) ∧ w'.cell? ⟨w.heap.size + 1, 3, none⟩ = some (.int .i64 x2.mod) ∧ w'.cell? ⟨w.heap.size + 1, 4, none⟩ = some (.int .i64 x2.ver) ∧ w'.cell? ⟨w.heap.size + 1, 5, none⟩ = some (.int .i64 x2.lea)) (go_keep) (first
    | (go_at_call 23; have _t := tok10; clear _t tok10; refine (Lay_any A7 n7 c7 (layL l0 x1) x2 _ (M_9.out.keep (new_drew _)) Y.out (by omega)).mono ?_; rintro e w10 ⟨A11, n11, c11, rfl, h, hb⟩; have U := Lib.hid h; clear h; have S10 := Lib.hid (then_ (new_drew _) hb); have L_10 := Lib.hid (L_9.out.keep S10.out); have X4_10 := Lib.hid (X4_9.out.on S10.out); have Y5_10 := Lib.hid (Y5_9.out.on S10.out); have M_10 := Lib.hid (M_9.out.keep S10.out); have B10 := Lib.hid (then_ B9.out S10.out); have HS10 := S10; clear hb S10 L_9 X4_9 Y5_9 M_9 B9; have HR10 : Hid (Below w9.heap.size w9 w10) := Lib.hid (HS10.out); obtain ⟨hc10, hf10⟩ := bcell HR10.out; have U_10 := U)
    | (go_at_call 23; have _t := tok11; clear _t tok11; refine (Lay_any A0 n0 c0 l0 x2 _ L_10.out Y.out (by omega)).mono ?_; rintro e w11 ⟨A12, n12, c12, rfl, h, hb⟩; have V := Lib.hid h; have hn12 : n12 ≤ 1000 := (by have h1 := layL_len l0 x2; have h2 := h.len; have h3 := HN0.out; omega); clear h; have S11 := Lib.hid (hb); have L_11 := Lib.hid (L_10.out.keep S11.out); have X4_11 := Lib.hid (X4_10.out.on S11.out); have Y5_11 := Lib.hid (Y5_10.out.on S11.out); have M_11 := Lib.hid (M_10.out.keep S11.out); have U_11 := Lib.hid (U_10.out.keep S11.out); have B11 := Lib.hid (then_ B10.out S11.out); have HS11 := S11; clear hb S11 L_10 X4_10 Y5_10 M_10 U_10 B10; have HR11 : Hid (Below w9.heap.size w9 w11) := Lib.hid (then_ HR10.out (HS11.out)); clear hc10 hf10; obtain ⟨hc11, hf11⟩ := bcell HR11.out)
    | (go_at_call 23; have _t := tok12; clear _t tok12; refine (Lay_any A12 n12 c12 (layL l0 x2) x1 _ V.out X.out (by omega)).mono ?_; rintro e w12 ⟨A13, n13, c13, rfl, h, hb⟩; rw [← lay_swap l0 x1 x2 HR.out HE.out] at h; obtain rfl : n11 = n13 := U.out.len.symm.trans h.len; have V2 := Lib.hid h; clear h; have S12 := Lib.hid (hb); have L_12 := Lib.hid (L_11.out.keep S12.out); have X4_12 := Lib.hid (X4_11.out.on S12.out); have Y5_12 := Lib.hid (Y5_11.out.on S12.out); have M_12 := Lib.hid (M_11.out.keep S12.out); have U_12 := Lib.hid (U_11.out.keep S12.out); have B12 := Lib.hid (then_ B11.out S12.out); have HS12 := S12; clear hb S12 L_11 X4_11 Y5_11 M_11 U_11 B11; have HR12 : Hid (Below w9.heap.size w9 w12) := Lib.hid (then_ HR11.out (HS12.out)); clear hc11 hf11; obtain ⟨hc12, hf12⟩ := bcell HR12.out)
    | (go_at_call 15; have _t := tok13; clear _t tok13; refine (kvs_same A11 A13 n11 c11 c13 _ _ U_12.out V2.out (by have h1 := layL_len l0 x1; have h4 := layL_len (layL l0 x1) x2; have h2 := V2.out.len; have h3 := HN0.out; omega)).mono ?_; rintro e w13 ⟨rfl, hb⟩; have S13 := Lib.hid (hb); have L_13 := Lib.hid (L_12.out.keep S13.out); have X4_13 := Lib.hid (X4_12.out.on S13.out); have Y5_13 := Lib.hid (Y5_12.out.on S13.out); have M_13 := Lib.hid (M_12.out.keep S13.out); have U_13 := Lib.hid (U_12.out.keep S13.out); have B13 := Lib.hid (then_ B12.out S13.out); have HS13 := S13; clear hb S13 L_12 X4_12 Y5_12 M_12 U_12 B12; have HR13 : Hid (Below w9.heap.size w9 w13) := Lib.hid (then_ HR12.out (HS13.out)); clear hc12 hf12; obtain ⟨hc13, hf13⟩ := bcell HR13.out)
    | (go_at_call 10; have _t := tok14; clear _t tok14; refine (live_any _).mono ?_; rintro e w14 ⟨rfl, hb⟩; have S14 := Lib.hid (hb); have L_14 := Lib.hid (L_13.out.keep S14.out); have X4_14 := Lib.hid (X4_13.out.on S14.out); have Y5_14 := Lib.hid (Y5_13.out.on S14.out); have M_14 := Lib.hid (M_13.out.keep S14.out); have U_14 := Lib.hid (U_13.out.keep S14.out); have B14 := Lib.hid (then_ B13.out S14.out); have HS14 := S14; clear hb S14 L_13 X4_13 Y5_13 M_13 U_13 B13; have HR14 : Hid (Below w9.heap.size w9 w14) := Lib.hid (then_ HR13.out (HS14.out)); clear hc13 hf13; obtain ⟨hc14, hf14⟩ := bcell HR14.out))
  go_wp2
  go_ret
  exact ⟨rfl, B14.out⟩

theorem shortFew (w : World) (A0 : Option Addr) (n0 c0 : Nat) (l0 : List KV) (x1 x2 : KV) (k0 : KVs w A0 n0 c0 l0) (k1 : x1.ok) (k2 : x2.ok) (hf : fewB 40 l0 = false) :
    Calls Try.prog 6 #[.slice A0 n0 c0, x1.agg, x2.agg] w fun e w' => e = .returned (.bool true) ∧ Below w.heap.size w w' := by
  have K := Lib.hid k0
  have X := Lib.hid k1
  have Y := Lib.hid k2
  have HF := Lib.hid hf
  clear k0 k1 k2 hf
  go_enter Try.func6, Try.ntmps6
  have L_0 := Lib.hid (K.out)
  have L_0b := Lib.hid (L_0.out.keep (new1 _ (x1.obj 26)))
  clear L_0
  have X4_0b := Lib.hid (at6_new w x1 26)
  have B0b := Lib.hid (new1 w (x1.obj 26))
  have Y5_0c := Lib.hid (at6_new (w.alloc (x1.obj 26)) x2 26)
  have L_0c := Lib.hid (L_0b.out.keep (new1 _ (x2.obj 26)))
  have X4_0c := Lib.hid (X4_0b.out.on (new1 _ (x2.obj 26)))
  have B0c := Lib.hid (then_ B0b.out (new1 _ (x2.obj 26)))
  clear L_0b X4_0b B0b
  go_wp2_with fail
  refine (few_any A0 n0 c0 l0 40 _ L_0c.out (by omega)).mono ?_; rintro e w' ⟨rfl, rfl⟩
  rw [HF.out]
  go_wp2_with fail
  refine (live_any _).mono ?_; rintro e w1 ⟨rfl, hb⟩
  have S1 := Lib.hid (hb)
  have L_1 := Lib.hid (L_0c.out.keep S1.out)
  have X4_1 := Lib.hid (X4_0c.out.on S1.out)
  have Y5_1 := Lib.hid (Y5_0c.out.on S1.out)
  have B1 := Lib.hid (then_ B0c.out S1.out)
  clear hb S1 L_0c X4_0c Y5_0c B0c
  go_wp2
  go_ret
  exact ⟨rfl, B1.out⟩

theorem shortMay (w : World) (A0 : Option Addr) (n0 c0 : Nat) (l0 : List KV) (x1 x2 : KV) (k0 : KVs w A0 n0 c0 l0) (k1 : x1.ok) (k2 : x2.ok) (hf : fewB 40 l0 = true) (hn : n0 ≤ 40) (hm : mayP oneB l0 = false) :
    Calls Try.prog 6 #[.slice A0 n0 c0, x1.agg, x2.agg] w fun e w' => e = .returned (.bool true) ∧ Below w.heap.size w w' := by
  have K := Lib.hid k0
  have X := Lib.hid k1
  have Y := Lib.hid k2
  have HF := Lib.hid hf
  clear k0 k1 k2 hf
  have HM := Lib.hid hm
  clear hm
  go_enter Try.func6, Try.ntmps6
  have L_0 := Lib.hid (K.out)
  have L_0b := Lib.hid (L_0.out.keep (new1 _ (x1.obj 26)))
  clear L_0
  have X4_0b := Lib.hid (at6_new w x1 26)
  have B0b := Lib.hid (new1 w (x1.obj 26))
  have Y5_0c := Lib.hid (at6_new (w.alloc (x1.obj 26)) x2 26)
  have L_0c := Lib.hid (L_0b.out.keep (new1 _ (x2.obj 26)))
  have X4_0c := Lib.hid (X4_0b.out.on (new1 _ (x2.obj 26)))
  have B0c := Lib.hid (then_ B0b.out (new1 _ (x2.obj 26)))
  clear L_0b X4_0b B0b
  go_wp2_with fail
  refine (few_any A0 n0 c0 l0 40 _ L_0c.out (by omega)).mono ?_; rintro e w' ⟨rfl, rfl⟩
  rw [HF.out]
  go_wp2_with fail
  refine (may_any A0 n0 c0 l0 _ L_0c.out (by omega)).mono ?_; rintro e w1 ⟨rfl, hb⟩
  rw [HM.out]
  have S1 := Lib.hid (hb)
  have L_1 := Lib.hid (L_0c.out.keep S1.out)
  have X4_1 := Lib.hid (X4_0c.out.on S1.out)
  have Y5_1 := Lib.hid (Y5_0c.out.on S1.out)
  have B1 := Lib.hid (then_ B0c.out S1.out)
  clear hb S1 L_0c X4_0c Y5_0c B0c
  have Y5_1q : Hid (At6 w1 ⟨w.heap.size + 1, 0, none⟩ x2) := Lib.hid (by have := Y5_1.out; simpa using this)
  clear Y5_1
  go_wp2_with fail
  refine (live_any _).mono ?_; rintro e w2 ⟨rfl, hb⟩
  have S2 := Lib.hid (hb)
  have L_2 := Lib.hid (L_1.out.keep S2.out)
  have X4_2 := Lib.hid (X4_1.out.on S2.out)
  have Y5_2 := Lib.hid (Y5_1q.out.on S2.out)
  have B2 := Lib.hid (then_ B1.out S2.out)
  clear hb S2 L_1 X4_1 Y5_1q B1
  go_wp2
  go_ret
  exact ⟨rfl, B2.out⟩

theorem shortOne (w : World) (A0 : Option Addr) (n0 c0 : Nat) (l0 : List KV) (x1 x2 : KV) (k0 : KVs w A0 n0 c0 l0) (k1 : x1.ok) (k2 : x2.ok) (hf : fewB 40 l0 = true) (hn : n0 ≤ 40) (hm : mayP oneB l0 = true) (h1 : oneB x1 = false) :
    Calls Try.prog 6 #[.slice A0 n0 c0, x1.agg, x2.agg] w fun e w' => e = .returned (.bool true) ∧ Below w.heap.size w w' := by
  have K := Lib.hid k0
  have X := Lib.hid k1
  have Y := Lib.hid k2
  have HF := Lib.hid hf
  clear k0 k1 k2 hf
  have HM := Lib.hid hm
  clear hm
  have H1 := Lib.hid h1
  clear h1
  go_enter Try.func6, Try.ntmps6
  have L_0 := Lib.hid (K.out)
  have L_0b := Lib.hid (L_0.out.keep (new1 _ (x1.obj 26)))
  clear L_0
  have X4_0b := Lib.hid (at6_new w x1 26)
  have B0b := Lib.hid (new1 w (x1.obj 26))
  have Y5_0c := Lib.hid (at6_new (w.alloc (x1.obj 26)) x2 26)
  have L_0c := Lib.hid (L_0b.out.keep (new1 _ (x2.obj 26)))
  have X4_0c := Lib.hid (X4_0b.out.on (new1 _ (x2.obj 26)))
  have B0c := Lib.hid (then_ B0b.out (new1 _ (x2.obj 26)))
  clear L_0b X4_0b B0b
  go_wp2_with fail
  refine (few_any A0 n0 c0 l0 40 _ L_0c.out (by omega)).mono ?_; rintro e w' ⟨rfl, rfl⟩
  rw [HF.out]
  go_wp2_with fail
  refine (may_any A0 n0 c0 l0 _ L_0c.out (by omega)).mono ?_; rintro e w1 ⟨rfl, hb⟩
  rw [HM.out]
  have S1 := Lib.hid (hb)
  have L_1 := Lib.hid (L_0c.out.keep S1.out)
  have X4_1 := Lib.hid (X4_0c.out.on S1.out)
  have Y5_1 := Lib.hid (Y5_0c.out.on S1.out)
  have B1 := Lib.hid (then_ B0c.out S1.out)
  clear hb S1 L_0c X4_0c Y5_0c B0c
  have Y5_1q : Hid (At6 w1 ⟨w.heap.size + 1, 0, none⟩ x2) := Lib.hid (by have := Y5_1.out; simpa using this)
  clear Y5_1
  obtain ⟨q0, q1, q2, q3, q4, q5⟩ := X4_1.out
  have ql := World.block_lt_of_cell? _ _ q0
  go_wp2_with fail
  refine (one_any x1 _ X.out).mono ?_; rintro e w2 ⟨rfl, hb⟩
  rw [H1.out]
  have S2 := Lib.hid (hb)
  have L_2 := Lib.hid (L_1.out.keep S2.out)
  have X4_2 := Lib.hid (X4_1.out.on S2.out)
  have Y5_2 := Lib.hid (Y5_1q.out.on S2.out)
  have B2 := Lib.hid (then_ B1.out S2.out)
  clear hb S2 L_1 X4_1 Y5_1q B1
  clear q0 q1 q2 q3 q4 q5 ql
  go_wp2_with fail
  refine (live_any _).mono ?_; rintro e w3 ⟨rfl, hb⟩
  have S3 := Lib.hid (hb)
  have L_3 := Lib.hid (L_2.out.keep S3.out)
  have X4_3 := Lib.hid (X4_2.out.on S3.out)
  have Y5_3 := Lib.hid (Y5_2.out.on S3.out)
  have B3 := Lib.hid (then_ B2.out S3.out)
  clear hb S3 L_2 X4_2 Y5_2 B2
  go_wp2
  go_ret
  exact ⟨rfl, B3.out⟩

theorem shortTwo (w : World) (A0 : Option Addr) (n0 c0 : Nat) (l0 : List KV) (x1 x2 : KV) (k0 : KVs w A0 n0 c0 l0) (k1 : x1.ok) (k2 : x2.ok) (hf : fewB 40 l0 = true) (hn : n0 ≤ 40) (hm : mayP oneB l0 = true) (h1 : oneB x1 = true) (h2 : oneB x2 = false) :
    Calls Try.prog 6 #[.slice A0 n0 c0, x1.agg, x2.agg] w fun e w' => e = .returned (.bool true) ∧ Below w.heap.size w w' := by
  have K := Lib.hid k0
  have X := Lib.hid k1
  have Y := Lib.hid k2
  have HF := Lib.hid hf
  clear k0 k1 k2 hf
  have HM := Lib.hid hm
  clear hm
  have H1 := Lib.hid h1
  clear h1
  have H2 := Lib.hid h2
  clear h2
  go_enter Try.func6, Try.ntmps6
  have L_0 := Lib.hid (K.out)
  have L_0b := Lib.hid (L_0.out.keep (new1 _ (x1.obj 26)))
  clear L_0
  have X4_0b := Lib.hid (at6_new w x1 26)
  have B0b := Lib.hid (new1 w (x1.obj 26))
  have Y5_0c := Lib.hid (at6_new (w.alloc (x1.obj 26)) x2 26)
  have L_0c := Lib.hid (L_0b.out.keep (new1 _ (x2.obj 26)))
  have X4_0c := Lib.hid (X4_0b.out.on (new1 _ (x2.obj 26)))
  have B0c := Lib.hid (then_ B0b.out (new1 _ (x2.obj 26)))
  clear L_0b X4_0b B0b
  go_wp2_with fail
  refine (few_any A0 n0 c0 l0 40 _ L_0c.out (by omega)).mono ?_; rintro e w' ⟨rfl, rfl⟩
  rw [HF.out]
  go_wp2_with fail
  refine (may_any A0 n0 c0 l0 _ L_0c.out (by omega)).mono ?_; rintro e w1 ⟨rfl, hb⟩
  rw [HM.out]
  have S1 := Lib.hid (hb)
  have L_1 := Lib.hid (L_0c.out.keep S1.out)
  have X4_1 := Lib.hid (X4_0c.out.on S1.out)
  have Y5_1 := Lib.hid (Y5_0c.out.on S1.out)
  have B1 := Lib.hid (then_ B0c.out S1.out)
  clear hb S1 L_0c X4_0c Y5_0c B0c
  have Y5_1q : Hid (At6 w1 ⟨w.heap.size + 1, 0, none⟩ x2) := Lib.hid (by have := Y5_1.out; simpa using this)
  clear Y5_1
  obtain ⟨q0, q1, q2, q3, q4, q5⟩ := X4_1.out
  have ql := World.block_lt_of_cell? _ _ q0
  go_wp2_with fail
  refine (one_any x1 _ X.out).mono ?_; rintro e w2 ⟨rfl, hb⟩
  rw [H1.out]
  have S2 := Lib.hid (hb)
  have L_2 := Lib.hid (L_1.out.keep S2.out)
  have X4_2 := Lib.hid (X4_1.out.on S2.out)
  have Y5_2 := Lib.hid (Y5_1q.out.on S2.out)
  have B2 := Lib.hid (then_ B1.out S2.out)
  clear hb S2 L_1 X4_1 Y5_1q B1
  clear q0 q1 q2 q3 q4 q5 ql
  obtain ⟨q0, q1, q2, q3, q4, q5⟩ := Y5_2.out
  have ql := World.block_lt_of_cell? _ _ q0
  go_wp2_with fail
  refine (one_any x2 _ Y.out).mono ?_; rintro e w3 ⟨rfl, hb⟩
  rw [H2.out]
  have S3 := Lib.hid (hb)
  have L_3 := Lib.hid (L_2.out.keep S3.out)
  have X4_3 := Lib.hid (X4_2.out.on S3.out)
  have Y5_3 := Lib.hid (Y5_2.out.on S3.out)
  have B3 := Lib.hid (then_ B2.out S3.out)
  clear hb S3 L_2 X4_2 Y5_2 B2
  clear q0 q1 q2 q3 q4 q5 ql
  go_wp2_with fail
  refine (live_any _).mono ?_; rintro e w4 ⟨rfl, hb⟩
  have S4 := Lib.hid (hb)
  have L_4 := Lib.hid (L_3.out.keep S4.out)
  have X4_4 := Lib.hid (X4_3.out.on S4.out)
  have Y5_4 := Lib.hid (Y5_3.out.on S4.out)
  have B4 := Lib.hid (then_ B3.out S4.out)
  clear hb S4 L_3 X4_3 Y5_3 B3
  go_wp2
  go_ret
  exact ⟨rfl, B4.out⟩

theorem walk (w : World) (A0 : Option Addr) (n0 c0 : Nat) (l0 : List KV) (x1 x2 : KV) (k0 : KVs w A0 n0 c0 l0) (k1 : x1.ok) (k2 : x2.ok) :
    Calls Try.prog 6 #[.slice A0 n0 c0, x1.agg, x2.agg] w fun e w' => e = .returned (.bool true) ∧ Below w.heap.size w w' := by
  cases hf : fewB 40 l0 with
  | false => exact shortFew w A0 n0 c0 l0 x1 x2 k0 k1 k2 hf
  | true =>
    have hn : n0 ≤ 40 := by have := k0.len; simp only [fewB, Bool.and_eq_true, decide_eq_true_eq] at hf; omega
    cases hm : mayP oneB l0 with
    | false => exact shortMay w A0 n0 c0 l0 x1 x2 k0 k1 k2 hf hn hm
    | true =>
      cases h1 : oneB x1 with
      | false => exact shortOne w A0 n0 c0 l0 x1 x2 k0 k1 k2 hf hn hm h1
      | true =>
        cases h2 : oneB x2 with
        | false => exact shortTwo w A0 n0 c0 l0 x1 x2 k0 k1 k2 hf hn hm h1 h2
        | true =>
          cases he : teq x1.key x2.key with
          | true => exact walkEq w A0 n0 c0 l0 x1 x2 k0 k1 k2 hn hf hm h1 h2 he
          | false => exact walkNe w A0 n0 c0 l0 x1 x2 k0 k1 k2 hn hf hm h1 h2 he

theorem own : ownKnob Try.prog.godebug = none := by kernel_rfl
theorem laidOut : laidOutB Try.prog = true := by kernel_rfl

set_option maxRecDepth 100000 in
theorem lifted (os : Os) (started : os.Started) (H : Type) (enc : TypeId × Value → H) :
    ReturnsInHanded {} Try.checked os 6 .any (Rows.histAgainSpec.pre6 enc Try.prog Try.f6 Rows.histAgainRow.domain false) (Rows.histAgainSpec.post enc Try.prog Try.f6 false true false false) := by
  refine returnsInHanded_of_change (C := Try.checked) own started (by kernel_rfl) Try.func6
    (ChangeSpec.witness6 (enc := enc) (C := Try.checked) false ⟨#[], #[.slice none 0 0, .agg #[.string ByteArray.empty, .string ByteArray.empty, .int .i64 0, .int .i64 0, .int .i64 0, .int .i64 0], .agg #[.string ByteArray.empty, .string ByteArray.empty, .int .i64 0, .int .i64 0, .int .i64 0, .int .i64 0]], []⟩ 8 (by kernel_rfl) (by kernel_rfl) (by kernel_rfl) (by kernel_rfl)) ?_
  intro W base args ds gs before hval0 hW hcnd _
  have hval : ∀ (j : Nat) t v, Try.f6.params[j]? = some t → args[j]? = some v → Value.okWide Try.prog W .any base t v := hval0
  have hW' := hW
  obtain ⟨p, q, hA0, hV, rfl, hfz, hnd⟩ := hW
  have hA : DataW.TrodAll enc Try.prog W 0 (fun _ => true) true Try.f6.params.toList args.toList ds p := hA0
  rw [Try.params6] at hA hval
  obtain ⟨v0, vs0, d0, ds0, p0, q0, hargs, rfl, rfl, h0, r0⟩ := trodAll_cons hA
  obtain ⟨v1, vs1, d1, ds1, p1, q1, rfl, rfl, rfl, h1, r1⟩ := trodAll_cons r0
  obtain ⟨v2, vs2, d2, ds2, p2, q2, rfl, rfl, rfl, h2, r2⟩ := trodAll_cons r1
  obtain ⟨rfl, rfl, rfl⟩ := trodAll_nil r2
  obtain rfl : args = #[v0, v1, v2] := by cases args; simp_all
  obtain ⟨rfl, rfl⟩ := trodVars_none hV
  obtain ⟨A0, n0, c0, l0, rfl, k0⟩ := open_kvs (hval 0 22 v0 rfl rfl) h0
  obtain ⟨x1, rfl, k1⟩ := open_kv (hval 1 26 v1 rfl rfl) h1
  obtain ⟨x2, rfl, k2⟩ := open_kv (hval 2 26 v2 rfl rfl) h2
  clear hA0 hval0
  refine (walk W A0 n0 c0 l0 x1 x2 k0 k1 k2).mono fun e W' ⟨he, bel⟩ => ?_
  subst he
  exact ⟨_, rfl, _, _, _, [], _, [], hW', trodAll_mk1 (shut_bool Try.underlying4 _), (trodAll_cons_mk (Below.trod laidOut (by kernel_rfl) (of_decide_eq_true (by kernel_rfl)) h0 bel (fun x hx => hW'.lt x (by simp [hx]))) (trodAll_cons_mk (Below.trod laidOut (by kernel_rfl) (of_decide_eq_true (by kernel_rfl)) h1 bel (fun x hx => hW'.lt x (by simp [hx]))) (trodAll_cons_mk (Below.trod laidOut (by kernel_rfl) (of_decide_eq_true (by kernel_rfl)) h2 bel (fun x hx => hW'.lt x (by simp [hx]))) trodAll_mk0))), rfl, bel.frame _, fun h => by cases h⟩

theorem over : Rows.histAgainRow.holds Try.pinned (OpenSpec.ofChange Rows.histAgainSpec) :=
  OpenClaim.holds_of_wide 6 Try.f6 rfl rfl rfl rfl rfl rfl rfl ⟨rfl, rfl, rfl, rfl, rfl⟩ rfl rfl rfl rfl rfl (by kernel_rfl) Try.func6 (by kernel_rfl)
    (of_decide_eq_true (by kernel_rfl)) (by unfold Func.isWrapper; first | (rw [if_pos (by decide +kernel)]; kernel_rfl) | (rw [if_neg (by decide +kernel)]; exact ⟨rfl, rfl⟩))
    (fun os started H enc _ => lifted os started H enc)

theorem proved : Rows.HistAgainSaid := over
#print axioms proved
end Go.Proofs.Ytlpnnbjdolodcaa.histAgain
