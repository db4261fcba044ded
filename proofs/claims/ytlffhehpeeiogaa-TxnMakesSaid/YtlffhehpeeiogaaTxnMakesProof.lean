/- For every key, value, lease and revision the law TxnMakes answers true: Put, Drop, Made and Absent make what the document asks. No condition. -/
import Derived.Deep.RegionHeld3
import Derived.Deep.Cut
import Derived.Deep.DeepCutAuto
import Derived.Test.YtlffhehpeeiogaaTxLive
import Derived.Test.YtlffhehpeeiogaaTxSame
import Derived.Test.YtlffhehpeeiogaaTxTwo
import Derived.Test.YtlffhehpeeiogaaKeyTwo
import Derived.Test.YtlffhehpeeiogaaRows
namespace Go.Proofs.Ytlffhehpeeiogaa.txnMakes
open Go.ChangeShapes Go.WideShapes Go.ChangeAt Go.RowKit Go.Proofs.Ytlffhehpeeiogaa.P
open Go.ChangeMaps (open_string shut_string)
set_option linter.unusedVariables false
set_option linter.unusedSimpArgs false
set_option maxHeartbeats 40000000
set_option maxRecDepth 100000

theorem walk (w : World) (a0 a1 : ByteArray) (a2 b2 : Int) (w0 : a0.size ≤ maxLen) (w1 : a1.size ≤ maxLen) (w2 : (Lit.int .i64 a2).wf = true) (u2 : (Lit.int .i64 b2).wf = true) :
    Calls Try.prog 11 #[.string a0, .string a1, .agg #[.int .i64 a2, .int .i64 b2]] w fun e w' => e = .returned (.bool true) ∧ Below w.heap.size w w' := by
  unfold maxLen at w0 w1
  have HI := Lib.hid (inI_of w2); have HJ := Lib.hid (inI_of u2)
  clear w2 u2
  by_cases hk : a0.size ≤ 100
  case neg =>
    go_enter Try.func11, Try.ntmps11
    go_wp2_with fail
    refine (live_any _).mono ?_; rintro e w2 ⟨rfl, hb⟩
    have BB := Lib.hid (then_ (new1 w (.cells #[.int .i64 a2, .int .i64 b2] 64)) hb); clear hb
    go_wp2
    go_ret
    exact ⟨rfl, BB.out⟩
  by_cases hv : a1.size ≤ 100
  case neg =>
    go_enter Try.func11, Try.ntmps11
    go_wp2_with fail
    refine (live_any _).mono ?_; rintro e w2 ⟨rfl, hb⟩
    have BB := Lib.hid (then_ (new1 w (.cells #[.int .i64 a2, .int .i64 b2] 64)) hb); clear hb
    go_wp2
    go_ret
    exact ⟨rfl, BB.out⟩
  have HK : Hid (a0.size ≤ maxLen) := Lib.hid (by unfold maxLen; omega)
  have HV : Hid (a1.size ≤ maxLen) := Lib.hid (by unfold maxLen; omega)
  go_enter Try.func11, Try.ntmps11
  go_upto_region 3 with fail
  obtain ⟨W1, hW1⟩ : ∃ W1, W1 = w.alloc (.cells #[.int .i64 a2, .int .i64 b2] 64) := ⟨_, rfl⟩
  have X_0 : Hid (Own W1 w.heap.size 64 #[.int .i64 a2, .int .i64 b2]) := Lib.hid (by rw [hW1]; exact own_new _ _ _)
  have B_0 : Hid (Below w.heap.size w W1) := Lib.hid (by rw [hW1]; exact new1 _ _)
  rw [← hW1]
  clear hW1
  go_cut [7, 8] (fun p1 p2 wx => Two (putT a0 a1 a2) W1 p1 p2 wx)
  case first =>
    have lb := X_0.out.lt; have nlb := Nat.ne_of_lt lb; have nrb := Nat.ne_of_gt lb
    have nlb1 : w.heap.size ≠ W1.heap.size + 1 := by omega
    have nrb1 : W1.heap.size + 1 ≠ w.heap.size := by omega
    have x0 := X_0.out.cell 0 _ rfl
    have tk1 : True := trivial
    go_wp2
    go_region_held3 (fun w' => w'.cell? ⟨w.heap.size, 0, none⟩ = some (.int .i64 a2)) (first | go_keep | exact ((then_ (then_ H5.out (new1 w5 _)) (new1 _ _)).cell (p := ⟨w.heap.size, 0, none⟩) lb).trans x0 | exact ((then_ (then_ H4.out (new1 w4 _)) (new1 _ _)).cell (p := ⟨w.heap.size, 0, none⟩) lb).trans x0 | exact ((then_ (new1 W1 _) (new1 _ _)).cell (p := ⟨w.heap.size, 0, none⟩) lb).trans x0 | exact ((then_ (then_ (new1 W1 _) (new1 _ _)) (new_drew _)).cell (p := ⟨w.heap.size, 0, none⟩) lb).trans x0) (first
      | (go_at_call 40; have _t := tk1; clear _t tk1; (with_reducible refine (put_any a0 a1 a2 _ HK.out HV.out HI.out).mono ?_); rintro e w4 ⟨Ap, np, cp, Bp, mp, dp, Cp, op, ep, rfl, h4, hb⟩; have H4 : Hid (Below W1.heap.size W1 w4) := Lib.hid (by first | exact then_ (new_drew W1) hb | exact then_ (then_ (new1 W1 _) (new_drew _)) hb | exact then_ (then_ (then_ (new1 W1 _) (new1 _ _)) (new_drew _)) hb); (first | (have Za : Hid (Own w4 (W1.heap.size) 57 zTx) := Lib.hid ((((own_new W1 zTx 57).alloc _).below (new_drew _)).below hb); have Zb : Hid (Own w4 (W1.heap.size + 1) 57 zTx) := Lib.hid (((own_new2 W1 _ zTx 57).below (new_drew _)).below hb)) | (have Za : Hid (Own w4 (W1.heap.size) 57 zTx) := Lib.hid (((own_new W1 zTx 57).below (new_drew _)).below hb)) | skip); (try (have la4 := Za.out.lt; have nla4 := Nat.ne_of_lt la4; have nra4 := Nat.ne_of_gt la4)); (try (have lb4 := Zb.out.lt; have nlb4 := Nat.ne_of_lt lb4; have nrb4 := Nat.ne_of_gt lb4)); have Gp4 := Lib.hid h4; clear h4 hb; obtain ⟨hc4, hf4⟩ := bcell H4.out; have l4 := (X_0.out.below H4.out).lt; have nl4 := Nat.ne_of_lt l4; have nr4 := Nat.ne_of_gt l4; have nl41 : w.heap.size ≠ w4.heap.size + 1 := (by omega); have nr41 : w4.heap.size + 1 ≠ w.heap.size := (by omega); have tk2r : True := trivial)
      | (go_at_call 41; have _t := tk2r; clear _t tk2r; (with_reducible refine (putr_any a0 a1 a2 _ HK.out HV.out HI.out).mono ?_); rintro e w5 ⟨Ar, nr, cr, Br, mr, dr, Cr, or, er, rfl, h5, hb⟩; have S5 : Hid (Below w4.heap.size w4 w5) := Lib.hid (by first | exact hb | exact then_ (new1 w4 _) hb | exact then_ (then_ (new1 w4 _) (new1 _ _)) hb); have H5 := Lib.hid (then_ H4.out S5.out); have Gp5 := Lib.hid (Gp4.out.keep S5.out); have Gr5 := Lib.hid h5; (try (have Za5 := Lib.hid (Za.out.below S5.out))); (try (have Zb5 := Lib.hid (Zb.out.below S5.out))); (first | (have Zc5 : Hid (Own w5 (w4.heap.size) 57 zTx) := Lib.hid (((own_new w4 zTx 57).alloc _).below hb); have Zd5 : Hid (Own w5 (w4.heap.size + 1) 57 zTx) := Lib.hid ((own_new2 w4 _ zTx 57).below hb)) | (have Zc5 : Hid (Own w5 (w4.heap.size) 57 zTx) := Lib.hid ((own_new w4 zTx 57).below hb)) | skip); (try (have fa := Za5.out.frozen; have la := Za5.out.lt; have za0 := Za5.out.cell 0 _ rfl; have za1 := Za5.out.cell 1 _ rfl; have za2 := Za5.out.cell 2 _ rfl)); (try (have fb := Zb5.out.frozen; have lb := Zb5.out.lt; have zb0 := Zb5.out.cell 0 _ rfl; have zb1 := Zb5.out.cell 1 _ rfl; have zb2 := Zb5.out.cell 2 _ rfl)); (try (have fc := Zc5.out.frozen; have lc := Zc5.out.lt; have zc0 := Zc5.out.cell 0 _ rfl; have zc1 := Zc5.out.cell 1 _ rfl; have zc2 := Zc5.out.cell 2 _ rfl)); (try (have fd := Zd5.out.frozen; have ld := Zd5.out.lt; have zd0 := Zd5.out.cell 0 _ rfl; have zd1 := Zd5.out.cell 1 _ rfl; have zd2 := Zd5.out.cell 2 _ rfl)); have sz4 := H4.out.size; clear h5 hb hc4 hf4; obtain ⟨hc5, hf5⟩ := bcell H5.out; have l5 := (X_0.out.below H5.out).lt; have nl5 := Nat.ne_of_lt l5; have nr5 := Nat.ne_of_gt l5; have nl51 : w.heap.size ≠ w5.heap.size + 1 := (by omega); have nr51 : w5.heap.size + 1 ≠ w.heap.size := (by omega))
      | (go_at_call 41; have _t := tk1; clear _t tk1; (with_reducible refine (putr_any a0 a1 a2 _ HK.out HV.out HI.out).mono ?_); rintro e w4 ⟨Ar, nr, cr, Br, mr, dr, Cr, or, er, rfl, h4, hb⟩; have H4 : Hid (Below W1.heap.size W1 w4) := Lib.hid (by first | exact then_ (new_drew W1) hb | exact then_ (then_ (new1 W1 _) (new_drew _)) hb | exact then_ (then_ (then_ (new1 W1 _) (new1 _ _)) (new_drew _)) hb); (first | (have Za : Hid (Own w4 (W1.heap.size) 57 zTx) := Lib.hid ((((own_new W1 zTx 57).alloc _).below (new_drew _)).below hb); have Zb : Hid (Own w4 (W1.heap.size + 1) 57 zTx) := Lib.hid (((own_new2 W1 _ zTx 57).below (new_drew _)).below hb)) | (have Za : Hid (Own w4 (W1.heap.size) 57 zTx) := Lib.hid (((own_new W1 zTx 57).below (new_drew _)).below hb)) | skip); (try (have la4 := Za.out.lt; have nla4 := Nat.ne_of_lt la4; have nra4 := Nat.ne_of_gt la4)); (try (have lb4 := Zb.out.lt; have nlb4 := Nat.ne_of_lt lb4; have nrb4 := Nat.ne_of_gt lb4)); have Gr4 := Lib.hid h4; clear h4 hb; obtain ⟨hc4, hf4⟩ := bcell H4.out; have l4 := (X_0.out.below H4.out).lt; have nl4 := Nat.ne_of_lt l4; have nr4 := Nat.ne_of_gt l4; have nl41 : w.heap.size ≠ w4.heap.size + 1 := (by omega); have nr41 : w4.heap.size + 1 ≠ w.heap.size := (by omega); have tk2p : True := trivial)
      | (go_at_call 40; have _t := tk2p; clear _t tk2p; (with_reducible refine (put_any a0 a1 a2 _ HK.out HV.out HI.out).mono ?_); rintro e w5 ⟨Ap, np, cp, Bp, mp, dp, Cp, op, ep, rfl, h5, hb⟩; have S5 : Hid (Below w4.heap.size w4 w5) := Lib.hid (by first | exact hb | exact then_ (new1 w4 _) hb | exact then_ (then_ (new1 w4 _) (new1 _ _)) hb); have H5 := Lib.hid (then_ H4.out S5.out); have Gr5 := Lib.hid (Gr4.out.keep S5.out); have Gp5 := Lib.hid h5; (try (have Za5 := Lib.hid (Za.out.below S5.out))); (try (have Zb5 := Lib.hid (Zb.out.below S5.out))); (first | (have Zc5 : Hid (Own w5 (w4.heap.size) 57 zTx) := Lib.hid (((own_new w4 zTx 57).alloc _).below hb); have Zd5 : Hid (Own w5 (w4.heap.size + 1) 57 zTx) := Lib.hid ((own_new2 w4 _ zTx 57).below hb)) | (have Zc5 : Hid (Own w5 (w4.heap.size) 57 zTx) := Lib.hid ((own_new w4 zTx 57).below hb)) | skip); (try (have fa := Za5.out.frozen; have la := Za5.out.lt; have za0 := Za5.out.cell 0 _ rfl; have za1 := Za5.out.cell 1 _ rfl; have za2 := Za5.out.cell 2 _ rfl)); (try (have fb := Zb5.out.frozen; have lb := Zb5.out.lt; have zb0 := Zb5.out.cell 0 _ rfl; have zb1 := Zb5.out.cell 1 _ rfl; have zb2 := Zb5.out.cell 2 _ rfl)); (try (have fc := Zc5.out.frozen; have lc := Zc5.out.lt; have zc0 := Zc5.out.cell 0 _ rfl; have zc1 := Zc5.out.cell 1 _ rfl; have zc2 := Zc5.out.cell 2 _ rfl)); (try (have fd := Zd5.out.frozen; have ld := Zd5.out.lt; have zd0 := Zd5.out.cell 0 _ rfl; have zd1 := Zd5.out.cell 1 _ rfl; have zd2 := Zd5.out.cell 2 _ rfl)); have sz4 := H4.out.size; clear h5 hb hc4 hf4; obtain ⟨hc5, hf5⟩ := bcell H5.out; have l5 := (X_0.out.below H5.out).lt; have nl5 := Nat.ne_of_lt l5; have nr5 := Nat.ne_of_gt l5; have nl51 : w.heap.size ≠ w5.heap.size + 1 := (by omega); have nr51 : w5.heap.size + 1 ≠ w.heap.size := (by omega)))
    all_goals
      clear hc5 hf5
    all_goals
      go_wp2_with fail
      go_meet
      first
        | with_reducible exact two_new Gp5.out Gr5.out H5.out
        | with_reducible exact two_swap (two_new Gr5.out Gp5.out H5.out)
        | with_reducible exact two_one Za5.out Gp5.out Gr5.out H5.out (by omega)
        | with_reducible exact two_swap (two_one Za5.out Gr5.out Gp5.out H5.out (by omega))
        | with_reducible exact two_one Zb5.out Gp5.out Gr5.out H5.out (by omega)
        | with_reducible exact two_swap (two_one Zb5.out Gr5.out Gp5.out H5.out (by omega))
        | with_reducible exact two_one Zc5.out Gp5.out Gr5.out H5.out (by omega)
        | with_reducible exact two_swap (two_one Zc5.out Gr5.out Gp5.out H5.out (by omega))
        | with_reducible exact two_one Zd5.out Gp5.out Gr5.out H5.out (by omega)
        | with_reducible exact two_swap (two_one Zd5.out Gr5.out Gp5.out H5.out (by omega))
        | with_reducible exact two_old Za5.out Zb5.out (by omega) Gp5.out Gr5.out H5.out (by omega) (by omega)
        | with_reducible exact two_old Zb5.out Za5.out (by omega) Gp5.out Gr5.out H5.out (by omega) (by omega)
        | with_reducible exact two_old Za5.out Zc5.out (by omega) Gp5.out Gr5.out H5.out (by omega) (by omega)
        | with_reducible exact two_old Zc5.out Za5.out (by omega) Gp5.out Gr5.out H5.out (by omega) (by omega)
        | with_reducible exact two_old Zc5.out Zd5.out (by omega) Gp5.out Gr5.out H5.out (by omega) (by omega)
        | with_reducible exact two_old Zd5.out Zc5.out (by omega) Gp5.out Gr5.out H5.out (by omega) (by omega)
        | with_reducible exact two_swap (two_old Za5.out Zb5.out (by omega) Gr5.out Gp5.out H5.out (by omega) (by omega))
        | with_reducible exact two_swap (two_old Zb5.out Za5.out (by omega) Gr5.out Gp5.out H5.out (by omega) (by omega))
        | with_reducible exact two_swap (two_old Za5.out Zc5.out (by omega) Gr5.out Gp5.out H5.out (by omega) (by omega))
        | with_reducible exact two_swap (two_old Zc5.out Za5.out (by omega) Gr5.out Gp5.out H5.out (by omega) (by omega))
        | with_reducible exact two_swap (two_old Zc5.out Zd5.out (by omega) Gr5.out Gp5.out H5.out (by omega) (by omega))
        | with_reducible exact two_swap (two_old Zd5.out Zc5.out (by omega) Gr5.out Gp5.out H5.out (by omega) (by omega))
        | exact two_new Gp5.out Gr5.out H5.out
        | exact two_swap (two_new Gr5.out Gp5.out H5.out)
        | exact two_one Za5.out Gp5.out Gr5.out H5.out (by omega)
        | exact two_swap (two_one Za5.out Gr5.out Gp5.out H5.out (by omega))
        | exact two_one Zb5.out Gp5.out Gr5.out H5.out (by omega)
        | exact two_swap (two_one Zb5.out Gr5.out Gp5.out H5.out (by omega))
        | exact two_one Zc5.out Gp5.out Gr5.out H5.out (by omega)
        | exact two_swap (two_one Zc5.out Gr5.out Gp5.out H5.out (by omega))
        | exact two_one Zd5.out Gp5.out Gr5.out H5.out (by omega)
        | exact two_swap (two_one Zd5.out Gr5.out Gp5.out H5.out (by omega))
        | exact two_old Za5.out Zb5.out (by omega) Gp5.out Gr5.out H5.out (by omega) (by omega)
        | exact two_old Zb5.out Za5.out (by omega) Gp5.out Gr5.out H5.out (by omega) (by omega)
        | exact two_old Za5.out Zc5.out (by omega) Gp5.out Gr5.out H5.out (by omega) (by omega)
        | exact two_old Zc5.out Za5.out (by omega) Gp5.out Gr5.out H5.out (by omega) (by omega)
        | exact two_old Zc5.out Zd5.out (by omega) Gp5.out Gr5.out H5.out (by omega) (by omega)
        | exact two_old Zd5.out Zc5.out (by omega) Gp5.out Gr5.out H5.out (by omega) (by omega)
        | exact two_swap (two_old Za5.out Zb5.out (by omega) Gr5.out Gp5.out H5.out (by omega) (by omega))
        | exact two_swap (two_old Zb5.out Za5.out (by omega) Gr5.out Gp5.out H5.out (by omega) (by omega))
        | exact two_swap (two_old Za5.out Zc5.out (by omega) Gr5.out Gp5.out H5.out (by omega) (by omega))
        | exact two_swap (two_old Zc5.out Za5.out (by omega) Gr5.out Gp5.out H5.out (by omega) (by omega))
        | exact two_swap (two_old Zc5.out Zd5.out (by omega) Gr5.out Gp5.out H5.out (by omega) (by omega))
        | exact two_swap (two_old Zd5.out Zc5.out (by omega) Gr5.out Gp5.out H5.out (by omega) (by omega))
  case rest =>
  rename World => W2
  obtain ⟨ba, Aa, na, ca, Ba, ma, da, Ca, oa, ea, bb, Ab, nb, cb, Bb, mb, db, Cb, ob, eb, rfl, rfl, hk, hv, ho, hr, hb⟩ := hcut
  obtain rfl : na = 1 := hk.iff.row.len.symm
  obtain rfl : ma = 1 := hk.thn.len.symm
  obtain rfl : oa = 0 := hk.els.len.symm
  obtain rfl : nb = 1 := hv.iff.row.len.symm
  obtain rfl : mb = 1 := hv.thn.len.symm
  obtain rfl : ob = 0 := hv.els.len.symm
  have S_1 := Lib.hid hb; clear hb
  have X_1 := Lib.hid (X_0.out.below S_1.out)
  have B_2 := Lib.hid (then_ B_0.out S_1.out)
  clear X_0 B_0
  clear S_1
  have Ga_3 := Lib.hid (hk)
  have Gb_4 := Lib.hid (hv)
  have Ya_5 := Lib.hid (ho)
  have Yb_6 := Lib.hid (hr)
  clear hk hv ho hr
  go_upto_region 4 with fail
  go_cut [9, 10] (fun p1 p2 wx => Two (dropT a0 b2) W2 p1 p2 wx)
  case first =>
    have lb := X_1.out.lt; have nlb := Nat.ne_of_lt lb; have nrb := Nat.ne_of_gt lb
    have nlb1 : w.heap.size ≠ W2.heap.size + 1 := by omega
    have nrb1 : W2.heap.size + 1 ≠ w.heap.size := by omega
    have x0 := X_1.out.cell 1 _ rfl
    have tk1 : True := trivial
    go_wp2
    go_region_held3 (fun w' => w'.cell? ⟨w.heap.size, 1, none⟩ = some (.int .i64 b2)) (first | go_keep | exact ((then_ (then_ H5.out (new1 w5 _)) (new1 _ _)).cell (p := ⟨w.heap.size, 1, none⟩) lb).trans x0 | exact ((then_ (then_ H4.out (new1 w4 _)) (new1 _ _)).cell (p := ⟨w.heap.size, 1, none⟩) lb).trans x0 | exact ((then_ (new1 W2 _) (new1 _ _)).cell (p := ⟨w.heap.size, 1, none⟩) lb).trans x0 | exact ((then_ (then_ (new1 W2 _) (new1 _ _)) (new_drew _)).cell (p := ⟨w.heap.size, 1, none⟩) lb).trans x0) (first
      | (go_at_call 42; have _t := tk1; clear _t tk1; (with_reducible refine (drop_any a0 b2 _ HK.out HJ.out).mono ?_); rintro e w4 ⟨Ap, np, cp, Bp, mp, dp, Cp, op, ep, rfl, h4, hb⟩; have H4 : Hid (Below W2.heap.size W2 w4) := Lib.hid (by first | exact then_ (new_drew W2) hb | exact then_ (then_ (new1 W2 _) (new_drew _)) hb | exact then_ (then_ (then_ (new1 W2 _) (new1 _ _)) (new_drew _)) hb); (first | (have Za : Hid (Own w4 (W2.heap.size) 57 zTx) := Lib.hid ((((own_new W2 zTx 57).alloc _).below (new_drew _)).below hb); have Zb : Hid (Own w4 (W2.heap.size + 1) 57 zTx) := Lib.hid (((own_new2 W2 _ zTx 57).below (new_drew _)).below hb)) | (have Za : Hid (Own w4 (W2.heap.size) 57 zTx) := Lib.hid (((own_new W2 zTx 57).below (new_drew _)).below hb)) | skip); (try (have la4 := Za.out.lt; have nla4 := Nat.ne_of_lt la4; have nra4 := Nat.ne_of_gt la4)); (try (have lb4 := Zb.out.lt; have nlb4 := Nat.ne_of_lt lb4; have nrb4 := Nat.ne_of_gt lb4)); have Gp4 := Lib.hid h4; clear h4 hb; obtain ⟨hc4, hf4⟩ := bcell H4.out; have l4 := (X_1.out.below H4.out).lt; have nl4 := Nat.ne_of_lt l4; have nr4 := Nat.ne_of_gt l4; have nl41 : w.heap.size ≠ w4.heap.size + 1 := (by omega); have nr41 : w4.heap.size + 1 ≠ w.heap.size := (by omega); have tk2r : True := trivial)
      | (go_at_call 43; have _t := tk2r; clear _t tk2r; (with_reducible refine (dropr_any a0 b2 _ HK.out HJ.out).mono ?_); rintro e w5 ⟨Ar, nr, cr, Br, mr, dr, Cr, or, er, rfl, h5, hb⟩; have S5 : Hid (Below w4.heap.size w4 w5) := Lib.hid (by first | exact hb | exact then_ (new1 w4 _) hb | exact then_ (then_ (new1 w4 _) (new1 _ _)) hb); have H5 := Lib.hid (then_ H4.out S5.out); have Gp5 := Lib.hid (Gp4.out.keep S5.out); have Gr5 := Lib.hid h5; (try (have Za5 := Lib.hid (Za.out.below S5.out))); (try (have Zb5 := Lib.hid (Zb.out.below S5.out))); (first | (have Zc5 : Hid (Own w5 (w4.heap.size) 57 zTx) := Lib.hid (((own_new w4 zTx 57).alloc _).below hb); have Zd5 : Hid (Own w5 (w4.heap.size + 1) 57 zTx) := Lib.hid ((own_new2 w4 _ zTx 57).below hb)) | (have Zc5 : Hid (Own w5 (w4.heap.size) 57 zTx) := Lib.hid ((own_new w4 zTx 57).below hb)) | skip); (try (have fa := Za5.out.frozen; have la := Za5.out.lt; have za0 := Za5.out.cell 0 _ rfl; have za1 := Za5.out.cell 1 _ rfl; have za2 := Za5.out.cell 2 _ rfl)); (try (have fb := Zb5.out.frozen; have lb := Zb5.out.lt; have zb0 := Zb5.out.cell 0 _ rfl; have zb1 := Zb5.out.cell 1 _ rfl; have zb2 := Zb5.out.cell 2 _ rfl)); (try (have fc := Zc5.out.frozen; have lc := Zc5.out.lt; have zc0 := Zc5.out.cell 0 _ rfl; have zc1 := Zc5.out.cell 1 _ rfl; have zc2 := Zc5.out.cell 2 _ rfl)); (try (have fd := Zd5.out.frozen; have ld := Zd5.out.lt; have zd0 := Zd5.out.cell 0 _ rfl; have zd1 := Zd5.out.cell 1 _ rfl; have zd2 := Zd5.out.cell 2 _ rfl)); have sz4 := H4.out.size; clear h5 hb hc4 hf4; obtain ⟨hc5, hf5⟩ := bcell H5.out; have l5 := (X_1.out.below H5.out).lt; have nl5 := Nat.ne_of_lt l5; have nr5 := Nat.ne_of_gt l5; have nl51 : w.heap.size ≠ w5.heap.size + 1 := (by omega); have nr51 : w5.heap.size + 1 ≠ w.heap.size := (by omega))
      | (go_at_call 43; have _t := tk1; clear _t tk1; (with_reducible refine (dropr_any a0 b2 _ HK.out HJ.out).mono ?_); rintro e w4 ⟨Ar, nr, cr, Br, mr, dr, Cr, or, er, rfl, h4, hb⟩; have H4 : Hid (Below W2.heap.size W2 w4) := Lib.hid (by first | exact then_ (new_drew W2) hb | exact then_ (then_ (new1 W2 _) (new_drew _)) hb | exact then_ (then_ (then_ (new1 W2 _) (new1 _ _)) (new_drew _)) hb); (first | (have Za : Hid (Own w4 (W2.heap.size) 57 zTx) := Lib.hid ((((own_new W2 zTx 57).alloc _).below (new_drew _)).below hb); have Zb : Hid (Own w4 (W2.heap.size + 1) 57 zTx) := Lib.hid (((own_new2 W2 _ zTx 57).below (new_drew _)).below hb)) | (have Za : Hid (Own w4 (W2.heap.size) 57 zTx) := Lib.hid (((own_new W2 zTx 57).below (new_drew _)).below hb)) | skip); (try (have la4 := Za.out.lt; have nla4 := Nat.ne_of_lt la4; have nra4 := Nat.ne_of_gt la4)); (try (have lb4 := Zb.out.lt; have nlb4 := Nat.ne_of_lt lb4; have nrb4 := Nat.ne_of_gt lb4)); have Gr4 := Lib.hid h4; clear h4 hb; obtain ⟨hc4, hf4⟩ := bcell H4.out; have l4 := (X_1.out.below H4.out).lt; have nl4 := Nat.ne_of_lt l4; have nr4 := Nat.ne_of_gt l4; have nl41 : w.heap.size ≠ w4.heap.size + 1 := (by omega); have nr41 : w4.heap.size + 1 ≠ w.heap.size := (by omega); have tk2p : True := trivial)
      | (go_at_call 42; have _t := tk2p; clear _t tk2p; (with_reducible refine (drop_any a0 b2 _ HK.out HJ.out).mono ?_); rintro e w5 ⟨Ap, np, cp, Bp, mp, dp, Cp, op, ep, rfl, h5, hb⟩; have S5 : Hid (Below w4.heap.size w4 w5) := Lib.hid (by first | exact hb | exact then_ (new1 w4 _) hb | exact then_ (then_ (new1 w4 _) (new1 _ _)) hb); have H5 := Lib.hid (then_ H4.out S5.out); have Gr5 := Lib.hid (Gr4.out.keep S5.out); have Gp5 := Lib.hid h5; (try (have Za5 := Lib.hid (Za.out.below S5.out))); (try (have Zb5 := Lib.hid (Zb.out.below S5.out))); (first | (have Zc5 : Hid (Own w5 (w4.heap.size) 57 zTx) := Lib.hid (((own_new w4 zTx 57).alloc _).below hb); have Zd5 : Hid (Own w5 (w4.heap.size + 1) 57 zTx) := Lib.hid ((own_new2 w4 _ zTx 57).below hb)) | (have Zc5 : Hid (Own w5 (w4.heap.size) 57 zTx) := Lib.hid ((own_new w4 zTx 57).below hb)) | skip); (try (have fa := Za5.out.frozen; have la := Za5.out.lt; have za0 := Za5.out.cell 0 _ rfl; have za1 := Za5.out.cell 1 _ rfl; have za2 := Za5.out.cell 2 _ rfl)); (try (have fb := Zb5.out.frozen; have lb := Zb5.out.lt; have zb0 := Zb5.out.cell 0 _ rfl; have zb1 := Zb5.out.cell 1 _ rfl; have zb2 := Zb5.out.cell 2 _ rfl)); (try (have fc := Zc5.out.frozen; have lc := Zc5.out.lt; have zc0 := Zc5.out.cell 0 _ rfl; have zc1 := Zc5.out.cell 1 _ rfl; have zc2 := Zc5.out.cell 2 _ rfl)); (try (have fd := Zd5.out.frozen; have ld := Zd5.out.lt; have zd0 := Zd5.out.cell 0 _ rfl; have zd1 := Zd5.out.cell 1 _ rfl; have zd2 := Zd5.out.cell 2 _ rfl)); have sz4 := H4.out.size; clear h5 hb hc4 hf4; obtain ⟨hc5, hf5⟩ := bcell H5.out; have l5 := (X_1.out.below H5.out).lt; have nl5 := Nat.ne_of_lt l5; have nr5 := Nat.ne_of_gt l5; have nl51 : w.heap.size ≠ w5.heap.size + 1 := (by omega); have nr51 : w5.heap.size + 1 ≠ w.heap.size := (by omega)))
    all_goals
      clear hc5 hf5
    all_goals
      go_wp2_with fail
      go_meet
      first
        | with_reducible exact two_new Gp5.out Gr5.out H5.out
        | with_reducible exact two_swap (two_new Gr5.out Gp5.out H5.out)
        | with_reducible exact two_one Za5.out Gp5.out Gr5.out H5.out (by omega)
        | with_reducible exact two_swap (two_one Za5.out Gr5.out Gp5.out H5.out (by omega))
        | with_reducible exact two_one Zb5.out Gp5.out Gr5.out H5.out (by omega)
        | with_reducible exact two_swap (two_one Zb5.out Gr5.out Gp5.out H5.out (by omega))
        | with_reducible exact two_one Zc5.out Gp5.out Gr5.out H5.out (by omega)
        | with_reducible exact two_swap (two_one Zc5.out Gr5.out Gp5.out H5.out (by omega))
        | with_reducible exact two_one Zd5.out Gp5.out Gr5.out H5.out (by omega)
        | with_reducible exact two_swap (two_one Zd5.out Gr5.out Gp5.out H5.out (by omega))
        | with_reducible exact two_old Za5.out Zb5.out (by omega) Gp5.out Gr5.out H5.out (by omega) (by omega)
        | with_reducible exact two_old Zb5.out Za5.out (by omega) Gp5.out Gr5.out H5.out (by omega) (by omega)
        | with_reducible exact two_old Za5.out Zc5.out (by omega) Gp5.out Gr5.out H5.out (by omega) (by omega)
        | with_reducible exact two_old Zc5.out Za5.out (by omega) Gp5.out Gr5.out H5.out (by omega) (by omega)
        | with_reducible exact two_old Zc5.out Zd5.out (by omega) Gp5.out Gr5.out H5.out (by omega) (by omega)
        | with_reducible exact two_old Zd5.out Zc5.out (by omega) Gp5.out Gr5.out H5.out (by omega) (by omega)
        | with_reducible exact two_swap (two_old Za5.out Zb5.out (by omega) Gr5.out Gp5.out H5.out (by omega) (by omega))
        | with_reducible exact two_swap (two_old Zb5.out Za5.out (by omega) Gr5.out Gp5.out H5.out (by omega) (by omega))
        | with_reducible exact two_swap (two_old Za5.out Zc5.out (by omega) Gr5.out Gp5.out H5.out (by omega) (by omega))
        | with_reducible exact two_swap (two_old Zc5.out Za5.out (by omega) Gr5.out Gp5.out H5.out (by omega) (by omega))
        | with_reducible exact two_swap (two_old Zc5.out Zd5.out (by omega) Gr5.out Gp5.out H5.out (by omega) (by omega))
        | with_reducible exact two_swap (two_old Zd5.out Zc5.out (by omega) Gr5.out Gp5.out H5.out (by omega) (by omega))
        | exact two_new Gp5.out Gr5.out H5.out
        | exact two_swap (two_new Gr5.out Gp5.out H5.out)
        | exact two_one Za5.out Gp5.out Gr5.out H5.out (by omega)
        | exact two_swap (two_one Za5.out Gr5.out Gp5.out H5.out (by omega))
        | exact two_one Zb5.out Gp5.out Gr5.out H5.out (by omega)
        | exact two_swap (two_one Zb5.out Gr5.out Gp5.out H5.out (by omega))
        | exact two_one Zc5.out Gp5.out Gr5.out H5.out (by omega)
        | exact two_swap (two_one Zc5.out Gr5.out Gp5.out H5.out (by omega))
        | exact two_one Zd5.out Gp5.out Gr5.out H5.out (by omega)
        | exact two_swap (two_one Zd5.out Gr5.out Gp5.out H5.out (by omega))
        | exact two_old Za5.out Zb5.out (by omega) Gp5.out Gr5.out H5.out (by omega) (by omega)
        | exact two_old Zb5.out Za5.out (by omega) Gp5.out Gr5.out H5.out (by omega) (by omega)
        | exact two_old Za5.out Zc5.out (by omega) Gp5.out Gr5.out H5.out (by omega) (by omega)
        | exact two_old Zc5.out Za5.out (by omega) Gp5.out Gr5.out H5.out (by omega) (by omega)
        | exact two_old Zc5.out Zd5.out (by omega) Gp5.out Gr5.out H5.out (by omega) (by omega)
        | exact two_old Zd5.out Zc5.out (by omega) Gp5.out Gr5.out H5.out (by omega) (by omega)
        | exact two_swap (two_old Za5.out Zb5.out (by omega) Gr5.out Gp5.out H5.out (by omega) (by omega))
        | exact two_swap (two_old Zb5.out Za5.out (by omega) Gr5.out Gp5.out H5.out (by omega) (by omega))
        | exact two_swap (two_old Za5.out Zc5.out (by omega) Gr5.out Gp5.out H5.out (by omega) (by omega))
        | exact two_swap (two_old Zc5.out Za5.out (by omega) Gr5.out Gp5.out H5.out (by omega) (by omega))
        | exact two_swap (two_old Zc5.out Zd5.out (by omega) Gr5.out Gp5.out H5.out (by omega) (by omega))
        | exact two_swap (two_old Zd5.out Zc5.out (by omega) Gr5.out Gp5.out H5.out (by omega) (by omega))
  case rest =>
  rename World => W3
  obtain ⟨bc, Ac, nc, cc, Bc, mc, dc, Cc, oc, ec, bd, Ad, nd, cd, Bd, md, dd, Cd, od, ed, rfl, rfl, hk, hv, ho, hr, hb⟩ := hcut
  obtain rfl : nc = 1 := hk.iff.row.len.symm
  obtain rfl : mc = 1 := hk.thn.len.symm
  obtain rfl : oc = 0 := hk.els.len.symm
  obtain rfl : nd = 1 := hv.iff.row.len.symm
  obtain rfl : md = 1 := hv.thn.len.symm
  obtain rfl : od = 0 := hv.els.len.symm
  have S_2 := Lib.hid hb; clear hb
  have X_7 := Lib.hid (X_1.out.below S_2.out)
  have Ga_8 := Lib.hid (Ga_3.out.keep S_2.out)
  have Gb_9 := Lib.hid (Gb_4.out.keep S_2.out)
  have Ya_10 := Lib.hid (Ya_5.out.below S_2.out)
  have Yb_11 := Lib.hid (Yb_6.out.below S_2.out)
  have B_12 := Lib.hid (then_ B_2.out S_2.out)
  clear X_1 Ga_3 Gb_4 Ya_5 Yb_6 B_2
  clear S_2
  have Gc_13 := Lib.hid (hk)
  have Gd_14 := Lib.hid (hv)
  have Yc_15 := Lib.hid (ho)
  have Yd_16 := Lib.hid (hr)
  clear hk hv ho hr
  have heq := eql_cm_same
  have lX := X_7.out.lt; have la := Ya_10.out.lt; have lb := Yb_11.out.lt; have lc := Yc_15.out.lt; have ld := Yd_16.out.lt
  have x1 := X_7.out.cell 1 _ rfl
  have ya0 := Ya_10.out.cell 0 _ rfl
  have ya1 := Ya_10.out.cell 1 _ rfl
  have ya2 := Ya_10.out.cell 2 _ rfl
  have yb0 := Yb_11.out.cell 0 _ rfl
  have yb1 := Yb_11.out.cell 1 _ rfl
  have yb2 := Yb_11.out.cell 2 _ rfl
  have yc0 := Yc_15.out.cell 0 _ rfl
  have yc1 := Yc_15.out.cell 1 _ rfl
  have yc2 := Yc_15.out.cell 2 _ rfl
  have yd0 := Yd_16.out.cell 0 _ rfl
  have yd1 := Yd_16.out.cell 1 _ rfl
  have yd2 := Yd_16.out.cell 2 _ rfl
  have tk1 : True := trivial
  go_wp2
  go_region_held3 (fun w' => w'.cell? ⟨w.heap.size, 1, none⟩ = some (.int .i64 b2) ∧ w'.cell? ⟨ba, 0, none⟩ = some (.slice Aa 1 ca) ∧ w'.cell? ⟨ba, 1, none⟩ = some (.slice Ba 1 da) ∧ w'.cell? ⟨ba, 2, none⟩ = some (.slice Ca 0 ea) ∧ w'.cell? ⟨bb, 0, none⟩ = some (.slice Ab 1 cb) ∧ w'.cell? ⟨bb, 1, none⟩ = some (.slice Bb 1 db) ∧ w'.cell? ⟨bb, 2, none⟩ = some (.slice Cb 0 eb) ∧ w'.cell? ⟨bc, 0, none⟩ = some (.slice Ac 1 cc) ∧ w'.cell? ⟨bc, 1, none⟩ = some (.slice Bc 1 dc) ∧ w'.cell? ⟨bc, 2, none⟩ = some (.slice Cc 0 ec) ∧ w'.cell? ⟨bd, 0, none⟩ = some (.slice Ad 1 cd) ∧ w'.cell? ⟨bd, 1, none⟩ = some (.slice Bd 1 dd) ∧ w'.cell? ⟨bd, 2, none⟩ = some (.slice Cd 0 ed)) (go_keep) (first
    | (go_at_call 44; have _t := tk1; clear _t tk1; (with_reducible refine (absent_any a0 _).mono ?_); rintro e V1a ⟨rfl, hb⟩; have HV1a : Hid (Below W3.heap.size W3 V1a) := Lib.hid (then_ (new_drew W3) hb); clear hb; obtain ⟨hcV1a, hfV1a⟩ := bcell HV1a.out; have tk1a : True := trivial)
    | (go_at_call 45; have _t := tk1a; clear _t tk1a; (with_reducible refine (absentr_any a0 _).mono ?_); rintro e V1 ⟨rfl, hb⟩; have HV1 : Hid (Below W3.heap.size W3 V1) := Lib.hid (then_ HV1a.out hb); clear hb; clear hcV1a hfV1a; obtain ⟨hcV1, hfV1⟩ := bcell HV1.out; have tk2 : True := trivial)
    | (go_at_call 45; have _t := tk1; clear _t tk1; (with_reducible refine (absentr_any a0 _).mono ?_); rintro e V1b ⟨rfl, hb⟩; have HV1b : Hid (Below W3.heap.size W3 V1b) := Lib.hid (then_ (new_drew W3) hb); clear hb; obtain ⟨hcV1b, hfV1b⟩ := bcell HV1b.out; have tk1b : True := trivial)
    | (go_at_call 44; have _t := tk1b; clear _t tk1b; (with_reducible refine (absent_any a0 _).mono ?_); rintro e V1 ⟨rfl, hb⟩; have HV1 : Hid (Below W3.heap.size W3 V1) := Lib.hid (then_ HV1b.out hb); clear hb; clear hcV1b hfV1b; obtain ⟨hcV1, hfV1⟩ := bcell HV1.out; have tk2 : True := trivial)
    | (go_at_call 46; have _t := tk2; clear _t tk2; (with_reducible refine (made_any a0 b2 _).mono ?_); rintro e V2a ⟨rfl, hb⟩; have HV2a : Hid (Below W3.heap.size W3 V2a) := Lib.hid (then_ HV1.out hb); clear hb; clear hcV1 hfV1; obtain ⟨hcV2a, hfV2a⟩ := bcell HV2a.out; have tk2a : True := trivial)
    | (go_at_call 47; have _t := tk2a; clear _t tk2a; (with_reducible refine (mader_any a0 b2 _).mono ?_); rintro e V2 ⟨rfl, hb⟩; have HV2 : Hid (Below W3.heap.size W3 V2) := Lib.hid (then_ HV2a.out hb); clear hb; clear hcV2a hfV2a; obtain ⟨hcV2, hfV2⟩ := bcell HV2.out; have tk3 : True := trivial)
    | (go_at_call 47; have _t := tk2; clear _t tk2; (with_reducible refine (mader_any a0 b2 _).mono ?_); rintro e V2b ⟨rfl, hb⟩; have HV2b : Hid (Below W3.heap.size W3 V2b) := Lib.hid (then_ HV1.out hb); clear hb; clear hcV1 hfV1; obtain ⟨hcV2b, hfV2b⟩ := bcell HV2b.out; have tk2b : True := trivial)
    | (go_at_call 46; have _t := tk2b; clear _t tk2b; (with_reducible refine (made_any a0 b2 _).mono ?_); rintro e V2 ⟨rfl, hb⟩; have HV2 : Hid (Below W3.heap.size W3 V2) := Lib.hid (then_ HV2b.out hb); clear hb; clear hcV2b hfV2b; obtain ⟨hcV2, hfV2⟩ := bcell HV2.out; have tk3 : True := trivial)
    | (go_at_call 48; have _t := tk3; clear _t tk3; (with_reducible refine (req_same (putT a0 a1 a2) Aa 1 ca Ba 1 da Ca 0 ea Ab cb Bb db Cb eb _ (Ga_8.out.keep HV2.out) (Gb_9.out.keep HV2.out)).mono ?_); rintro e V3 ⟨rfl, hb⟩; have HV3 : Hid (Below W3.heap.size W3 V3) := Lib.hid (then_ HV2.out hb); clear hb; clear hcV2 hfV2; obtain ⟨hcV3, hfV3⟩ := bcell HV3.out; have tk4 : True := trivial)
    | (go_at_call 48; have _t := tk4; clear _t tk4; (with_reducible refine (req_same (dropT a0 b2) Ac 1 cc Bc 1 dc Cc 0 ec Ad cd Bd dd Cd ed _ (Gc_13.out.keep HV3.out) (Gd_14.out.keep HV3.out)).mono ?_); rintro e V4 ⟨rfl, hb⟩; have HV4 : Hid (Below W3.heap.size W3 V4) := Lib.hid (then_ HV3.out hb); clear hb; clear hcV3 hfV3; obtain ⟨hcV4, hfV4⟩ := bcell HV4.out; have tk5 : True := trivial)
    | (go_at_call 32; have _t := tk5; clear _t tk5; (with_reducible refine (live_any _).mono ?_); rintro e V5 ⟨rfl, hb⟩; have HV5 : Hid (Below W3.heap.size W3 V5) := Lib.hid (then_ HV4.out hb); clear hb; clear hcV4 hfV4; obtain ⟨hcV5, hfV5⟩ := bcell HV5.out; have tk6 : True := trivial))
  all_goals
    have BB := Lib.hid (then_ B_12.out HV5.out)
    go_wp2
    go_ret
    exact ⟨rfl, BB.out⟩

theorem own : ownKnob Try.prog.godebug = none := by kernel_rfl
theorem laidOut : laidOutB Try.prog = true := by kernel_rfl

set_option maxRecDepth 100000 in
theorem lifted (os : Os) (started : os.Started) (H : Type) (enc : TypeId × Value → H) :
    ReturnsInHanded {} Try.checked os 11 .any (Rows.txnMakesSpec.pre6 enc Try.prog Try.f11 Rows.txnMakesRow.domain false) (Rows.txnMakesSpec.post enc Try.prog Try.f11 false true false false) := by
  refine returnsInHanded_of_change (C := Try.checked) own started (by kernel_rfl) Try.func11
    (ChangeSpec.witness6 (enc := enc) (C := Try.checked) false ⟨#[], #[.string ByteArray.empty, .string ByteArray.empty, .agg #[.int .i64 0, .int .i64 0]], []⟩ 8 (by kernel_rfl) (by kernel_rfl) (by kernel_rfl) (by kernel_rfl)) ?_
  intro W base args ds gs before hval0 hW hcnd _
  have hval : ∀ (j : Nat) t v, Try.f11.params[j]? = some t → args[j]? = some v → Value.okWide Try.prog W .any base t v := hval0
  have hW' := hW
  obtain ⟨p, q, hA0, hV, rfl, hfz, hnd⟩ := hW
  have hA : DataW.TrodAll enc Try.prog W 0 (fun _ => true) true Try.f11.params.toList args.toList ds p := hA0
  rw [Try.params11] at hA hval
  obtain ⟨v0, vs0, d0, ds0, p0, q0, hargs, rfl, rfl, h0, r0⟩ := trodAll_cons hA
  obtain ⟨v1, vs1, d1, ds1, p1, q1, rfl, rfl, rfl, h1, r1⟩ := trodAll_cons r0
  obtain ⟨v2, vs2, d2, ds2, p2, q2, rfl, rfl, rfl, h2, r2⟩ := trodAll_cons r1
  obtain ⟨rfl, rfl, rfl⟩ := trodAll_nil r2
  obtain rfl : args = #[v0, v1, v2] := by cases args; simp_all
  obtain ⟨rfl, rfl⟩ := trodVars_none hV
  obtain ⟨a0, rfl, rfl, rfl, w0⟩ := open_string Try.underlying9 (hval 0 9 v0 rfl rfl) h0
  obtain ⟨a1, rfl, rfl, rfl, w1⟩ := open_string Try.underlying9 (hval 1 9 v1 rfl rfl) h1
  obtain ⟨a2, b2, rfl, rfl, rfl, w2, u2⟩ := open_two_int Try.underlying64 Try.underlying3 (by kernel_rfl) (by kernel_rfl) (hval 2 64 v2 rfl rfl) h2
  clear hA0 hval0
  refine (walk W a0 a1 a2 b2 w0 w1 w2 u2).mono fun e W' ⟨he, bel⟩ => ?_
  subst he
  exact ⟨_, rfl, _, _, _, [], _, [], hW', trodAll_mk1 (shut_bool Try.underlying4 _), (trodAll_cons_mk (shut_string Try.underlying9 w0) (trodAll_cons_mk (shut_string Try.underlying9 w1) (trodAll_cons_mk (shut_two_int Try.underlying64 Try.underlying3 (by kernel_rfl) (by kernel_rfl) w2 u2) trodAll_mk0))), rfl, bel.frame _, fun h => by cases h⟩

theorem over : Rows.txnMakesRow.holds Try.pinned (OpenSpec.ofChange Rows.txnMakesSpec) :=
  OpenClaim.holds_of_wide 11 Try.f11 rfl rfl rfl rfl rfl rfl rfl ⟨rfl, rfl, rfl, rfl, rfl⟩ rfl rfl rfl rfl rfl (by kernel_rfl) Try.func11 (by kernel_rfl)
    (of_decide_eq_true (by kernel_rfl)) (by unfold Func.isWrapper; first | (rw [if_pos (by decide +kernel)]; kernel_rfl) | (rw [if_neg (by decide +kernel)]; exact ⟨rfl, rfl⟩))
    (fun os started H enc _ => lifted os started H enc)

theorem proved : Rows.TxnMakesSaid := over
#print axioms proved
end Go.Proofs.Ytlffhehpeeiogaa.txnMakes
