/- For every bag, every place and every two ends the law BagTakes answers true: what is taken, what is copied and what lies between two is what the document asks. No condition. -/
import Derived.Deep.RegionHeld3
import Derived.Test.YtdmhpnobdflkfaaBgLive
import Derived.Test.YtdmhpnobdflkfaaBgOpen
import Derived.Test.YtdmhpnobdflkfaaKeyTwo
import Derived.Test.YtdmhpnobdflkfaaRows
namespace Go.Proofs.Ytdmhpnobdflkfaa.bagTakes
open Go.ChangeShapes Go.WideShapes Go.ChangeAt Go.RowKit Go.Proofs.Ytdmhpnobdflkfaa.P
open Go.ChangeMaps (open_string shut_string)
set_option linter.unusedVariables false
set_option linter.unusedSimpArgs false
set_option maxHeartbeats 2000000
set_option maxRecDepth 100000

theorem no_few (w : World) (A0 : Option Addr) (n0 c0 : Nat) (l0 : List Msg) (a1 : Int) (a2 b2 : Int) (k0 : Ms w A0 n0 c0 l0) (w1 : (Lit.int .i64 a1).wf = true) (w2 : (Lit.int .i64 a2).wf = true) (u2 : (Lit.int .i64 b2).wf = true) (hf : fewB2 n0 0 = false) :
    Calls Try.prog 9 #[.slice A0 n0 c0, .int .i64 a1, .agg #[.int .i64 a2, .int .i64 b2]] w fun e w' => e = .returned (.bool true) ∧ Below w.heap.size w w' := by
  have HF := Lib.hid hf; clear hf w1 w2 u2
  have B_1 := Lib.hid ((new1 w (.cells #[.int .i64 a2, .int .i64 b2] 27)))
  go_enter Try.func9, Try.ntmps9
  go_wp2_with fail
  refine (few_msg A0 none n0 c0 0 0 _).mono ?_; rintro e w' ⟨rfl, rfl⟩
  rw [HF.out]
  go_wp2_with fail
  refine (live_any _).mono ?_; rintro e w1 ⟨rfl, hb⟩
  have S_2 := Lib.hid hb; clear hb
  have B_3 := Lib.hid (then_ B_1.out S_2.out)
  clear B_1
  clear S_2
  go_wp2
  go_ret
  exact ⟨rfl, B_3.out⟩
theorem fine (w : World) (A0 : Option Addr) (n0 c0 : Nat) (l0 : List Msg) (a1 : Int) (a2 b2 : Int) (k0 : Ms w A0 n0 c0 l0) (w1 : (Lit.int .i64 a1).wf = true) (w2 : (Lit.int .i64 a2).wf = true) (u2 : (Lit.int .i64 b2).wf = true) (hf : fewB2 n0 0 = true) :
    Calls Try.prog 9 #[.slice A0 n0 c0, .int .i64 a1, .agg #[.int .i64 a2, .int .i64 b2]] w fun e w' => e = .returned (.bool true) ∧ Below w.heap.size w w' := by
  obtain ⟨h0, _⟩ := few_iff.1 hf
  have HF := Lib.hid hf
  have hl0 := k0.len
  have HT : Hid ((tkL l0 a1).length ≤ 1000) := Lib.hid (by have := tkL_len l0 a1; omega)
  have HC : Hid ((cpL l0 a1).length ≤ 1000) := Lib.hid (by have := cpL_len l0 a1; omega)
  have HB : Hid ((btwL l0 a2 b2).length ≤ 1000) := Lib.hid (by have := btw_len (b := l0) (f := a2) (t := b2) l0.length; unfold btwL; omega)
  clear hf hl0 w1 w2 u2
  have K0_0 := Lib.hid k0
  clear k0
  have K0_1 := Lib.hid (K0_0.out.keep (new1 w (.cells #[.int .i64 a2, .int .i64 b2] 27)))
  have B_2 := Lib.hid ((new1 w (.cells #[.int .i64 a2, .int .i64 b2] 27)))
  clear K0_0
  have E_3 := Lib.hid (own_new w #[.int .i64 a2, .int .i64 b2] 27)
  go_enter Try.func9, Try.ntmps9
  go_wp2_with fail
  refine (few_msg A0 none n0 c0 0 0 _).mono ?_; rintro e w' ⟨rfl, rfl⟩
  rw [HF.out]
  go_wp2_with fail
  refine (take_any A0 n0 c0 l0 a1 _ K0_1.out (by omega)).mono ?_; rintro e w1 ⟨P1, p1, q1, rfl, h, hb⟩
  have S_4 := Lib.hid hb; clear hb
  have K0_5 := Lib.hid (K0_1.out.keep S_4.out)
  have E_6 := Lib.hid (E_3.out.below S_4.out)
  have B_7 := Lib.hid (then_ B_2.out S_4.out)
  clear K0_1 E_3 B_2
  clear S_4
  have P_8 := Lib.hid (h)
  clear h
  have K0_9 := Lib.hid (K0_5.out.keep (new1 w1 (.cells #[.int .i64 (tkM l0 a1).frm, .int .i64 (tkM l0 a1).dst, .string (tkM l0 a1).body] 42)))
  have E_10 := Lib.hid (E_6.out.below (new1 w1 (.cells #[.int .i64 (tkM l0 a1).frm, .int .i64 (tkM l0 a1).dst, .string (tkM l0 a1).body] 42)))
  have P_11 := Lib.hid (P_8.out.keep (new1 w1 (.cells #[.int .i64 (tkM l0 a1).frm, .int .i64 (tkM l0 a1).dst, .string (tkM l0 a1).body] 42)))
  have B_12 := Lib.hid (then_ B_7.out (new1 w1 (.cells #[.int .i64 (tkM l0 a1).frm, .int .i64 (tkM l0 a1).dst, .string (tkM l0 a1).body] 42)))
  clear K0_5 E_6 P_8 B_7
  have X_13 := Lib.hid (own_new w1 #[.int .i64 (tkM l0 a1).frm, .int .i64 (tkM l0 a1).dst, .string (tkM l0 a1).body] 42)
  go_wp2_with fail
  refine (take_ref A0 n0 c0 l0 a1 _ K0_9.out (by omega)).mono ?_; rintro e w2 ⟨P2, p2, q2, rfl, h, hb⟩
  have S_14 := Lib.hid hb; clear hb
  have K0_15 := Lib.hid (K0_9.out.keep S_14.out)
  have E_16 := Lib.hid (E_10.out.below S_14.out)
  have P_17 := Lib.hid (P_11.out.keep S_14.out)
  have X_18 := Lib.hid (X_13.out.below S_14.out)
  have B_19 := Lib.hid (then_ B_12.out S_14.out)
  clear K0_9 E_10 P_11 X_13 B_12
  clear S_14
  have Q_20 := Lib.hid (h)
  clear h
  have K0_21 := Lib.hid (K0_15.out.keep (new1 w2 (.cells #[.int .i64 (tkM l0 a1).frm, .int .i64 (tkM l0 a1).dst, .string (tkM l0 a1).body] 42)))
  have E_22 := Lib.hid (E_16.out.below (new1 w2 (.cells #[.int .i64 (tkM l0 a1).frm, .int .i64 (tkM l0 a1).dst, .string (tkM l0 a1).body] 42)))
  have P_23 := Lib.hid (P_17.out.keep (new1 w2 (.cells #[.int .i64 (tkM l0 a1).frm, .int .i64 (tkM l0 a1).dst, .string (tkM l0 a1).body] 42)))
  have X_24 := Lib.hid (X_18.out.below (new1 w2 (.cells #[.int .i64 (tkM l0 a1).frm, .int .i64 (tkM l0 a1).dst, .string (tkM l0 a1).body] 42)))
  have Q_25 := Lib.hid (Q_20.out.keep (new1 w2 (.cells #[.int .i64 (tkM l0 a1).frm, .int .i64 (tkM l0 a1).dst, .string (tkM l0 a1).body] 42)))
  have B_26 := Lib.hid (then_ B_19.out (new1 w2 (.cells #[.int .i64 (tkM l0 a1).frm, .int .i64 (tkM l0 a1).dst, .string (tkM l0 a1).body] 42)))
  clear K0_15 E_16 P_17 X_18 Q_20 B_19
  have Y_27 := Lib.hid (own_new w2 #[.int .i64 (tkM l0 a1).frm, .int .i64 (tkM l0 a1).dst, .string (tkM l0 a1).body] 42)
  go_wp2_with fail
  refine (copy_any A0 n0 c0 l0 a1 _ K0_21.out (by omega)).mono ?_; rintro e w3 ⟨P3, p3, q3, rfl, h, hb⟩
  have S_28 := Lib.hid hb; clear hb
  have K0_29 := Lib.hid (K0_21.out.keep S_28.out)
  have E_30 := Lib.hid (E_22.out.below S_28.out)
  have P_31 := Lib.hid (P_23.out.keep S_28.out)
  have X_32 := Lib.hid (X_24.out.below S_28.out)
  have Q_33 := Lib.hid (Q_25.out.keep S_28.out)
  have Y_34 := Lib.hid (Y_27.out.below S_28.out)
  have B_35 := Lib.hid (then_ B_26.out S_28.out)
  clear K0_21 E_22 P_23 X_24 Q_25 Y_27 B_26
  clear S_28
  have U_36 := Lib.hid (h)
  clear h
  go_wp2_with fail
  refine (copy_ref A0 n0 c0 l0 a1 _ K0_29.out (by omega)).mono ?_; rintro e w4 ⟨P4, p4, q4, rfl, h, hb⟩
  have S_37 := Lib.hid hb; clear hb
  have K0_38 := Lib.hid (K0_29.out.keep S_37.out)
  have E_39 := Lib.hid (E_30.out.below S_37.out)
  have P_40 := Lib.hid (P_31.out.keep S_37.out)
  have X_41 := Lib.hid (X_32.out.below S_37.out)
  have Q_42 := Lib.hid (Q_33.out.keep S_37.out)
  have Y_43 := Lib.hid (Y_34.out.below S_37.out)
  have U_44 := Lib.hid (U_36.out.keep S_37.out)
  have B_45 := Lib.hid (then_ B_35.out S_37.out)
  clear K0_29 E_30 P_31 X_32 Q_33 Y_34 U_36 B_35
  clear S_37
  have V_46 := Lib.hid (h)
  clear h
  have heq := eql_msg (tkM l0 a1) (tkM l0 a1)
  rw [msgEq_self] at heq
  have ee1 : (tkE l0 a1 == tkE l0 a1) = true := by simp
  have ee2 : (cpE l0 a1 == cpE l0 a1) = true := by simp
  have x0 := X_41.out.cell 0 _ rfl
  have x1 := X_41.out.cell 1 _ rfl
  have x2 := X_41.out.cell 2 _ rfl
  have hlx := X_41.out.lt
  have y0 := Y_43.out.cell 0 _ rfl
  have y1 := Y_43.out.cell 1 _ rfl
  have y2 := Y_43.out.cell 2 _ rfl
  have hly := Y_43.out.lt
  have z0 := E_39.out.cell 0 _ rfl
  have z1 := E_39.out.cell 1 _ rfl
  have hlz := E_39.out.lt
  have tk1 : True := trivial
  go_wp2
  go_region_held3 (fun w' => w'.cell? ⟨w1.heap.size, 0, none⟩ = some (.int .i64 (tkM l0 a1).frm) ∧ w'.cell? ⟨w1.heap.size, 1, none⟩ = some (.int .i64 (tkM l0 a1).dst) ∧ w'.cell? ⟨w1.heap.size, 2, none⟩ = some (.string (tkM l0 a1).body) ∧ w'.cell? ⟨w2.heap.size, 0, none⟩ = some (.int .i64 (tkM l0 a1).frm) ∧ w'.cell? ⟨w2.heap.size, 1, none⟩ = some (.int .i64 (tkM l0 a1).dst) ∧ w'.cell? ⟨w2.heap.size, 2, none⟩ = some (.string (tkM l0 a1).body) ∧ w'.cell? ⟨w.heap.size, 0, none⟩ = some (.int .i64 a2) ∧ w'.cell? ⟨w.heap.size, 1, none⟩ = some (.int .i64 b2)) (go_keep) (first
    | (go_at_call 36; have _t := tk1; clear _t tk1; (with_reducible refine (same_self P1 P2 p1 q1 p2 q2 _ _ (P_40.out.keep (new_drew w4)) (Q_42.out.keep (new_drew w4)) (by have h1 := P_40.out.len; have h2 := HT.out; omega)).mono ?_); rintro e V1 ⟨rfl, hb⟩; have HV1 : Hid (Below w4.heap.size w4 V1) := Lib.hid (then_ (new_drew w4) hb); clear hb; obtain ⟨hcV1, hfV1⟩ := bcell HV1.out; have tk2 : True := trivial)
    | (go_at_call 36; have _t := tk2; clear _t tk2; (with_reducible refine (same_self P3 P4 p3 q3 p4 q4 _ _ (U_44.out.keep HV1.out) (V_46.out.keep HV1.out) (by have h1 := U_44.out.len; have h2 := HC.out; omega)).mono ?_); rintro e V2 ⟨rfl, hb⟩; have HV2 : Hid (Below w4.heap.size w4 V2) := Lib.hid (then_ HV1.out hb); clear hb; clear hcV1 hfV1; obtain ⟨hcV2, hfV2⟩ := bcell HV2.out; have tk3 : True := trivial)
    | (go_at_call 42; have _t := tk3; clear _t tk3; (with_reducible refine (between_any A0 n0 c0 l0 a2 b2 _ (K0_38.out.keep HV2.out) (by omega)).mono ?_); rintro e V3 ⟨P5, p5, q5, rfl, h5, hb⟩; have HV3 : Hid (Below w4.heap.size w4 V3) := Lib.hid (then_ HV2.out hb); have NA := Lib.hid h5; clear h5; clear hb; clear hcV2 hfV2; obtain ⟨hcV3, hfV3⟩ := bcell HV3.out; have tk4 : True := trivial)
    | (go_at_call 43; have _t := tk4; clear _t tk4; (with_reducible refine (between_ref A0 n0 c0 l0 a2 b2 _ (K0_38.out.keep HV3.out) (by omega)).mono ?_); rintro e V4 ⟨P6, p6, q6, rfl, h6, hb⟩; have NA2 := Lib.hid (NA.out.below hb); have HV4 : Hid (Below w4.heap.size w4 V4) := Lib.hid (then_ HV3.out hb); have NB := Lib.hid h6; clear h6; clear hb; clear hcV3 hfV3; obtain ⟨hcV4, hfV4⟩ := bcell HV4.out; have tk5 : True := trivial)
    | (go_at_call 41; have _t := tk5; clear _t tk5; (with_reducible refine (ints_any P5 P6 p5 q5 p6 q6 (btwL l0 a2 b2) _ NA2.out NB.out (by have h1 := NA2.out.len; have h2 := HB.out; omega)).mono ?_); rintro e V5 ⟨rfl, hb⟩; have HV5 : Hid (Below w4.heap.size w4 V5) := Lib.hid (then_ HV4.out hb); clear hb; clear hcV4 hfV4; obtain ⟨hcV5, hfV5⟩ := bcell HV5.out; have tk6 : True := trivial)
    | (go_at_call 31; have _t := tk6; clear _t tk6; (with_reducible refine (live_any _).mono ?_); rintro e V6 ⟨rfl, hb⟩; have HV6 : Hid (Below w4.heap.size w4 V6) := Lib.hid (then_ HV5.out hb); clear hb; clear hcV5 hfV5; obtain ⟨hcV6, hfV6⟩ := bcell HV6.out; have tk7 : True := trivial))
  all_goals
    have BB := Lib.hid (then_ B_45.out HV6.out)
    go_wp2
    go_ret
    exact ⟨rfl, BB.out⟩
theorem walk (w : World) (A0 : Option Addr) (n0 c0 : Nat) (l0 : List Msg) (a1 : Int) (a2 b2 : Int) (k0 : Ms w A0 n0 c0 l0) (w1 : (Lit.int .i64 a1).wf = true) (w2 : (Lit.int .i64 a2).wf = true) (u2 : (Lit.int .i64 b2).wf = true) :
    Calls Try.prog 9 #[.slice A0 n0 c0, .int .i64 a1, .agg #[.int .i64 a2, .int .i64 b2]] w fun e w' => e = .returned (.bool true) ∧ Below w.heap.size w w' := by
  cases hf : fewB2 n0 0 with
  | false => exact no_few w A0 n0 c0 l0 a1 a2 b2 k0 w1 w2 u2 hf
  | true => exact fine w A0 n0 c0 l0 a1 a2 b2 k0 w1 w2 u2 hf

theorem own : ownKnob Try.prog.godebug = none := by kernel_rfl
theorem laidOut : laidOutB Try.prog = true := by kernel_rfl

set_option maxRecDepth 100000 in
theorem lifted (os : Os) (started : os.Started) (H : Type) (enc : TypeId × Value → H) :
    ReturnsInHanded {} Try.checked os 9 .any (Rows.bagTakesSpec.pre6 enc Try.prog Try.f9 Rows.bagTakesRow.domain false) (Rows.bagTakesSpec.post enc Try.prog Try.f9 false true false false) := by
  refine returnsInHanded_of_change (C := Try.checked) own started (by kernel_rfl) Try.func9
    (ChangeSpec.witness6 (enc := enc) (C := Try.checked) false ⟨#[], #[.slice none 0 0, (.int .i64 0), .agg #[.int .i64 0, .int .i64 0]], []⟩ 8 (by kernel_rfl) (by kernel_rfl) (by kernel_rfl) (by kernel_rfl)) ?_
  intro W base args ds gs before hval0 hW hcnd _
  have hval : ∀ (j : Nat) t v, Try.f9.params[j]? = some t → args[j]? = some v → Value.okWide Try.prog W .any base t v := hval0
  have hW' := hW
  obtain ⟨p, q, hA0, hV, rfl, hfz, hnd⟩ := hW
  have hA : DataW.TrodAll enc Try.prog W 0 (fun _ => true) true Try.f9.params.toList args.toList ds p := hA0
  rw [Try.params9] at hA hval
  obtain ⟨v0, vs0, d0, ds0, p0, q0, hargs, rfl, rfl, h0, r0⟩ := trodAll_cons hA
  obtain ⟨v1, vs1, d1, ds1, p1, q1, rfl, rfl, rfl, h1, r1⟩ := trodAll_cons r0
  obtain ⟨v2, vs2, d2, ds2, p2, q2, rfl, rfl, rfl, h2, r2⟩ := trodAll_cons r1
  obtain ⟨rfl, rfl, rfl⟩ := trodAll_nil r2
  obtain rfl : args = #[v0, v1, v2] := by cases args; simp_all
  obtain ⟨rfl, rfl⟩ := trodVars_none hV
  obtain ⟨A0, n0, c0, l0, rfl, k0⟩ := open_msgs (hval 0 35 v0 rfl rfl) h0
  obtain ⟨a1, rfl, rfl, rfl, w1⟩ := open_int Try.underlying3 (hval 1 3 v1 rfl rfl) h1
  obtain ⟨a2, b2, rfl, rfl, rfl, w2, u2⟩ := open_two_int Try.underlying27 Try.underlying3 (by kernel_rfl) (by kernel_rfl) (hval 2 27 v2 rfl rfl) h2
  clear hA0 hval0
  refine (walk W A0 n0 c0 l0 a1 a2 b2 k0 w1 w2 u2).mono fun e W' ⟨he, bel⟩ => ?_
  subst he
  exact ⟨_, rfl, _, _, _, [], _, [], hW', trodAll_mk1 (shut_bool Try.underlying4 _), (trodAll_cons_mk (Below.trod laidOut (by kernel_rfl) (of_decide_eq_true (by kernel_rfl)) h0 bel (fun x hx => hW'.lt x (by simp [hx]))) (trodAll_cons_mk (shut_int Try.underlying3 w1) (trodAll_cons_mk (shut_two_int Try.underlying27 Try.underlying3 (by kernel_rfl) (by kernel_rfl) w2 u2) trodAll_mk0))), rfl, bel.frame _, fun h => by cases h⟩

theorem over : Rows.bagTakesRow.holds Try.pinned (OpenSpec.ofChange Rows.bagTakesSpec) :=
  OpenClaim.holds_of_wide 9 Try.f9 rfl rfl rfl rfl rfl rfl rfl ⟨rfl, rfl, rfl, rfl, rfl⟩ rfl rfl rfl rfl rfl (by kernel_rfl) Try.func9 (by kernel_rfl)
    (of_decide_eq_true (by kernel_rfl)) (by unfold Func.isWrapper; first | (rw [if_pos (by decide +kernel)]; kernel_rfl) | (rw [if_neg (by decide +kernel)]; exact ⟨rfl, rfl⟩))
    (fun os started H enc _ => lifted os started H enc)

theorem proved : Rows.BagTakesSaid := over
#print axioms proved
end Go.Proofs.Ytdmhpnobdflkfaa.bagTakes
