/- For every store and every revision the law MvccTells answers true: May, Now and At answer what the document asks. No condition. -/
import Derived.Deep.RegionHeld3
import Derived.Test.YtlffhehpeeiogaaMvRefMay
import Derived.Test.YtlffhehpeeiogaaMvLive
import Derived.Test.YtlffhehpeeiogaaMvOpen
import Derived.Test.YtlffhehpeeiogaaRows
namespace Go.Proofs.Ytlffhehpeeiogaa.mvccTells
open Go.ChangeShapes Go.WideShapes Go.ChangeAt Go.RowKit Go.Proofs.Ytlffhehpeeiogaa.P
open Go.ChangeMaps (open_string shut_string)
set_option linter.unusedVariables false
set_option linter.unusedSimpArgs false
set_option maxHeartbeats 2000000
set_option maxRecDepth 100000

theorem at_len (s : St) (t : Int) : (atL s t).length ≤ s.base.length + s.log.length := by
  unfold atL nowL
  have h1 := foldL_len s.log s.rev s.base
  have h2 := foldL_len s.log t s.base
  split
  · omega
  · split
    · omega
    · simp
theorem now_len (s : St) : (nowL s).length ≤ s.base.length + s.log.length := foldL_len s.log s.rev s.base
theorem no_few (w : World) (s0 : St) (A0 : Option Addr) (n0 c0 : Nat) (B0 : Option Addr) (m0 d0 : Nat) (a1 : Int) (k0 : StAt w s0 A0 n0 c0 B0 m0 d0) (w1 : (Lit.int .i64 a1).wf = true) (hf : fewS s0 = false) :
    Calls Try.prog 3 #[s0.agg A0 n0 c0 B0 m0 d0, .int .i64 a1] w fun e w' => e = .returned (.bool true) ∧ Below w.heap.size w w' := by
  have HF := Lib.hid hf; clear hf
  have K_0 := Lib.hid (k0.keep (new1 w (.cells (stCells s0 A0 n0 c0 B0 m0 d0) 25)))
  have X_0 := Lib.hid (own_new w (stCells s0 A0 n0 c0 B0 m0 d0) 25)
  have B_0 := Lib.hid (new1 w (.cells (stCells s0 A0 n0 c0 B0 m0 d0) 25))
  clear k0
  go_enter Try.func3, Try.ntmps3
  have x0 := X_0.out.cell 0 _ rfl
  have x1 := X_0.out.cell 1 _ rfl
  have x2 := X_0.out.cell 2 _ rfl
  have x3 := X_0.out.cell 3 _ rfl
  go_wp2_with fail
  refine (few_st s0 A0 n0 c0 B0 m0 d0 _ K_0.out).mono ?_; rintro e w1 ⟨rfl, hb⟩
  rw [HF.out]
  have S_1 := Lib.hid hb; clear hb
  have K_2 := Lib.hid (K_0.out.keep S_1.out)
  have X_3 := Lib.hid (X_0.out.below S_1.out)
  have B_4 := Lib.hid (then_ B_0.out S_1.out)
  clear K_0 X_0 B_0
  clear S_1
  clear x0 x1 x2 x3
  go_wp2_with fail
  refine (live_any _).mono ?_; rintro e w2 ⟨rfl, hb⟩
  have S_5 := Lib.hid hb; clear hb
  have K_6 := Lib.hid (K_2.out.keep S_5.out)
  have X_7 := Lib.hid (X_3.out.below S_5.out)
  have B_8 := Lib.hid (then_ B_4.out S_5.out)
  clear K_2 X_3 B_4
  clear S_5
  go_wp2
  go_ret
  exact ⟨rfl, B_8.out⟩
theorem fine (w : World) (s0 : St) (A0 : Option Addr) (n0 c0 : Nat) (B0 : Option Addr) (m0 d0 : Nat) (a1 : Int) (k0 : StAt w s0 A0 n0 c0 B0 m0 d0) (w1 : (Lit.int .i64 a1).wf = true) (hf : fewS s0 = true) :
    Calls Try.prog 3 #[s0.agg A0 n0 c0 B0 m0 d0, .int .i64 a1] w fun e w' => e = .returned (.bool true) ∧ Below w.heap.size w w' := by
  have HF := Lib.hid hf
  have hb0 := k0.kv.len; have hb1 := k0.ev.len
  have hn : n0 ≤ 40 ∧ m0 ≤ 70 := by unfold fewS fewB fewE at hf; simp only [Bool.and_eq_true, decide_eq_true_eq] at hf; omega
  have HB : Hid (n0 + m0 ≤ 900000) := Lib.hid (by omega)
  have HN : Hid (n0 ≤ 900000) := Lib.hid (by omega)
  have HI := Lib.hid (inI_of w1)
  have LA : Hid ((atL s0 a1).length ≤ 1000) := Lib.hid (by have := at_len s0 a1; omega)
  have LN : Hid ((nowL s0).length ≤ 1000) := Lib.hid (by have := now_len s0; omega)
  have e5 : (mayB s0 == mayB s0) = true := by simp
  have e6 : (atE s0 a1 == atE s0 a1) = true := by simp
  clear hf hb0 hb1 hn
  have K_0 := Lib.hid (k0.keep (new1 w (.cells (stCells s0 A0 n0 c0 B0 m0 d0) 25)))
  have X_0 := Lib.hid (own_new w (stCells s0 A0 n0 c0 B0 m0 d0) 25)
  have B_0 := Lib.hid (new1 w (.cells (stCells s0 A0 n0 c0 B0 m0 d0) 25))
  clear k0
  go_enter Try.func3, Try.ntmps3
  have x0 := X_0.out.cell 0 _ rfl
  have x1 := X_0.out.cell 1 _ rfl
  have x2 := X_0.out.cell 2 _ rfl
  have x3 := X_0.out.cell 3 _ rfl
  go_wp2_with fail
  refine (few_st s0 A0 n0 c0 B0 m0 d0 _ K_0.out).mono ?_; rintro e w1 ⟨rfl, hb⟩
  rw [HF.out]
  have S_1 := Lib.hid hb; clear hb
  have K_2 := Lib.hid (K_0.out.keep S_1.out)
  have X_3 := Lib.hid (X_0.out.below S_1.out)
  have B_4 := Lib.hid (then_ B_0.out S_1.out)
  clear K_0 X_0 B_0
  clear S_1
  clear x0 x1 x2 x3
  have x0 := X_3.out.cell 0 _ rfl
  have x1 := X_3.out.cell 1 _ rfl
  have x2 := X_3.out.cell 2 _ rfl
  have x3 := X_3.out.cell 3 _ rfl
  go_wp2_with fail
  refine (at_any s0 A0 n0 c0 B0 m0 d0 a1 _ K_2.out HB.out HI.out).mono ?_; rintro e w2 ⟨P1, p1, q1, rfl, h1, hb⟩
  have S_5 := Lib.hid hb; clear hb
  have K_6 := Lib.hid (K_2.out.keep S_5.out)
  have X_7 := Lib.hid (X_3.out.below S_5.out)
  have B_8 := Lib.hid (then_ B_4.out S_5.out)
  clear K_2 X_3 B_4
  clear S_5
  clear x0 x1 x2 x3
  have WA_9 := Lib.hid (h1)
  clear h1
  have x0 := X_7.out.cell 0 _ rfl
  have x1 := X_7.out.cell 1 _ rfl
  have x2 := X_7.out.cell 2 _ rfl
  have x3 := X_7.out.cell 3 _ rfl
  go_wp2_with fail
  refine (at_ref s0 A0 n0 c0 B0 m0 d0 a1 _ K_6.out HB.out HI.out).mono ?_; rintro e w3 ⟨P2, p2, q2, rfl, h2, hb⟩
  have S_10 := Lib.hid hb; clear hb
  have K_11 := Lib.hid (K_6.out.keep S_10.out)
  have X_12 := Lib.hid (X_7.out.below S_10.out)
  have WA_13 := Lib.hid (WA_9.out.keep S_10.out)
  have B_14 := Lib.hid (then_ B_8.out S_10.out)
  clear K_6 X_7 WA_9 B_8
  clear S_10
  clear x0 x1 x2 x3
  have WB_15 := Lib.hid (h2)
  clear h2
  obtain rfl : p1 = p2 := WA_13.out.len.symm.trans WB_15.out.len
  have hlx := X_12.out.lt
  have x0 := X_12.out.cell 0 _ rfl
  have x1 := X_12.out.cell 1 _ rfl
  have x2 := X_12.out.cell 2 _ rfl
  have x3 := X_12.out.cell 3 _ rfl
  have tk1 : True := trivial
  go_wp2
  go_region_held3 (fun w' => w'.cell? ⟨w.heap.size, 0, none⟩ = some (.int .i64 s0.rev) ∧ w'.cell? ⟨w.heap.size, 1, none⟩ = some (.int .i64 s0.low) ∧ w'.cell? ⟨w.heap.size, 2, none⟩ = some (.slice A0 n0 c0) ∧ w'.cell? ⟨w.heap.size, 3, none⟩ = some (.slice B0 m0 d0)) (go_keep) (first
    | (go_at_call 19; have _t := tk1; clear _t tk1; (with_reducible refine (mvmay_any s0 A0 n0 c0 B0 m0 d0 _ (K_11.out.keep (new_drew w3))).mono ?_); rintro e V1a ⟨rfl, hb⟩; have HV1a : Hid (Below w3.heap.size w3 V1a) := Lib.hid (then_ (new_drew w3) hb); clear hb; obtain ⟨hcV1a, hfV1a⟩ := bcell HV1a.out; have tk1a : True := trivial)
    | (go_at_call 20; have _t := tk1a; clear _t tk1a; (with_reducible refine (mvmay_ref s0 A0 n0 c0 B0 m0 d0 _ (K_11.out.keep HV1a.out) HN.out).mono ?_); rintro e V1 ⟨rfl, hb⟩; have HV1 : Hid (Below w3.heap.size w3 V1) := Lib.hid (then_ HV1a.out hb); clear hb; clear hcV1a hfV1a; obtain ⟨hcV1, hfV1⟩ := bcell HV1.out; have tk2 : True := trivial)
    | (go_at_call 20; have _t := tk1; clear _t tk1; (with_reducible refine (mvmay_ref s0 A0 n0 c0 B0 m0 d0 _ (K_11.out.keep (new_drew w3)) HN.out).mono ?_); rintro e V1b ⟨rfl, hb⟩; have HV1b : Hid (Below w3.heap.size w3 V1b) := Lib.hid (then_ (new_drew w3) hb); clear hb; obtain ⟨hcV1b, hfV1b⟩ := bcell HV1b.out; have tk1b : True := trivial)
    | (go_at_call 19; have _t := tk1b; clear _t tk1b; (with_reducible refine (mvmay_any s0 A0 n0 c0 B0 m0 d0 _ (K_11.out.keep HV1b.out)).mono ?_); rintro e V1 ⟨rfl, hb⟩; have HV1 : Hid (Below w3.heap.size w3 V1) := Lib.hid (then_ HV1b.out hb); clear hb; clear hcV1b hfV1b; obtain ⟨hcV1, hfV1⟩ := bcell HV1.out; have tk2 : True := trivial)
    | (go_at_call 22; have _t := tk2; clear _t tk2; (with_reducible refine (now_any s0 A0 n0 c0 B0 m0 d0 _ (K_11.out.keep HV1.out) HB.out).mono ?_); rintro e V2a ⟨P3, p3, q3, rfl, h3, hb⟩; have HV2a : Hid (Below w3.heap.size w3 V2a) := Lib.hid (then_ HV1.out hb); have NA0 := Lib.hid h3; clear h3; clear hb; clear hcV1 hfV1; obtain ⟨hcV2a, hfV2a⟩ := bcell HV2a.out; have tk2a : True := trivial)
    | (go_at_call 23; have _t := tk2a; clear _t tk2a; (with_reducible refine (now_ref s0 A0 n0 c0 B0 m0 d0 _ (K_11.out.keep HV2a.out) HB.out).mono ?_); rintro e V2 ⟨P4, p4, q4, rfl, h4, hb⟩; have HV2 : Hid (Below w3.heap.size w3 V2) := Lib.hid (then_ HV2a.out hb); have NA := Lib.hid (NA0.out.keep hb); clear NA0; have NB := Lib.hid h4; clear h4; obtain rfl : p3 = p4 := NA.out.len.symm.trans NB.out.len; clear hb; clear hcV2a hfV2a; obtain ⟨hcV2, hfV2⟩ := bcell HV2.out; have tk3 : True := trivial)
    | (go_at_call 23; have _t := tk2; clear _t tk2; (with_reducible refine (now_ref s0 A0 n0 c0 B0 m0 d0 _ (K_11.out.keep HV1.out) HB.out).mono ?_); rintro e V2b ⟨P4, p4, q4, rfl, h4, hb⟩; have HV2b : Hid (Below w3.heap.size w3 V2b) := Lib.hid (then_ HV1.out hb); have NB0 := Lib.hid h4; clear h4; clear hb; clear hcV1 hfV1; obtain ⟨hcV2b, hfV2b⟩ := bcell HV2b.out; have tk2b : True := trivial)
    | (go_at_call 22; have _t := tk2b; clear _t tk2b; (with_reducible refine (now_any s0 A0 n0 c0 B0 m0 d0 _ (K_11.out.keep HV2b.out) HB.out).mono ?_); rintro e V2 ⟨P3, p3, q3, rfl, h3, hb⟩; have HV2 : Hid (Below w3.heap.size w3 V2) := Lib.hid (then_ HV2b.out hb); have NB := Lib.hid (NB0.out.keep hb); clear NB0; have NA := Lib.hid h3; clear h3; obtain rfl : p3 = p4 := NA.out.len.symm.trans NB.out.len; clear hb; clear hcV2b hfV2b; obtain ⟨hcV2, hfV2⟩ := bcell HV2.out; have tk3 : True := trivial)
    | (go_at_call 21; have _t := tk3; clear _t tk3; (with_reducible refine (kvs_same P3 P4 p3 q3 q4 (nowL s0) _ NA.out NB.out (by have h1 := NA.out.len; have h2 := LN.out; omega)).mono ?_); rintro e V3 ⟨rfl, hb⟩; have HV3 : Hid (Below w3.heap.size w3 V3) := Lib.hid (then_ HV2.out hb); clear hb; clear hcV2 hfV2; obtain ⟨hcV3, hfV3⟩ := bcell HV3.out; have tk4 : True := trivial)
    | (go_at_call 21; have _t := tk4; clear _t tk4; (with_reducible refine (kvs_same P1 P2 p1 q1 q2 (atL s0 a1) _ (WA_13.out.keep HV3.out) (WB_15.out.keep HV3.out) (by have h1 := WA_13.out.len; have h2 := LA.out; omega)).mono ?_); rintro e V4 ⟨rfl, hb⟩; have HV4 : Hid (Below w3.heap.size w3 V4) := Lib.hid (then_ HV3.out hb); clear hb; clear hcV3 hfV3; obtain ⟨hcV4, hfV4⟩ := bcell HV4.out; have tk5 : True := trivial)
    | (go_at_call 16; have _t := tk5; clear _t tk5; (with_reducible refine (live_any _).mono ?_); rintro e V5 ⟨rfl, hb⟩; have HV5 : Hid (Below w3.heap.size w3 V5) := Lib.hid (then_ HV4.out hb); clear hb; clear hcV4 hfV4; obtain ⟨hcV5, hfV5⟩ := bcell HV5.out; have tk6 : True := trivial))
  all_goals
    have BB := Lib.hid (then_ B_14.out HV5.out)
    go_wp2
    go_ret
    exact ⟨rfl, BB.out⟩
theorem walk (w : World) (s0 : St) (A0 : Option Addr) (n0 c0 : Nat) (B0 : Option Addr) (m0 d0 : Nat) (a1 : Int) (k0 : StAt w s0 A0 n0 c0 B0 m0 d0) (w1 : (Lit.int .i64 a1).wf = true) :
    Calls Try.prog 3 #[s0.agg A0 n0 c0 B0 m0 d0, .int .i64 a1] w fun e w' => e = .returned (.bool true) ∧ Below w.heap.size w w' := by
  cases hf : fewS s0 with
  | false => exact no_few w s0 A0 n0 c0 B0 m0 d0 a1 k0 w1 hf
  | true => exact fine w s0 A0 n0 c0 B0 m0 d0 a1 k0 w1 hf

theorem own : ownKnob Try.prog.godebug = none := by kernel_rfl
theorem laidOut : laidOutB Try.prog = true := by kernel_rfl

set_option maxRecDepth 100000 in
theorem lifted (os : Os) (started : os.Started) (H : Type) (enc : TypeId × Value → H) :
    ReturnsInHanded {} Try.checked os 3 .any (Rows.mvccTellsSpec.pre6 enc Try.prog Try.f3 Rows.mvccTellsRow.domain false) (Rows.mvccTellsSpec.post enc Try.prog Try.f3 false true false false) := by
  refine returnsInHanded_of_change (C := Try.checked) own started (by kernel_rfl) Try.func3
    (ChangeSpec.witness6 (enc := enc) (C := Try.checked) false ⟨#[], #[.agg #[.int .i64 0, .int .i64 0, .slice none 0 0, .slice none 0 0], (.int .i64 0)], []⟩ 8 (by kernel_rfl) (by kernel_rfl) (by kernel_rfl) (by kernel_rfl)) ?_
  intro W base args ds gs before hval0 hW hcnd _
  have hval : ∀ (j : Nat) t v, Try.f3.params[j]? = some t → args[j]? = some v → Value.okWide Try.prog W .any base t v := hval0
  have hW' := hW
  obtain ⟨p, q, hA0, hV, rfl, hfz, hnd⟩ := hW
  have hA : DataW.TrodAll enc Try.prog W 0 (fun _ => true) true Try.f3.params.toList args.toList ds p := hA0
  rw [Try.params3] at hA hval
  obtain ⟨v0, vs0, d0, ds0, p0, q0, hargs, rfl, rfl, h0, r0⟩ := trodAll_cons hA
  obtain ⟨v1, vs1, d1, ds1, p1, q1, rfl, rfl, rfl, h1, r1⟩ := trodAll_cons r0
  obtain ⟨rfl, rfl, rfl⟩ := trodAll_nil r1
  obtain rfl : args = #[v0, v1] := by cases args; simp_all
  obtain ⟨rfl, rfl⟩ := trodVars_none hV
  obtain ⟨s0, A0, n0, c0, B0, m0, d0, rfl, k0⟩ := open_st (hval 0 25 v0 rfl rfl) h0
  obtain ⟨a1, rfl, rfl, rfl, w1⟩ := open_int Try.underlying3 (hval 1 3 v1 rfl rfl) h1
  clear hA0 hval0
  refine (walk W s0 A0 n0 c0 B0 m0 d0 a1 k0 w1).mono fun e W' ⟨he, bel⟩ => ?_
  subst he
  exact ⟨_, rfl, _, _, _, [], _, [], hW', trodAll_mk1 (shut_bool Try.underlying4 _), (trodAll_cons_mk (Below.trod laidOut (by kernel_rfl) (of_decide_eq_true (by kernel_rfl)) h0 bel (fun x hx => hW'.lt x (by simp [hx]))) (trodAll_cons_mk (shut_int Try.underlying3 w1) trodAll_mk0)), rfl, bel.frame _, fun h => by cases h⟩

theorem over : Rows.mvccTellsRow.holds Try.pinned (OpenSpec.ofChange Rows.mvccTellsSpec) :=
  OpenClaim.holds_of_wide 3 Try.f3 rfl rfl rfl rfl rfl rfl rfl ⟨rfl, rfl, rfl, rfl, rfl⟩ rfl rfl rfl rfl rfl (by kernel_rfl) Try.func3 (by kernel_rfl)
    (of_decide_eq_true (by kernel_rfl)) (by unfold Func.isWrapper; first | (rw [if_pos (by decide +kernel)]; kernel_rfl) | (rw [if_neg (by decide +kernel)]; exact ⟨rfl, rfl⟩))
    (fun os started H enc _ => lifted os started H enc)

theorem proved : Rows.MvccTellsSaid := over
#print axioms proved
end Go.Proofs.Ytlffhehpeeiogaa.mvccTells
