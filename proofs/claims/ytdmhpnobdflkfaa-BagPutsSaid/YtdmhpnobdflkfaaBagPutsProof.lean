/- For every bag and all messages the law BagPuts answers true: whether a bag may be, and what is put into it, is what the document asks. No condition. -/
import Derived.Test.YtdmhpnobdflkfaaBgLive
import Derived.Test.YtdmhpnobdflkfaaBgOpen
import Derived.Test.YtdmhpnobdflkfaaKeyTwo
import Derived.Test.YtdmhpnobdflkfaaRows
namespace Go.Proofs.Ytdmhpnobdflkfaa.bagPuts
open Go.ChangeShapes Go.WideShapes Go.ChangeAt Go.RowKit Go.Proofs.Ytdmhpnobdflkfaa.P
open Go.ChangeMaps (open_string shut_string)
set_option linter.unusedVariables false
set_option linter.unusedSimpArgs false
set_option maxHeartbeats 2000000
set_option maxRecDepth 100000

theorem no_few (w : World) (A0 : Option Addr) (n0 c0 : Nat) (l0 : List Msg) (A1 : Option Addr) (n1 c1 : Nat) (l1 : List Msg) (k0 : Ms w A0 n0 c0 l0) (k1 : Ms w A1 n1 c1 l1) (hf : fewB2 n0 n1 = false) :
    Calls Try.prog 8 #[.slice A0 n0 c0, .slice A1 n1 c1] w fun e w' => e = .returned (.bool true) ∧ Below w.heap.size w w' := by
  have HF := Lib.hid hf; clear hf
  go_enter Try.func8, Try.ntmps8
  go_wp2_with fail
  refine (few_msg A0 A1 n0 c0 n1 c1 _).mono ?_; rintro e w' ⟨rfl, rfl⟩
  rw [HF.out]
  go_wp2_with fail
  refine (live_any _).mono ?_; rintro e w1 ⟨rfl, hb⟩
  have S_1 := Lib.hid hb; clear hb
  have B_2 := Lib.hid (S_1.out)
  clear S_1
  go_wp2
  go_ret
  exact ⟨rfl, B_2.out⟩
theorem fine (w : World) (A0 : Option Addr) (n0 c0 : Nat) (l0 : List Msg) (A1 : Option Addr) (n1 c1 : Nat) (l1 : List Msg) (k0 : Ms w A0 n0 c0 l0) (k1 : Ms w A1 n1 c1 l1) (hf : fewB2 n0 n1 = true) :
    Calls Try.prog 8 #[.slice A0 n0 c0, .slice A1 n1 c1] w fun e w' => e = .returned (.bool true) ∧ Below w.heap.size w w' := by
  obtain ⟨h0, h1⟩ := few_iff.1 hf
  have HF := Lib.hid hf
  have hl0 := k0.len; have hl1 := k1.len
  have HP : Hid ((putL l0 l1).length ≤ 1000) := Lib.hid (by have := putL_len l0 l1; omega)
  clear hf hl0 hl1
  have K0_0 := Lib.hid k0
  have K1_0 := Lib.hid k1
  clear k0 k1
  go_enter Try.func8, Try.ntmps8
  go_wp2_with fail
  refine (few_msg A0 A1 n0 c0 n1 c1 _).mono ?_; rintro e w' ⟨rfl, rfl⟩
  rw [HF.out]
  go_wp2_with fail
  refine (put_any A0 n0 c0 l0 A1 n1 c1 l1 _ K0_0.out K1_0.out (by omega) (by omega)).mono ?_; rintro e w1 ⟨P1, p1, q1, rfl, h, hb⟩
  have S_1 := Lib.hid hb; clear hb
  have K0_2 := Lib.hid (K0_0.out.keep S_1.out)
  have K1_3 := Lib.hid (K1_0.out.keep S_1.out)
  have B_4 := Lib.hid (S_1.out)
  clear K0_0 K1_0
  clear S_1
  have P_5 := Lib.hid (h)
  clear h
  go_wp2_with fail
  refine (put_ref A0 n0 c0 l0 A1 n1 c1 l1 _ K0_2.out K1_3.out (by omega) (by omega)).mono ?_; rintro e w2 ⟨P2, p2, q2, rfl, h, hb⟩
  have S_6 := Lib.hid hb; clear hb
  have K0_7 := Lib.hid (K0_2.out.keep S_6.out)
  have K1_8 := Lib.hid (K1_3.out.keep S_6.out)
  have P_9 := Lib.hid (P_5.out.keep S_6.out)
  have B_10 := Lib.hid (then_ B_4.out S_6.out)
  clear K0_2 K1_3 P_5 B_4
  clear S_6
  have Q_11 := Lib.hid (h)
  clear h
  go_wp2_with fail
  refine (bmay_any A0 n0 c0 l0 _ K0_7.out).mono ?_; rintro e w3 ⟨rfl, hb⟩
  have S_12 := Lib.hid hb; clear hb
  have K0_13 := Lib.hid (K0_7.out.keep S_12.out)
  have K1_14 := Lib.hid (K1_8.out.keep S_12.out)
  have P_15 := Lib.hid (P_9.out.keep S_12.out)
  have Q_16 := Lib.hid (Q_11.out.keep S_12.out)
  have B_17 := Lib.hid (then_ B_10.out S_12.out)
  clear K0_7 K1_8 P_9 Q_11 B_10
  clear S_12
  go_wp2_with fail
  refine (bmay_ref A0 n0 c0 l0 _ K0_13.out).mono ?_; rintro e w4 ⟨rfl, hb⟩
  have S_18 := Lib.hid hb; clear hb
  have K0_19 := Lib.hid (K0_13.out.keep S_18.out)
  have K1_20 := Lib.hid (K1_14.out.keep S_18.out)
  have P_21 := Lib.hid (P_15.out.keep S_18.out)
  have Q_22 := Lib.hid (Q_16.out.keep S_18.out)
  have B_23 := Lib.hid (then_ B_17.out S_18.out)
  clear K0_13 K1_14 P_15 Q_16 B_17
  clear S_18
  generalize bagB l0 = bb at *
  generalize putE l0 l1 = er at *
  go_wp2_with fail
  refine (same_self P1 P2 p1 q1 p2 q2 _ _ P_21.out Q_22.out (by have h1 := P_21.out.len; have h2 := HP.out; omega)).mono ?_; rintro e w5 ⟨rfl, hb⟩
  have S_24 := Lib.hid hb; clear hb
  have K0_25 := Lib.hid (K0_19.out.keep S_24.out)
  have K1_26 := Lib.hid (K1_20.out.keep S_24.out)
  have P_27 := Lib.hid (P_21.out.keep S_24.out)
  have Q_28 := Lib.hid (Q_22.out.keep S_24.out)
  have B_29 := Lib.hid (then_ B_23.out S_24.out)
  clear K0_19 K1_20 P_21 Q_22 B_23
  clear S_24
  go_wp2_with fail
  refine (live_any _).mono ?_; rintro e w6 ⟨rfl, hb⟩
  have S_30 := Lib.hid hb; clear hb
  have K0_31 := Lib.hid (K0_25.out.keep S_30.out)
  have K1_32 := Lib.hid (K1_26.out.keep S_30.out)
  have P_33 := Lib.hid (P_27.out.keep S_30.out)
  have Q_34 := Lib.hid (Q_28.out.keep S_30.out)
  have B_35 := Lib.hid (then_ B_29.out S_30.out)
  clear K0_25 K1_26 P_27 Q_28 B_29
  clear S_30
  go_wp2
  go_ret
  exact ⟨rfl, B_35.out⟩
theorem walk (w : World) (A0 : Option Addr) (n0 c0 : Nat) (l0 : List Msg) (A1 : Option Addr) (n1 c1 : Nat) (l1 : List Msg) (k0 : Ms w A0 n0 c0 l0) (k1 : Ms w A1 n1 c1 l1) :
    Calls Try.prog 8 #[.slice A0 n0 c0, .slice A1 n1 c1] w fun e w' => e = .returned (.bool true) ∧ Below w.heap.size w w' := by
  cases hf : fewB2 n0 n1 with
  | false => exact no_few w A0 n0 c0 l0 A1 n1 c1 l1 k0 k1 hf
  | true => exact fine w A0 n0 c0 l0 A1 n1 c1 l1 k0 k1 hf

theorem own : ownKnob Try.prog.godebug = none := by kernel_rfl
theorem laidOut : laidOutB Try.prog = true := by kernel_rfl

set_option maxRecDepth 100000 in
theorem lifted (os : Os) (started : os.Started) (H : Type) (enc : TypeId × Value → H) :
    ReturnsInHanded {} Try.checked os 8 .any (Rows.bagPutsSpec.pre6 enc Try.prog Try.f8 Rows.bagPutsRow.domain false) (Rows.bagPutsSpec.post enc Try.prog Try.f8 false true false false) := by
  refine returnsInHanded_of_change (C := Try.checked) own started (by kernel_rfl) Try.func8
    (ChangeSpec.witness6 (enc := enc) (C := Try.checked) false ⟨#[], #[.slice none 0 0, .slice none 0 0], []⟩ 8 (by kernel_rfl) (by kernel_rfl) (by kernel_rfl) (by kernel_rfl)) ?_
  intro W base args ds gs before hval0 hW hcnd _
  have hval : ∀ (j : Nat) t v, Try.f8.params[j]? = some t → args[j]? = some v → Value.okWide Try.prog W .any base t v := hval0
  have hW' := hW
  obtain ⟨p, q, hA0, hV, rfl, hfz, hnd⟩ := hW
  have hA : DataW.TrodAll enc Try.prog W 0 (fun _ => true) true Try.f8.params.toList args.toList ds p := hA0
  rw [Try.params8] at hA hval
  obtain ⟨v0, vs0, d0, ds0, p0, q0, hargs, rfl, rfl, h0, r0⟩ := trodAll_cons hA
  obtain ⟨v1, vs1, d1, ds1, p1, q1, rfl, rfl, rfl, h1, r1⟩ := trodAll_cons r0
  obtain ⟨rfl, rfl, rfl⟩ := trodAll_nil r1
  obtain rfl : args = #[v0, v1] := by cases args; simp_all
  obtain ⟨rfl, rfl⟩ := trodVars_none hV
  obtain ⟨A0, n0, c0, l0, rfl, k0⟩ := open_msgs (hval 0 35 v0 rfl rfl) h0
  obtain ⟨A1, n1, c1, l1, rfl, k1⟩ := open_msgs (hval 1 35 v1 rfl rfl) h1
  clear hA0 hval0
  refine (walk W A0 n0 c0 l0 A1 n1 c1 l1 k0 k1).mono fun e W' ⟨he, bel⟩ => ?_
  subst he
  exact ⟨_, rfl, _, _, _, [], _, [], hW', trodAll_mk1 (shut_bool Try.underlying4 _), (trodAll_cons_mk (Below.trod laidOut (by kernel_rfl) (of_decide_eq_true (by kernel_rfl)) h0 bel (fun x hx => hW'.lt x (by simp [hx]))) (trodAll_cons_mk (Below.trod laidOut (by kernel_rfl) (of_decide_eq_true (by kernel_rfl)) h1 bel (fun x hx => hW'.lt x (by simp [hx]))) trodAll_mk0)), rfl, bel.frame _, fun h => by cases h⟩

theorem over : Rows.bagPutsRow.holds Try.pinned (OpenSpec.ofChange Rows.bagPutsSpec) :=
  OpenClaim.holds_of_wide 8 Try.f8 rfl rfl rfl rfl rfl rfl rfl ⟨rfl, rfl, rfl, rfl, rfl⟩ rfl rfl rfl rfl rfl (by kernel_rfl) Try.func8 (by kernel_rfl)
    (of_decide_eq_true (by kernel_rfl)) (by unfold Func.isWrapper; first | (rw [if_pos (by decide +kernel)]; kernel_rfl) | (rw [if_neg (by decide +kernel)]; exact ⟨rfl, rfl⟩))
    (fun os started H enc _ => lifted os started H enc)

theorem proved : Rows.BagPutsSaid := over
#print axioms proved
end Go.Proofs.Ytdmhpnobdflkfaa.bagPuts
