/- For every lease and all ticks of two strict clocks the law DriftFits answers true: as long as one has gone on by less than what is safe, the other one has gone on by less than the lease. No condition. -/
import Derived.Test.YtdmhpnobdflkfaaDrLive
import Derived.Test.YtdmhpnobdflkfaaKeyTwo
import Derived.Test.YtdmhpnobdflkfaaRows
namespace Go.Proofs.Ytdmhpnobdflkfaa.driftFits
open Go.ChangeShapes Go.WideShapes Go.ChangeAt Go.RowKit Go.Proofs.Ytdmhpnobdflkfaa.P
open Go.ChangeMaps (open_string shut_string)
set_option linter.unusedVariables false
set_option linter.unusedSimpArgs false
set_option maxHeartbeats 1000000
set_option maxRecDepth 100000

theorem walk (w : World) (a0 : Int) (A1 : Option Addr) (n1 c1 : Nat) (l1 : List Int) (A2 : Option Addr) (n2 c2 : Nat) (l2 : List Int) (w0 : (Lit.int .i64 a0).wf = true) (k1 : Is w A1 n1 c1 l1 ∧ ∀ z ∈ l1, inI z) (k2 : Is w A2 n2 c2 l2 ∧ ∀ z ∈ l2, inI z) :
    Calls Try.prog 5 #[.int .i64 a0, .slice A1 n1 c1, .slice A2 n2 c2] w fun e w' => e = .returned (.bool true) ∧ Below w.heap.size w w' := by
  have H1 := Lib.hid k1.1
  have H2 := Lib.hid k2.1
  have L1 := k1.1.len
  have L2 := k2.1.len
  clear w0 k1 k2
  by_cases hn : 200 < n1
  · have hn' : (200 : Int) < (n1 : Int) := by omega
    clear L1 L2
    go_enter Try.func5, Try.ntmps5
    go_wp2_with fail
    refine (live_any _).mono ?_; rintro e w1 ⟨rfl, hb⟩
    have HB := Lib.hid hb; clear hb
    go_wp2
    go_ret
    exact ⟨rfl, HB.out⟩
  · have hn' : ¬ (200 : Int) < (n1 : Int) := by omega
    by_cases hm : n1 = n2
    · subst hm
      by_cases h1 : a0 < 1
      · clear L1 L2
        go_enter Try.func5, Try.ntmps5
        go_wp2_with fail
        refine (live_any _).mono ?_; rintro e w1 ⟨rfl, hb⟩
        have HB := Lib.hid hb; clear hb
        go_wp2
        go_ret
        exact ⟨rfl, HB.out⟩
      · by_cases h2 : 1000 < a0
        · clear L1 L2
          go_enter Try.func5, Try.ntmps5
          go_wp2_with fail
          refine (live_any _).mono ?_; rintro e w1 ⟨rfl, hb⟩
          have HB := Lib.hid hb; clear hb
          go_wp2
          go_ret
          exact ⟨rfl, HB.out⟩
        · have HF := fits_at a0 l1 l2 (by omega) (by omega)
          have E1 := run_in (f := 0) (l := l1) (s := true) (by omega) (by omega)
          have E2 := run_in (f := 0) (l := l2) (s := true) (by omega) (by omega)
          have HT : Hid (fitsB a0 = decide (2 ≤ a0)) := Lib.hid (by unfold fitsB; exact decide_eq_decide.2 (by omega))
          have cA := Lib.hid (run_any A1 n1 c1 l1 0 true w H1.out)
          have cB := Lib.hid (fun w2 (h : Below w.heap.size w w2) => run_any A2 n1 c2 l2 0 true w2 (H2.out.below h))
          have cS := Lib.hid (fun w => safe_any a0 w)
          have cF := Lib.hid (fun w2 (h : Below w.heap.size w w2) => fits_any a0 A1 n1 c1 l1 A2 n1 c2 l2 w2 (H1.out.below h) (H2.out.below h) (by omega) (by omega))
          rw [E1] at cA
          rw [E2] at cB
          rw [HT.out] at cF
          clear E1 E2 HT L1 L2
          generalize goP 0 l1 true = x at *
          generalize goP 0 l2 true = y at *
          generalize safeP a0 = sf at *
          have ee : ∀ b : Bool, (b == b) = true := fun b => by simp
          by_cases hx : x < sf
          · have hy := HF hx
            clear HF
            go_enter Try.func5, Try.ntmps5
            go_wp2_with fail
            refine cA.out.mono ?_; rintro e w1 ⟨rfl, hb⟩
            have HB1 := Lib.hid hb; clear hb
            go_wp2_with fail
            refine (cS.out _).mono ?_; rintro e w' ⟨rfl, rfl⟩
            go_wp2_with fail
            refine (cB.out w1 HB1.out).mono ?_; rintro e w2 ⟨rfl, hb⟩
            have HB2 := Lib.hid (then_ HB1.out hb); clear hb
            go_wp2_with fail
            refine (cF.out w2 HB2.out).mono ?_; rintro e w3 ⟨rfl, hb⟩
            have HB3 := Lib.hid (then_ HB2.out hb); clear hb
            go_wp2_with fail
            refine (live_any _).mono ?_; rintro e w4 ⟨rfl, hb⟩
            have HB4 := Lib.hid (then_ HB3.out hb); clear hb
            go_wp2
            go_ret
            exact ⟨rfl, HB4.out⟩
          · clear HF
            go_enter Try.func5, Try.ntmps5
            go_wp2_with fail
            refine cA.out.mono ?_; rintro e w1 ⟨rfl, hb⟩
            have HB1 := Lib.hid hb; clear hb
            go_wp2_with fail
            refine (cS.out _).mono ?_; rintro e w' ⟨rfl, rfl⟩
            go_wp2_with fail
            refine (cF.out w1 HB1.out).mono ?_; rintro e w3 ⟨rfl, hb⟩
            have HB3 := Lib.hid (then_ HB1.out hb); clear hb
            go_wp2_with fail
            refine (live_any _).mono ?_; rintro e w4 ⟨rfl, hb⟩
            have HB4 := Lib.hid (then_ HB3.out hb); clear hb
            go_wp2
            go_ret
            exact ⟨rfl, HB4.out⟩
    · have hm' : ¬ ((n1 : Int) = (n2 : Int)) := by omega
      have hm2 : ((n1 : Int) == (n2 : Int)) = false := by simp; omega
      clear L1 L2
      go_enter Try.func5, Try.ntmps5
      go_wp2_with fail
      refine (live_any _).mono ?_; rintro e w1 ⟨rfl, hb⟩
      have HB := Lib.hid hb; clear hb
      go_wp2
      go_ret
      exact ⟨rfl, HB.out⟩

theorem own : ownKnob Try.prog.godebug = none := by kernel_rfl
theorem laidOut : laidOutB Try.prog = true := by kernel_rfl

set_option maxRecDepth 100000 in
theorem lifted (os : Os) (started : os.Started) (H : Type) (enc : TypeId × Value → H) :
    ReturnsInHanded {} Try.checked os 5 .any (Rows.driftFitsSpec.pre6 enc Try.prog Try.f5 Rows.driftFitsRow.domain false) (Rows.driftFitsSpec.post enc Try.prog Try.f5 false true false false) := by
  refine returnsInHanded_of_change (C := Try.checked) own started (by kernel_rfl) Try.func5
    (ChangeSpec.witness6 (enc := enc) (C := Try.checked) false ⟨#[], #[(.int .i64 0), .slice none 0 0, .slice none 0 0], []⟩ 8 (by kernel_rfl) (by kernel_rfl) (by kernel_rfl) (by kernel_rfl)) ?_
  intro W base args ds gs before hval0 hW hcnd _
  have hval : ∀ (j : Nat) t v, Try.f5.params[j]? = some t → args[j]? = some v → Value.okWide Try.prog W .any base t v := hval0
  have hW' := hW
  obtain ⟨p, q, hA0, hV, rfl, hfz, hnd⟩ := hW
  have hA : DataW.TrodAll enc Try.prog W 0 (fun _ => true) true Try.f5.params.toList args.toList ds p := hA0
  rw [Try.params5] at hA hval
  obtain ⟨v0, vs0, d0, ds0, p0, q0, hargs, rfl, rfl, h0, r0⟩ := trodAll_cons hA
  obtain ⟨v1, vs1, d1, ds1, p1, q1, rfl, rfl, rfl, h1, r1⟩ := trodAll_cons r0
  obtain ⟨v2, vs2, d2, ds2, p2, q2, rfl, rfl, rfl, h2, r2⟩ := trodAll_cons r1
  obtain ⟨rfl, rfl, rfl⟩ := trodAll_nil r2
  obtain rfl : args = #[v0, v1, v2] := by cases args; simp_all
  obtain ⟨rfl, rfl⟩ := trodVars_none hV
  obtain ⟨a0, rfl, rfl, rfl, w0⟩ := open_int Try.underlying3 (hval 0 3 v0 rfl rfl) h0
  obtain ⟨A1, n1, c1, l1, rfl, k1⟩ := open_is (hval 1 22 v1 rfl rfl) h1
  obtain ⟨A2, n2, c2, l2, rfl, k2⟩ := open_is (hval 2 22 v2 rfl rfl) h2
  clear hA0 hval0
  refine (walk W a0 A1 n1 c1 l1 A2 n2 c2 l2 w0 k1 k2).mono fun e W' ⟨he, bel⟩ => ?_
  subst he
  exact ⟨_, rfl, _, _, _, [], _, [], hW', trodAll_mk1 (shut_bool Try.underlying4 _), (trodAll_cons_mk (shut_int Try.underlying3 w0) (trodAll_cons_mk (Below.trod laidOut (by kernel_rfl) (of_decide_eq_true (by kernel_rfl)) h1 bel (fun x hx => hW'.lt x (by simp [hx]))) (trodAll_cons_mk (Below.trod laidOut (by kernel_rfl) (of_decide_eq_true (by kernel_rfl)) h2 bel (fun x hx => hW'.lt x (by simp [hx]))) trodAll_mk0))), rfl, bel.frame _, fun h => by cases h⟩

theorem over : Rows.driftFitsRow.holds Try.pinned (OpenSpec.ofChange Rows.driftFitsSpec) :=
  OpenClaim.holds_of_wide 5 Try.f5 rfl rfl rfl rfl rfl rfl rfl ⟨rfl, rfl, rfl, rfl, rfl⟩ rfl rfl rfl rfl rfl (by kernel_rfl) Try.func5 (by kernel_rfl)
    (of_decide_eq_true (by kernel_rfl)) (by unfold Func.isWrapper; first | (rw [if_pos (by decide +kernel)]; kernel_rfl) | (rw [if_neg (by decide +kernel)]; exact ⟨rfl, rfl⟩))
    (fun os started H enc _ => lifted os started H enc)

theorem proved : Rows.DriftFitsSaid := over
#print axioms proved
end Go.Proofs.Ytdmhpnobdflkfaa.driftFits
