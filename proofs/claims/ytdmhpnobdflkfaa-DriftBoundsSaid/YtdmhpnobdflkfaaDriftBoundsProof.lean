/- For every start, all ticks and every place the law DriftBounds answers true: a strict clock goes on by no less and no more than the span tells; in another order, or in two parts, the same ticks come to the same. No condition. -/
import Derived.Test.YtdmhpnobdflkfaaDrLive
import Derived.Test.YtdmhpnobdflkfaaKeyTwo
import Derived.Test.YtdmhpnobdflkfaaRows
namespace Go.Proofs.Ytdmhpnobdflkfaa.driftBounds
open Go.ChangeShapes Go.WideShapes Go.ChangeAt Go.RowKit Go.Proofs.Ytdmhpnobdflkfaa.P
open Go.ChangeMaps (open_string shut_string)
set_option linter.unusedVariables false
set_option linter.unusedSimpArgs false
set_option maxHeartbeats 1000000
set_option maxRecDepth 100000

theorem walk (w : World) (a0 : Int) (A1 : Option Addr) (n1 c1 : Nat) (l1 : List Int) (a2 : Int) (w0 : (Lit.int .i64 a0).wf = true) (k1 : Is w A1 n1 c1 l1 ∧ ∀ z ∈ l1, inI z) (w2 : (Lit.int .i64 a2).wf = true) :
    Calls Try.prog 7 #[.int .i64 a0, .slice A1 n1 c1, .int .i64 a2] w fun e w' => e = .returned (.bool true) ∧ Below w.heap.size w w' := by
  have H := Lib.hid k1.1
  have HL := Lib.hid k1.1.len
  have hle := k1.1.le
  have hmax := k1.1.max
  unfold maxLen at hmax
  clear w0 w2 k1
  by_cases hn : 200 < n1
  · have hn' : (200 : Int) < (n1 : Int) := by omega
    go_enter Try.func7, Try.ntmps7
    go_wp2_with fail
    refine (live_any _).mono ?_; rintro e w1 ⟨rfl, hb⟩
    have HB := Lib.hid hb; clear hb
    go_wp2
    go_ret
    exact ⟨rfl, HB.out⟩
  · have hn' : ¬ (200 : Int) < (n1 : Int) := by omega
    by_cases h1 : a0 < 0
    · go_enter Try.func7, Try.ntmps7
      go_wp2_with fail
      refine (live_any _).mono ?_; rintro e w1 ⟨rfl, hb⟩
      have HB := Lib.hid hb; clear hb
      go_wp2
      go_ret
      exact ⟨rfl, HB.out⟩
    · by_cases h2 : 549755813888 < a0
      · go_enter Try.func7, Try.ntmps7
        go_wp2_with fail
        refine (live_any _).mono ?_; rintro e w1 ⟨rfl, hb⟩
        have HB := Lib.hid hb; clear hb
        go_wp2
        go_ret
        exact ⟨rfl, HB.out⟩
      · by_cases h3 : a2 < 0
        · go_enter Try.func7, Try.ntmps7
          go_wp2_with fail
          refine (live_any _).mono ?_; rintro e w1 ⟨rfl, hb⟩
          have HB := Lib.hid hb; clear hb
          go_wp2
          go_ret
          exact ⟨rfl, HB.out⟩
        · by_cases h4 : (n1 : Int) < a2
          · go_enter Try.func7, Try.ntmps7
            go_wp2_with fail
            refine (live_any _).mono ?_; rintro e w1 ⟨rfl, hb⟩
            have HB := Lib.hid hb; clear hb
            go_wp2
            go_ret
            exact ⟨rfl, HB.out⟩
          · obtain ⟨k, rfl⟩ : ∃ k : Nat, a2 = (k : Int) := ⟨a2.toNat, by omega⟩
            have hk : k ≤ n1 := by omega
            have hb := go_bounds l1 a0 (by omega) (by rw [HL.out]; omega)
            have hsum := go_sum l1 a0 (by omega) (by rw [HL.out]; omega)
            have hrg := go_range true l1 a0 (by omega) (by omega)
            rw [HL.out] at hb
            have E1 := run_in (f := a0) (l := l1) (s := true) (by omega) (by omega)
            have E2 : runP a0 l1.reverse true = goP a0 l1 true := by rw [run_in (by omega) (by omega), go_turn a0 l1 (by omega) (by rw [HL.out]; omega)]
            have hrg2 := go_range true (l1.take k) a0 (by omega) (by omega)
            have E3 : runP a0 (l1.take k) true = goP a0 (l1.take k) true := run_in (by omega) (by omega)
            have E4 : runP (goP a0 (l1.take k) true) (l1.drop k) true = goP a0 l1 true := by rw [run_in hrg2.1 hrg2.2, ← go_app, List.take_append_drop]
            have cA := Lib.hid (run_any A1 n1 c1 l1 a0 true w H.out)
            have cP := Lib.hid (fun w => span_any (n1 : Int) w)
            rw [E1] at cA
            rw [span_in (by omega) (by omega), span_in (by omega) (by omega)] at cP
            have HE2 := Lib.hid E2; have HE3 := Lib.hid E3; have HE4 := Lib.hid E4
            obtain ⟨hb1, hb2⟩ := hb
            obtain ⟨hg1, hg2⟩ := hrg
            clear E1 E2 E3 E4 hsum hrg2
            generalize goP a0 l1 true = y at *
            go_enter Try.func7, Try.ntmps7
            go_wp2_with fail
            refine (cP.out _).mono ?_; rintro e w' ⟨rfl, rfl⟩
            go_wp2_with fail
            refine cA.out.mono ?_; rintro e w1 ⟨rfl, hb⟩
            have HB1 := Lib.hid hb; clear hb
            have H1 := Lib.hid (H.out.below HB1.out)
            go_wp2
            go_loopw [11, 12] (fun v i wr => ∃ (j r : Nat) (B : Option Addr) (d : Nat), j + r = n1 ∧ v = .slice B j d ∧ i = .int .i64 ((r : Int) - 1) ∧ ownG intC 1 3 wr w.heap.size B j d (l1.reverse.take j) ∧ Below w.heap.size w wr) (fun _ i _ => (intOf i + 1).toNat)
            case atStart => exact ⟨0, n1, none, 0, by omega, rfl, by go_num, ownG_nil _ _ _ _ _, HB1.out⟩
            case round =>
              obtain ⟨j, r, B, d, hjr, rfl, rfl, hown, hbel⟩ := hrel
              have HO := Lib.hid hown; have HB := Lib.hid hbel
              clear hown hbel
              rcases r with _ | r
              · obtain rfl : j = n1 := by omega
                have HI := Lib.hid (H.out.below HB.out)
                have HV : Hid (Is wr B j d l1.reverse) := Lib.hid (by
                  have := ownG_rows intC_len (by omega) HO.out
                  rwa [take_full _ _ (by rw [List.length_reverse]; exact HL.out)] at this)
                have ee : ∀ b : Int, (b == b) = true := fun b => by simp
                have d1 : ((spanP 15 0 : Int) ≤ 0) := by decide
                have wy : IntKind.i64.wrap (y - a0) = y - a0 := IntWalk.i64_in _ (by omega)
                have k0 : (0 : Int) ≤ (k : Int) := by omega
                have k1 : (k : Int) ≤ (j : Int) := by omega
                have k2 : k ≤ c1 := by omega
                have k3 : (k : Int) ≤ (c1 : Int) := by omega
                have k4 : (j : Int) ≤ (c1 : Int) := by omega
                have t1 : decide (15 * (j : Int) ≤ y - a0) = true := decide_eq_true hb1
                have t2 : decide (y - a0 ≤ 17 * (j : Int)) = true := decide_eq_true hb2
                have cR := fun d' os => Calls.regrown_of (d := d') (os := os) (w := wr) (run_any A1 k c1 (l1.take k) a0 true _ ((HI.out.take hk).below (below_regrown _ d' os)))
                rw [HE3.out] at cR
                have cT := fun d' os => Calls.regrown_of (d := d') (os := os) (w := wr) (run_any B j d l1.reverse a0 true _ (HV.out.below (below_regrown _ d' os)))
                rw [HE2.out] at cT
                have cL := fun d' os => Calls.regrown_of (d := d') (os := os) (w := wr) (live_any _)
                rcases A1 with _ | a
                · obtain rfl : c1 = 0 := HI.out.nil rfl
                  obtain rfl : k = 0 := by omega
                  obtain rfl : j = 0 := by omega
                  have cD := fun d' os => Calls.regrown_of (d := d') (os := os) (w := wr) (run_any none 0 0 (l1.drop 0) (goP a0 (l1.take 0) true) true _ (show Is _ none 0 0 (l1.drop 0) by rw [List.drop_zero]; exact HI.out.below (below_regrown _ d' os)))
                  rw [HE4.out] at cD
                  clear HI HV HO
                  generalize goP a0 (l1.take 0) true = x1 at *
                  obtain rfl : y = a0 := by omega
                  clear t1 t2 wy
                  have wy : IntKind.i64.wrap 0 = 0 := rfl
                  go_wp2
                  refine wp_region_quiet_below (by kernel_rfl) (by kernel_rfl) ?_
                  repeat (go_big_quiet_step (first | (with_reducible exact cR _ _) | (with_reducible exact cT _ _) | (with_reducible exact cD _ _) | (with_reducible exact cL _ _)))
                  refine wpQuiet_nil ?_
                  intro _ hw'
                  obtain ⟨⟨d, os⟩, rfl⟩ := hw'
                  go_wp2
                  go_ret
                  exact ⟨rfl, below_grow HB.out HB.out.size _ _⟩
                · have cD := fun d' os => Calls.regrown_of (d := d') (os := os) (w := wr) (run_any _ (j - k) (c1 - k) (l1.drop k) (goP a0 (l1.take k) true) true _ ((HI.out.drop hk).below (below_regrown _ d' os)))
                  rw [HE4.out] at cD
                  rw [Nat.mul_one] at cD
                  clear HI HV HO
                  generalize goP a0 (l1.take k) true = x1 at *
                  go_wp2
                  refine wp_region_quiet_below (by kernel_rfl) (by kernel_rfl) ?_
                  repeat (go_big_quiet_step (first | (with_reducible exact cR _ _) | (with_reducible exact cT _ _) | (with_reducible exact cD _ _) | (with_reducible exact cL _ _)))
                  refine wpQuiet_nil ?_
                  intro _ hw'
                  obtain ⟨⟨d, os⟩, rfl⟩ := hw'
                  go_wp2
                  all_goals go_ret
                  all_goals exact ⟨rfl, below_grow HB.out HB.out.size _ _⟩
              · have hr1 : (((r + 1 : Nat) : Int) - 1) = (r : Int) := by omega
                rw [hr1]
                obtain ⟨a, x, rfl, ha, hx, ca⟩ := Is.at_ (H.out.below HB.out) (show r < n1 by omega)
                have HS : Hid (l1.reverse.take (j + 1) = l1.reverse.take j ++ [x]) := Lib.hid (take_snoc' _ j x (by
                  rw [List.getElem?_reverse (by rw [HL.out]; omega), HL.out, show n1 - 1 - j = r by omega]; exact hx))
                obtain ⟨B', d', w', hrn, hown', hb'⟩ := app_ints w.heap.size B j d _ wr x HO.out (by omega) HB.out.size
                have HO2 := Lib.hid hown'
                have HB2 := Lib.hid (HB.out.trans hb')
                have i0 : (0 : Int) ≤ (r : Int) := by omega
                have i1 : (r : Int) < (n1 : Int) := by omega
                have i2 : r < n1 := by omega
                clear hown' hb' hx
                go_wp2_with (at_builtin; refine wpList_append_eq _ rfl (.tmp 49) (.tmp 54) _ _ rfl _ _ rfl rfl hrn ?_)
                go_roundw
                case rel => exact ⟨j + 1, r, B', d', by omega, rfl, by go_num, by rw [HS.out]; exact HO2.out, HB2.out⟩
                case measure => simp [intOf]

theorem own : ownKnob Try.prog.godebug = none := by kernel_rfl
theorem laidOut : laidOutB Try.prog = true := by kernel_rfl

set_option maxRecDepth 100000 in
theorem lifted (os : Os) (started : os.Started) (H : Type) (enc : TypeId × Value → H) :
    ReturnsInHanded {} Try.checked os 7 .any (Rows.driftBoundsSpec.pre6 enc Try.prog Try.f7 Rows.driftBoundsRow.domain false) (Rows.driftBoundsSpec.post enc Try.prog Try.f7 false true false false) := by
  refine returnsInHanded_of_change (C := Try.checked) own started (by kernel_rfl) Try.func7
    (ChangeSpec.witness6 (enc := enc) (C := Try.checked) false ⟨#[], #[(.int .i64 0), .slice none 0 0, (.int .i64 0)], []⟩ 8 (by kernel_rfl) (by kernel_rfl) (by kernel_rfl) (by kernel_rfl)) ?_
  intro W base args ds gs before hval0 hW hcnd _
  have hval : ∀ (j : Nat) t v, Try.f7.params[j]? = some t → args[j]? = some v → Value.okWide Try.prog W .any base t v := hval0
  have hW' := hW
  obtain ⟨p, q, hA0, hV, rfl, hfz, hnd⟩ := hW
  have hA : DataW.TrodAll enc Try.prog W 0 (fun _ => true) true Try.f7.params.toList args.toList ds p := hA0
  rw [Try.params7] at hA hval
  obtain ⟨v0, vs0, d0, ds0, p0, q0, hargs, rfl, rfl, h0, r0⟩ := trodAll_cons hA
  obtain ⟨v1, vs1, d1, ds1, p1, q1, rfl, rfl, rfl, h1, r1⟩ := trodAll_cons r0
  obtain ⟨v2, vs2, d2, ds2, p2, q2, rfl, rfl, rfl, h2, r2⟩ := trodAll_cons r1
  obtain ⟨rfl, rfl, rfl⟩ := trodAll_nil r2
  obtain rfl : args = #[v0, v1, v2] := by cases args; simp_all
  obtain ⟨rfl, rfl⟩ := trodVars_none hV
  obtain ⟨a0, rfl, rfl, rfl, w0⟩ := open_int Try.underlying3 (hval 0 3 v0 rfl rfl) h0
  obtain ⟨A1, n1, c1, l1, rfl, k1⟩ := open_is (hval 1 22 v1 rfl rfl) h1
  obtain ⟨a2, rfl, rfl, rfl, w2⟩ := open_int Try.underlying3 (hval 2 3 v2 rfl rfl) h2
  clear hA0 hval0
  refine (walk W a0 A1 n1 c1 l1 a2 w0 k1 w2).mono fun e W' ⟨he, bel⟩ => ?_
  subst he
  exact ⟨_, rfl, _, _, _, [], _, [], hW', trodAll_mk1 (shut_bool Try.underlying4 _), (trodAll_cons_mk (shut_int Try.underlying3 w0) (trodAll_cons_mk (Below.trod laidOut (by kernel_rfl) (of_decide_eq_true (by kernel_rfl)) h1 bel (fun x hx => hW'.lt x (by simp [hx]))) (trodAll_cons_mk (shut_int Try.underlying3 w2) trodAll_mk0))), rfl, bel.frame _, fun h => by cases h⟩

theorem over : Rows.driftBoundsRow.holds Try.pinned (OpenSpec.ofChange Rows.driftBoundsSpec) :=
  OpenClaim.holds_of_wide 7 Try.f7 rfl rfl rfl rfl rfl rfl rfl ⟨rfl, rfl, rfl, rfl, rfl⟩ rfl rfl rfl rfl rfl (by kernel_rfl) Try.func7 (by kernel_rfl)
    (of_decide_eq_true (by kernel_rfl)) (by unfold Func.isWrapper; first | (rw [if_pos (by decide +kernel)]; kernel_rfl) | (rw [if_neg (by decide +kernel)]; exact ⟨rfl, rfl⟩))
    (fun os started H enc _ => lifted os started H enc)

theorem proved : Rows.DriftBoundsSaid := over
#print axioms proved
end Go.Proofs.Ytdmhpnobdflkfaa.driftBounds
