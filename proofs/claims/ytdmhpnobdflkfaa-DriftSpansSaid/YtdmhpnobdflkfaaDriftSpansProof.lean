/- For every lease, every number of ticks and all ticks of two clocks the law DriftSpans answers true: how long a lease is safe, how far a strict clock goes, and whether two fit is what the document asks. No condition. -/
import Derived.Test.YtdmhpnobdflkfaaDrLive
import Derived.Test.YtdmhpnobdflkfaaKeyTwo
import Derived.Test.YtdmhpnobdflkfaaRows
namespace Go.Proofs.Ytdmhpnobdflkfaa.driftSpans
open Go.ChangeShapes Go.WideShapes Go.ChangeAt Go.RowKit Go.Proofs.Ytdmhpnobdflkfaa.P
open Go.ChangeMaps (open_string shut_string)
set_option linter.unusedVariables false
set_option linter.unusedSimpArgs false
set_option maxHeartbeats 1000000
set_option maxRecDepth 100000

theorem walk (w : World) (a0 b0 : Int) (A1 : Option Addr) (n1 c1 : Nat) (l1 : List Int) (A2 : Option Addr) (n2 c2 : Nat) (l2 : List Int) (w0 : (Lit.int .i64 a0).wf = true) (u0 : (Lit.int .i64 b0).wf = true) (k1 : Is w A1 n1 c1 l1 ∧ ∀ z ∈ l1, inI z) (k2 : Is w A2 n2 c2 l2 ∧ ∀ z ∈ l2, inI z) :
    Calls Try.prog 4 #[.agg #[.int .i64 a0, .int .i64 b0], .slice A1 n1 c1, .slice A2 n2 c2] w fun e w' => e = .returned (.bool true) ∧ Below w.heap.size w w' := by
  have H1 := Lib.hid (k1.1.below (new1 w (.cells #[.int .i64 a0, .int .i64 b0] 27)))
  have H2 := Lib.hid (k2.1.below (new1 w (.cells #[.int .i64 a0, .int .i64 b0] 27)))
  have BN := Lib.hid (new1 w (.cells #[.int .i64 a0, .int .i64 b0] 27))
  have X := Lib.hid (own_new w #[.int .i64 a0, .int .i64 b0] 27)
  have q0 := X.out.cell 0 _ rfl
  have q1 := X.out.cell 1 _ rfl
  clear w0 u0 k1 k2
  by_cases hn : 200 < n1
  · have hn' : (200 : Int) < (n1 : Int) := by omega
    go_enter Try.func4, Try.ntmps4
    go_wp2_with fail
    refine (live_any _).mono ?_; rintro e w1 ⟨rfl, hb⟩
    have HB := Lib.hid (then_ BN.out hb); clear hb
    go_wp2
    go_ret
    exact ⟨rfl, HB.out⟩
  · have hn' : ¬ (200 : Int) < (n1 : Int) := by omega
    by_cases hm : 200 < n2
    · have hm' : (200 : Int) < (n2 : Int) := by omega
      go_enter Try.func4, Try.ntmps4
      go_wp2_with fail
      refine (live_any _).mono ?_; rintro e w1 ⟨rfl, hb⟩
      have HB := Lib.hid (then_ BN.out hb); clear hb
      go_wp2
      go_ret
      exact ⟨rfl, HB.out⟩
    · have hm' : ¬ (200 : Int) < (n2 : Int) := by omega
      have e1 : (safeP a0 == safeP a0) = true := by simp
      have e2 : (spanP 15 b0 == spanP 15 b0) = true := by simp
      have e3 : (spanP 17 b0 == spanP 17 b0) = true := by simp
      have e4 : (fitsB a0 == fitsB a0) = true := by simp
      have r0 := fun d os => cell_regrown q0 d os
      have r1 := fun d os => cell_regrown q1 d os
      have cS := fun d os => Calls.regrown_of (d := d) (os := os) (w := w.alloc (.cells #[.int .i64 a0, .int .i64 b0] 27)) ((safe_any a0 _).mono fun e w' h => ⟨h.1, h.2 ▸ Below.refl _ _⟩)
      have cR := fun d os => Calls.regrown_of (d := d) (os := os) (w := w.alloc (.cells #[.int .i64 a0, .int .i64 b0] 27)) ((safe_ref a0 _).mono fun e w' h => ⟨h.1, h.2 ▸ Below.refl _ _⟩)
      have cF := fun d os => Calls.regrown_of (d := d) (os := os) (w := w.alloc (.cells #[.int .i64 a0, .int .i64 b0] 27)) (fits_any a0 A1 n1 c1 l1 A2 n2 c2 l2 _ (H1.out.below (below_regrown _ d os)) (H2.out.below (below_regrown _ d os)) (by omega) (by omega))
      have cG := fun d os => Calls.regrown_of (d := d) (os := os) (w := w.alloc (.cells #[.int .i64 a0, .int .i64 b0] 27)) ((fits_ref a0 A1 n1 c1 l1 A2 n2 c2 l2 _ (H1.out.below (below_regrown _ d os)) (H2.out.below (below_regrown _ d os)) (by omega) (by omega)).mono fun e w' h => ⟨h.1, h.2 ▸ Below.refl _ _⟩)
      have cL := fun d os => Calls.regrown_of (d := d) (os := os) (w := w.alloc (.cells #[.int .i64 a0, .int .i64 b0] 27)) (live_any _)
      go_enter Try.func4, Try.ntmps4
      go_wp2_with fail
      refine (span_any _ _).mono ?_; rintro e w' ⟨rfl, rfl⟩
      go_wp2_with fail
      refine (span_ref _ _).mono ?_; rintro e w' ⟨rfl, rfl⟩
      go_wp2
      refine wp_region_quiet_below (by kernel_rfl) (by kernel_rfl) ?_
      repeat (go_big_quiet_step (first | (with_reducible exact cS _ _) | (with_reducible exact cR _ _) | (with_reducible exact cF _ _) | (with_reducible exact cG _ _) | (with_reducible exact cL _ _)))
      refine wpQuiet_nil ?_
      intro _ hw'
      obtain ⟨⟨d, os⟩, rfl⟩ := hw'
      go_wp2
      go_ret
      exact ⟨rfl, below_grow BN.out BN.out.size _ _⟩

theorem own : ownKnob Try.prog.godebug = none := by kernel_rfl
theorem laidOut : laidOutB Try.prog = true := by kernel_rfl

set_option maxRecDepth 100000 in
theorem lifted (os : Os) (started : os.Started) (H : Type) (enc : TypeId × Value → H) :
    ReturnsInHanded {} Try.checked os 4 .any (Rows.driftSpansSpec.pre6 enc Try.prog Try.f4 Rows.driftSpansRow.domain false) (Rows.driftSpansSpec.post enc Try.prog Try.f4 false true false false) := by
  refine returnsInHanded_of_change (C := Try.checked) own started (by kernel_rfl) Try.func4
    (ChangeSpec.witness6 (enc := enc) (C := Try.checked) false ⟨#[], #[.agg #[.int .i64 0, .int .i64 0], .slice none 0 0, .slice none 0 0], []⟩ 8 (by kernel_rfl) (by kernel_rfl) (by kernel_rfl) (by kernel_rfl)) ?_
  intro W base args ds gs before hval0 hW hcnd _
  have hval : ∀ (j : Nat) t v, Try.f4.params[j]? = some t → args[j]? = some v → Value.okWide Try.prog W .any base t v := hval0
  have hW' := hW
  obtain ⟨p, q, hA0, hV, rfl, hfz, hnd⟩ := hW
  have hA : DataW.TrodAll enc Try.prog W 0 (fun _ => true) true Try.f4.params.toList args.toList ds p := hA0
  rw [Try.params4] at hA hval
  obtain ⟨v0, vs0, d0, ds0, p0, q0, hargs, rfl, rfl, h0, r0⟩ := trodAll_cons hA
  obtain ⟨v1, vs1, d1, ds1, p1, q1, rfl, rfl, rfl, h1, r1⟩ := trodAll_cons r0
  obtain ⟨v2, vs2, d2, ds2, p2, q2, rfl, rfl, rfl, h2, r2⟩ := trodAll_cons r1
  obtain ⟨rfl, rfl, rfl⟩ := trodAll_nil r2
  obtain rfl : args = #[v0, v1, v2] := by cases args; simp_all
  obtain ⟨rfl, rfl⟩ := trodVars_none hV
  obtain ⟨a0, b0, rfl, rfl, rfl, w0, u0⟩ := open_two_int Try.underlying27 Try.underlying3 (by kernel_rfl) (by kernel_rfl) (hval 0 27 v0 rfl rfl) h0
  obtain ⟨A1, n1, c1, l1, rfl, k1⟩ := open_is (hval 1 22 v1 rfl rfl) h1
  obtain ⟨A2, n2, c2, l2, rfl, k2⟩ := open_is (hval 2 22 v2 rfl rfl) h2
  clear hA0 hval0
  refine (walk W a0 b0 A1 n1 c1 l1 A2 n2 c2 l2 w0 u0 k1 k2).mono fun e W' ⟨he, bel⟩ => ?_
  subst he
  exact ⟨_, rfl, _, _, _, [], _, [], hW', trodAll_mk1 (shut_bool Try.underlying4 _), (trodAll_cons_mk (shut_two_int Try.underlying27 Try.underlying3 (by kernel_rfl) (by kernel_rfl) w0 u0) (trodAll_cons_mk (Below.trod laidOut (by kernel_rfl) (of_decide_eq_true (by kernel_rfl)) h1 bel (fun x hx => hW'.lt x (by simp [hx]))) (trodAll_cons_mk (Below.trod laidOut (by kernel_rfl) (of_decide_eq_true (by kernel_rfl)) h2 bel (fun x hx => hW'.lt x (by simp [hx]))) trodAll_mk0))), rfl, bel.frame _, fun h => by cases h⟩

theorem over : Rows.driftSpansRow.holds Try.pinned (OpenSpec.ofChange Rows.driftSpansSpec) :=
  OpenClaim.holds_of_wide 4 Try.f4 rfl rfl rfl rfl rfl rfl rfl ⟨rfl, rfl, rfl, rfl, rfl⟩ rfl rfl rfl rfl rfl (by kernel_rfl) Try.func4 (by kernel_rfl)
    (of_decide_eq_true (by kernel_rfl)) (by unfold Func.isWrapper; first | (rw [if_pos (by decide +kernel)]; kernel_rfl) | (rw [if_neg (by decide +kernel)]; exact ⟨rfl, rfl⟩))
    (fun os started H enc _ => lifted os started H enc)

theorem proved : Rows.DriftSpansSaid := over
#print axioms proved
end Go.Proofs.Ytdmhpnobdflkfaa.driftSpans
