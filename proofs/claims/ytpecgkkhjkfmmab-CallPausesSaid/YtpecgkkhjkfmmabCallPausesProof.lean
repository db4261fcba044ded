/- For every number of tries the law CallPauses answers true: each pause is twice the one ahead, till it is 256, and stays so; what is waited altogether is all pauses, one behind the other. No condition. -/
import Derived.Test.YtpecgkkhjkfmmabClLive
import Derived.Test.YtpecgkkhjkfmmabKeyTwo
import Derived.Test.YtpecgkkhjkfmmabRows
namespace Go.Proofs.Ytpecgkkhjkfmmab.callPauses
open Go.ChangeShapes Go.WideShapes Go.ChangeAt Go.RowKit Go.Proofs.Ytpecgkkhjkfmmab.P
open Go.ChangeMaps (open_string shut_string)
set_option linter.unusedVariables false
set_option linter.unusedSimpArgs false
set_option maxHeartbeats 2000000
set_option maxRecDepth 100000

theorem pause_twice (t : Int) (h : 0 < t) : (256 < 2 * pauseP (t - 1) ∧ pauseP t = 256) ∨ (¬ 256 < 2 * pauseP (t - 1) ∧ pauseP t = 2 * pauseP (t - 1)) := by
  by_cases a1 : t < 2
  · obtain rfl : t = 1 := by omega
    exact .inr ⟨by decide, by decide⟩
  · by_cases a2 : t < 3
    · obtain rfl : t = 2 := by omega
      exact .inr ⟨by decide, by decide⟩
    · by_cases a3 : t < 4
      · obtain rfl : t = 3 := by omega
        exact .inr ⟨by decide, by decide⟩
      · by_cases a4 : t < 5
        · obtain rfl : t = 4 := by omega
          exact .inr ⟨by decide, by decide⟩
        · have e1 : pauseP t = 256 := by unfold pauseP; rw [if_neg (by omega), if_neg (by omega), if_neg (by omega), if_neg (by omega)]
          have e2 : pauseP (t - 1) = 256 := by unfold pauseP; rw [if_neg (by omega), if_neg (by omega), if_neg (by omega), if_neg (by omega)]
          rw [e1, e2]; exact .inl ⟨by decide, rfl⟩
theorem walk (w : World) (a0 : Int) (w0 : (Lit.int .i64 a0).wf = true) : Calls Try.prog 7 #[.int .i64 a0] w fun e w' => e = .returned (.bool true) ∧ Below w.heap.size w w' := by
  clear w0
  by_cases h0 : a0 < 0
  · go_enter Try.func7, Try.ntmps7
    go_wp2_with fail
    refine (live_any _).mono ?_; rintro e w1 ⟨rfl, hb⟩
    have HB := Lib.hid hb; clear hb
    go_wp2
    go_ret
    exact ⟨rfl, HB.out⟩
  · by_cases h1 : 100 < a0
    · go_enter Try.func7, Try.ntmps7
      go_wp2_with fail
      refine (live_any _).mono ?_; rintro e w1 ⟨rfl, hb⟩
      have HB := Lib.hid hb; clear hb
      go_wp2
      go_ret
      exact ⟨rfl, HB.out⟩
    · go_enter Try.func7, Try.ntmps7
      go_wp2
      go_loop [3, 4] (fun v i => ∃ k : Nat, (k : Int) ≤ a0 ∧ v = .int .i64 (waitP k) ∧ i = .int .i64 k) (fun _ i => 101 - (intOf i).toNat)
      case atStart => exact ⟨0, by omega, by rw [wait_neg (by omega)], rfl⟩
      case round =>
        obtain ⟨k, hk, rfl, rfl⟩ := hrel
        by_cases hlt : (k : Int) < a0
        · have HN : Hid (waitP ((k + 1 : Nat) : Int) = waitP k + pauseP k) := Lib.hid (by rw [show ((k + 1 : Nat) : Int) = (k : Int) + 1 by omega]; exact wait_next (by omega) (by omega))
          have r1 := wait_range k; have r2 := pause_range k
          have CP := Lib.hid (fun w => pause_any (k : Int) w)
          have CW := Lib.hid (fun w => wait_any (k : Int) w)
          by_cases hz : k = 0
          · subst hz
            have hp : pauseP ((0 : Nat) : Int) = 16 := by decide
            rw [hp] at CP HN r2
            clear hp
            generalize waitP ((0 : Nat) : Int) = q at *
            have nz : (q != q) = false := by simp
            go_wp2_with fail
            refine (CP.out _).mono ?_; rintro e w' ⟨rfl, rfl⟩
            go_wp2_with fail
            refine (CW.out _).mono ?_; rintro e w' ⟨rfl, rfl⟩
            go_wp2
            go_round
            case rel => exact ⟨0 + 1, by omega, by rw [HN.out], by go_num⟩
            case measure => simp [intOf]
          · have hpos : (0 : Int) < (k : Int) := by omega
            have ht := pause_twice (k : Int) hpos
            have r3 := pause_range ((k : Int) - 1)
            have CQ := Lib.hid (fun w => pause_any ((k : Int) - 1) w)
            have nk : ((k : Int) == 0) = false := by simp; omega
            generalize pauseP ((k : Int) - 1) = u at *
            generalize pauseP (k : Int) = p at *
            generalize waitP (k : Int) = q at *
            have nz : (q != q) = false := by simp
            rcases ht with ⟨hb, rfl⟩ | ⟨hb, rfl⟩
            · go_wp2_with fail
              refine (CP.out _).mono ?_; rintro e w' ⟨rfl, rfl⟩
              go_wp2_with fail
              refine (CW.out _).mono ?_; rintro e w' ⟨rfl, rfl⟩
              go_wp2_with fail
              refine (CQ.out _).mono ?_; rintro e w' ⟨rfl, rfl⟩
              go_wp2
              go_round
              case rel => exact ⟨k + 1, by omega, by rw [HN.out], by go_num⟩
              case measure => simp [intOf]; omega
            · have ny : (2 * u != 2 * u) = false := by simp
              go_wp2_with fail
              refine (CP.out _).mono ?_; rintro e w' ⟨rfl, rfl⟩
              go_wp2_with fail
              refine (CW.out _).mono ?_; rintro e w' ⟨rfl, rfl⟩
              go_wp2_with fail
              refine (CQ.out _).mono ?_; rintro e w' ⟨rfl, rfl⟩
              go_wp2
              go_round
              case rel => exact ⟨k + 1, by omega, by rw [HN.out], by go_num⟩
              case measure => simp [intOf]; omega
        · obtain rfl : a0 = (k : Int) := by omega
          have CW := Lib.hid (fun w => wait_any (k : Int) w)
          generalize waitP (k : Int) = q at *
          have nz : (q == q) = true := by simp
          go_wp2_with fail
          refine (CW.out _).mono ?_; rintro e w' ⟨rfl, rfl⟩
          go_wp2_with fail
          refine (live_any _).mono ?_; rintro e w1 ⟨rfl, hb⟩
          have HB := Lib.hid hb; clear hb
          go_wp2
          go_ret
          exact ⟨rfl, HB.out⟩

theorem own : ownKnob Try.prog.godebug = none := by kernel_rfl
theorem laidOut : laidOutB Try.prog = true := by kernel_rfl

set_option maxRecDepth 100000 in
theorem lifted (os : Os) (started : os.Started) (H : Type) (enc : TypeId × Value → H) :
    ReturnsInHanded {} Try.checked os 7 .any (Rows.callPausesSpec.pre6 enc Try.prog Try.f7 Rows.callPausesRow.domain false) (Rows.callPausesSpec.post enc Try.prog Try.f7 false true false false) := by
  refine returnsInHanded_of_change (C := Try.checked) own started (by kernel_rfl) Try.func7
    (ChangeSpec.witness6 (enc := enc) (C := Try.checked) false ⟨#[], #[(.int .i64 0)], []⟩ 8 (by kernel_rfl) (by kernel_rfl) (by kernel_rfl) (by kernel_rfl)) ?_
  intro W base args ds gs before hval0 hW hcnd _
  have hval : ∀ (j : Nat) t v, Try.f7.params[j]? = some t → args[j]? = some v → Value.okWide Try.prog W .any base t v := hval0
  have hW' := hW
  obtain ⟨p, q, hA0, hV, rfl, hfz, hnd⟩ := hW
  have hA : DataW.TrodAll enc Try.prog W 0 (fun _ => true) true Try.f7.params.toList args.toList ds p := hA0
  rw [Try.params7] at hA hval
  obtain ⟨v0, vs0, d0, ds0, p0, q0, hargs, rfl, rfl, h0, r0⟩ := trodAll_cons hA
  obtain ⟨rfl, rfl, rfl⟩ := trodAll_nil r0
  obtain rfl : args = #[v0] := by cases args; simp_all
  obtain ⟨rfl, rfl⟩ := trodVars_none hV
  obtain ⟨a0, rfl, rfl, rfl, w0⟩ := open_int Try.underlying3 (hval 0 3 v0 rfl rfl) h0
  clear hA0 hval0
  refine (walk W a0 w0).mono fun e W' ⟨he, bel⟩ => ?_
  subst he
  exact ⟨_, rfl, _, _, _, [], _, [], hW', trodAll_mk1 (shut_bool Try.underlying4 _), (trodAll_cons_mk (shut_int Try.underlying3 w0) trodAll_mk0), rfl, bel.frame _, fun h => by cases h⟩

theorem over : Rows.callPausesRow.holds Try.pinned (OpenSpec.ofChange Rows.callPausesSpec) :=
  OpenClaim.holds_of_wide 7 Try.f7 rfl rfl rfl rfl rfl rfl rfl ⟨rfl, rfl, rfl, rfl, rfl⟩ rfl rfl rfl rfl rfl (by kernel_rfl) Try.func7 (by kernel_rfl)
    (of_decide_eq_true (by kernel_rfl)) (by unfold Func.isWrapper; first | (rw [if_pos (by decide +kernel)]; kernel_rfl) | (rw [if_neg (by decide +kernel)]; exact ⟨rfl, rfl⟩))
    (fun os started H enc _ => lifted os started H enc)

theorem proved : Rows.CallPausesSaid := over
#print axioms proved
end Go.Proofs.Ytpecgkkhjkfmmab.callPauses
