/- For every two numbers n and u the law ShiftTurns answers true: a number with a sign is there again, by each way. No condition. -/
import Derived.Test.YtjnmlbenhkhcbaaRows
import Derived.Test.YtjnmlbenhkhcbaaShiftMath
import Derived.Test.YtjnmlbenhkhcbaaShiftLive
import Derived.Deep.RegionHeld3
import Derived.ProofKit
import Derived.OpenShut
import Derived.ShutString
namespace Go.Proofs.Ytjnmlbenhkhcbaa.shiftTurns
open Go.ChangeShapes Go.WideShapes Go.ChangeAt Go.RowKit Go.Proofs.Ytjnmlbenhkhcbaa.P
open Go.ChangeMaps (open_string shut_string)
set_option linter.unusedVariables false
set_option maxHeartbeats 1000000

theorem narrow_turn (u : Int) (w : World) (h0 : 0 ≤ u) (h1 : u ≤ 18446744073709551615) :
    Calls Try.prog 10 #[.string ⟨(wideL u.toNat 8).toArray⟩] w fun e w' => e = .returned (.tuple #[.int .u64 u, .bool true]) ∧ Below w.heap.size w w' := by
  have hs : (⟨(wideL u.toNat 8).toArray⟩ : ByteArray).size = 8 := by
    show (wideL u.toNat 8).toArray.size = 8
    rw [List.size_toArray, wideL_length]
  refine (narrow_any _ w (by omega)).mono fun e w' h => ⟨h.1.trans ?_, h.2⟩
  have e : narrowN (⟨(wideL u.toNat 8).toArray⟩ : ByteArray).data.toList = u.toNat := by
    show narrowN (wideL u.toNat 8).toArray.toList = u.toNat
    rw [List.toList_toArray, narrow_wide]
    exact Nat.mod_eq_of_lt (by show u.toNat < 18446744073709551616; omega)
  rw [e, show ((u.toNat : Nat) : Int) = u by omega]
theorem zag_turn (n : Int) (w : World) (h0 : -9223372036854775808 ≤ n) (h1 : n ≤ 9223372036854775807) :
    Calls Try.prog 16 #[.int .u64 (zigP n)] w fun e w' => e = .returned (.int .i64 n) ∧ w = w' := by
  have := zig_range n h0 h1
  exact (zag_any _ w this.1 this.2).mono fun e w' h => ⟨h.1.trans (by rw [zag_zig]), h.2⟩
theorem zig_turn (u : Int) (w : World) (h0 : 0 ≤ u) (h1 : u ≤ 18446744073709551615) :
    Calls Try.prog 14 #[.int .i64 (zagP u)] w fun e w' => e = .returned (.int .u64 u) ∧ w = w' := by
  have := zag_range u h0 h1
  exact (zig_any _ w this.1 this.2).mono fun e w' h => ⟨h.1.trans (by rw [zig_zag u h0]), h.2⟩
theorem sign_all (n : Int) (h0 : -9223372036854775808 ≤ n) (h1 : n ≤ 9223372036854775807) : signP (IntKind.u64.wrap n) 64 = n := by
  rw [u64wrap]
  unfold signP
  simp
  split <;> omega
theorem sign_half (n : Int) : signP (IntKind.u64.wrap n) 32 = wrap32 n := by
  rw [u64wrap]
  unfold signP wrap32
  simp
  split <;> omega
theorem wrap32_range (n : Int) : -2147483648 ≤ wrap32 n ∧ wrap32 n ≤ 2147483647 := by unfold wrap32; omega
theorem wrap_range (n : Int) : 0 ≤ IntKind.u64.wrap n ∧ IntKind.u64.wrap n ≤ 18446744073709551615 := by
  rw [u64wrap]; omega
theorem sign_turn (n : Int) (w : World) (h0 : -9223372036854775808 ≤ n) (h1 : n ≤ 9223372036854775807) :
    Calls Try.prog 20 #[.int .u64 (IntKind.u64.wrap n), .int .i64 64] w fun e w' => e = .returned (.int .i64 n) ∧ w = w' := by
  have := wrap_range n
  exact (sign_any _ 64 w this.1 this.2 (by decide) (by decide)).mono fun e w' h => ⟨h.1.trans (by rw [sign_all n h0 h1]), h.2⟩
theorem sign_turn32 (n : Int) (w : World) :
    Calls Try.prog 20 #[.int .u64 (IntKind.u64.wrap n), .int .i64 32] w fun e w' => e = .returned (.int .i64 (wrap32 n)) ∧ w = w' := by
  have := wrap_range n
  exact (sign_any _ 32 w this.1 this.2 (by decide) (by decide)).mono fun e w' h => ⟨h.1.trans (by rw [sign_half n]), h.2⟩
theorem low_low (u : Int) : lowP (lowP u 40) 12 = lowP u 12 := by
  rw [low_mid _ 12 (by omega) (by omega), low_mid u 12 (by omega) (by omega), low_mid u 40 (by omega) (by omega)]
  simp
theorem low_turn (u : Int) (w : World) (h0 : 0 ≤ u) (h1 : u ≤ 18446744073709551615) :
    Calls Try.prog 18 #[.int .u64 (lowP u 40), .int .i64 12] w fun e w' => e = .returned (.int .u64 (lowP u 12)) ∧ w = w' := by
  have := low_range u 40 h0 h1
  exact (low_any _ 12 w (by omega) (by omega) (by decide) (by decide)).mono fun e w' h => ⟨h.1.trans (by rw [low_low]), h.2⟩

theorem walk (a0 : Int) (a1 : Int) (w0 : (Lit.int .i64 a0).wf = true) (w1 : (Lit.int .u64 a1).wf = true) (w : World) :
    Calls Try.prog 7 #[.int .i64 a0, .int .u64 a1] w fun e w' => e = .returned (.bool true) ∧ Below w.heap.size w w' := by
  obtain ⟨b0, c0⟩ := bounds_i64 w0
  obtain ⟨b1, c1⟩ := bounds_u64 w1
  clear w0 w1
  have hw := wrap32_range a0
  go_enter Try.func7, Try.ntmps7
  go_wp2_with fail
  refine (wide_any _ _ _ (by omega) (by omega) (by decide) (by decide)).mono ?_; rintro e w1 ⟨rfl, hb1⟩; have HB1 := Lib.hid hb1; clear hb1
  go_wp2_with fail
  refine (narrow_turn _ _ (by omega) (by omega)).mono ?_; rintro e w2 ⟨rfl, hb2⟩; have HB2 := Lib.hid hb2; clear hb2
  go_wp2_with fail
  refine (zig_any _ _ (by omega) (by omega)).mono ?_; rintro e w' ⟨rfl, rfl⟩
  go_wp2_with fail
  refine (zag_turn _ _ (by omega) (by omega)).mono ?_; rintro e w' ⟨rfl, rfl⟩
  go_wp2_with fail
  refine (zag_any _ _ (by omega) (by omega)).mono ?_; rintro e w' ⟨rfl, rfl⟩
  go_wp2_with fail
  refine (zig_turn _ _ (by omega) (by omega)).mono ?_; rintro e w' ⟨rfl, rfl⟩
  go_wp2_with fail
  refine (sign_turn _ _ (by omega) (by omega)).mono ?_; rintro e w' ⟨rfl, rfl⟩
  go_wp2_with fail
  refine (low_any _ 40 _ (by omega) (by omega) (by decide) (by decide)).mono ?_; rintro e w' ⟨rfl, rfl⟩
  go_wp2_with fail
  refine (low_turn _ _ (by omega) (by omega)).mono ?_; rintro e w' ⟨rfl, rfl⟩
  go_wp2_with fail
  refine (low_any _ 12 _ (by omega) (by omega) (by decide) (by decide)).mono ?_; rintro e w' ⟨rfl, rfl⟩
  go_wp2_with fail
  refine (sign_turn32 _ _).mono ?_; rintro e w' ⟨rfl, rfl⟩
  go_wp2_with fail
  refine (live_any _).mono ?_; rintro e w3 ⟨rfl, hb3⟩; have HB3 := Lib.hid hb3; clear hb3
  go_wp2
  go_ret
  exact ⟨rfl, below_then (below_then (HB1.out) HB2.out) HB3.out⟩

theorem own : ownKnob Try.prog.godebug = none := by kernel_rfl

set_option maxRecDepth 100000 in
theorem lifted (os : Os) (started : os.Started) (H : Type) (enc : TypeId × Value → H) :
    ReturnsInHanded {} Try.checked os 7 .any (Rows.shiftTurnsSpec.pre6 enc Try.prog Try.f7 Rows.shiftTurnsRow.domain false) (Rows.shiftTurnsSpec.post enc Try.prog Try.f7 false true false false) := by
  refine returnsInHanded_of_change (C := Try.checked) own started (by kernel_rfl) Try.func7
    (ChangeSpec.witness6 (enc := enc) (C := Try.checked) false ⟨#[], #[.int .i64 0, .int .u64 0], []⟩ 8 (by kernel_rfl) (by kernel_rfl) (by kernel_rfl) (by kernel_rfl)) ?_
  intro W base args ds gs before hval0 hW hcnd _
  have hval : ∀ (j : Nat) t v, Try.f7.params[j]? = some t → args[j]? = some v → Value.okWide Try.prog W .any base t v := hval0
  have hW' := hW
  obtain ⟨p, q, hA0, hV, rfl, hfz, hnd⟩ := hW
  have hA : DataW.TrodAll enc Try.prog W 0 (fun _ => true) true Try.f7.params.toList args.toList ds p := hA0
  rw [Try.params7] at hA hval
  obtain ⟨v0, vs0, d0, ds0, p0, q0, hargs, rfl, rfl, h0, r0⟩ := trodAll_cons hA
  obtain ⟨v1, vs1, d1, ds1, p1, q1, rfl, rfl, rfl, h1, r1⟩ := trodAll_cons r0
  obtain ⟨rfl, rfl, rfl⟩ := trodAll_nil r1
  obtain rfl : args = #[v0, v1] := by cases args; simp_all
  obtain ⟨rfl, rfl⟩ := trodVars_none hV
  obtain ⟨a0, rfl, rfl, rfl, w0⟩ := open_int Try.underlying2 (hval 0 2 v0 rfl rfl) h0
  obtain ⟨a1, rfl, rfl, rfl, w1⟩ := open_int Try.underlying22 (hval 1 22 v1 rfl rfl) h1
  clear hA0 hval0
  refine (walk a0 a1 w0 w1 W).mono fun e W' ⟨he, bel⟩ => ?_
  subst he
  exact ⟨_, rfl, _, _, _, [], _, [], hW', trodAll_mk1 (shut_bool Try.underlying4 _), (trodAll_cons_mk (shut_int Try.underlying2 w0) (trodAll_cons_mk (shut_int Try.underlying22 w1) trodAll_mk0)), rfl, bel.frame _, fun h => by cases h⟩

theorem over : Rows.shiftTurnsRow.holds Try.pinned (OpenSpec.ofChange Rows.shiftTurnsSpec) :=
  OpenClaim.holds_of_wide 7 Try.f7 rfl rfl rfl rfl rfl rfl rfl ⟨rfl, rfl, rfl, rfl, rfl⟩ rfl rfl rfl rfl rfl (by kernel_rfl) Try.func7 (by kernel_rfl)
    (of_decide_eq_true (by kernel_rfl)) (by unfold Func.isWrapper; first | (rw [if_pos (by decide +kernel)]; kernel_rfl) | (rw [if_neg (by decide +kernel)]; exact ⟨rfl, rfl⟩))
    (fun os started H enc _ => lifted os started H enc)

theorem proved : Rows.ShiftTurnsSaid := over
#print axioms proved
end Go.Proofs.Ytjnmlbenhkhcbaa.shiftTurns
