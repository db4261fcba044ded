/- For every two numbers a, b and every width the law ShiftOrder answers true: numbers as eight bytes stand in their order; the greater one has no fewer bytes in sevens of bits; cut to fewer bytes a number is what its lowest bits are. No condition. -/
import Derived.Test.YtjnmlbenhkhcbabRows
import Derived.Test.YtjnmlbenhkhcbabShiftMath
import Derived.Test.YtjnmlbenhkhcbabShiftLive
import Derived.ProofKit
import Derived.OpenShut
import Derived.ShutString
namespace Go.Proofs.Ytjnmlbenhkhcbab.shiftOrder
open Go.ChangeShapes Go.WideShapes Go.ChangeAt Go.RowKit Go.Proofs.Ytjnmlbenhkhcbab.P
open Go.ChangeMaps (open_string shut_string)
set_option linter.unusedVariables false
set_option maxHeartbeats 1000000

theorem byte_lt (x y : Nat) : (UInt8.ofNat x < UInt8.ofNat y) ↔ x % 256 < y % 256 := by
  rw [UInt8.lt_iff_toNat_lt]; simp
theorem byte_eq (x y : Nat) : (UInt8.ofNat x = UInt8.ofNat y) ↔ x % 256 = y % 256 := by
  rw [← UInt8.toNat_inj]; simp
theorem split_mod (a k : Nat) : a % 256 ^ (k + 1) = 256 ^ k * (a / 256 ^ k % 256) + a % 256 ^ k := by
  rw [Nat.pow_succ, Nat.mod_mul]; omega
theorem wide_less (a b k : Nat) : Op.bytesLess (wideL a k) (wideL b k) = decide (a % 256 ^ k < b % 256 ^ k) := by
  induction k with
  | zero => simp [wideL, Op.bytesLess, Nat.mod_one]
  | succ k ih =>
    simp only [wideL, Op.bytesLess]
    rw [ih, split_mod a k, split_mod b k]
    have hp : 0 < 256 ^ k := Nat.pow_pos (by decide)
    have ha := Nat.mod_lt a hp
    have hb := Nat.mod_lt b hp
    have e1 := byte_lt (a / 256 ^ k) (b / 256 ^ k)
    have e2 := byte_eq (a / 256 ^ k) (b / 256 ^ k)
    generalize UInt8.ofNat (a / 256 ^ k) = u at *
    generalize UInt8.ofNat (b / 256 ^ k) = v at *
    generalize a / 256 ^ k % 256 = x at *
    generalize b / 256 ^ k % 256 = y at *
    generalize a % 256 ^ k = m at *
    generalize b % 256 ^ k = n at *
    generalize 256 ^ k = c at *
    rw [Bool.eq_iff_iff]
    simp only [Bool.or_eq_true, Bool.and_eq_true, decide_eq_true_eq, beq_iff_eq]
    rw [e1, e2]
    constructor
    · rintro (h | ⟨h, h'⟩)
      · have : c * (x + 1) ≤ c * y := Nat.mul_le_mul_left c h
        rw [Nat.mul_add] at this
        omega
      · subst h; omega
    · intro h
      rcases Nat.lt_trichotomy x y with h2 | h2 | h2
      · exact .inl h2
      · subst h2; exact .inr ⟨rfl, by omega⟩
      · exfalso
        have : c * (y + 1) ≤ c * x := Nat.mul_le_mul_left c h2
        rw [Nat.mul_add] at this
        omega
theorem mod8 (a : Int) (h0 : 0 ≤ a) (h1 : a ≤ 18446744073709551615) : a.toNat % 256 ^ 8 = a.toNat := Nat.mod_eq_of_lt (by show a.toNat < 18446744073709551616; omega)
theorem wide_order (a b : Int) (h0 : 0 ≤ a) (h1 : a ≤ 18446744073709551615) (h2 : 0 ≤ b) (h3 : b ≤ 18446744073709551615) : Op.bytesLess (wideL a.toNat 8) (wideL b.toNat 8) = decide (a < b) := by
  rw [wide_less, mod8 a h0 h1, mod8 b h2 h3]
  exact decide_eq_decide.2 (by omega)
theorem wide_same (a b : Int) (h0 : 0 ≤ a) (h1 : a ≤ 18446744073709551615) (h2 : 0 ≤ b) (h3 : b ≤ 18446744073709551615) : (wideL a.toNat 8 == wideL b.toNat 8) = (a == b) := by
  rw [Bool.eq_iff_iff]
  simp only [beq_iff_eq]
  constructor
  · intro h
    have := congrArg narrowN h
    rw [narrow_wide, narrow_wide, mod8 a h0 h1, mod8 b h2 h3] at this
    omega
  · intro h; rw [h]
theorem narrow_low (u k : Int) (w : World) (h0 : 0 ≤ u) (h1 : u ≤ 18446744073709551615) (h2 : 0 ≤ k) (h3 : k ≤ 8) :
    Calls Try.prog 7 #[.string ⟨(wideL u.toNat k.toNat).toArray⟩] w fun e w' => e = .returned (.tuple #[.int .u64 (lowP u (8 * k)), .bool true]) ∧ Below w.heap.size w w' := by
  have hs : (⟨(wideL u.toNat k.toNat).toArray⟩ : ByteArray).size = k.toNat := by
    show (wideL u.toNat k.toNat).toArray.size = k.toNat
    rw [List.size_toArray, wideL_length]
  refine (narrow_any _ w (by omega)).mono fun e w' h => ⟨h.1.trans ?_, h.2⟩
  have e : (narrowN (⟨(wideL u.toNat k.toNat).toArray⟩ : ByteArray).data.toList : Int) = lowP u (8 * k) := by
    show ((narrowN (wideL u.toNat k.toNat).toArray.toList : Nat) : Int) = _
    rw [List.toList_toArray, narrow_wide, low_mid u (8 * k) (by omega) (by omega)]
    obtain ⟨m, rfl⟩ := Int.eq_ofNat_of_zero_le h0
    obtain ⟨j, rfl⟩ := Int.eq_ofNat_of_zero_le h2
    rw [Int.toNat_natCast, Int.toNat_natCast, show (8 * (j : Int)).toNat = 8 * j by omega]
    rw [show (256 : Nat) ^ j = 2 ^ (8 * j) by rw [Nat.pow_mul]]
    rw [Int.natCast_emod, Int.natCast_pow]
    rfl
  rw [e]

theorem walk (a0 : Int) (a1 : Int) (a2 : Int) (w0 : (Lit.int .u64 a0).wf = true) (w1 : (Lit.int .u64 a1).wf = true) (w2 : (Lit.int .i64 a2).wf = true) (w : World) :
    Calls Try.prog 3 #[.int .u64 a0, .int .u64 a1, .int .i64 a2] w fun e w' => e = .returned (.bool true) ∧ Below w.heap.size w w' := by
  obtain ⟨b0, c0⟩ := bounds_u64 w0
  obtain ⟨b1, c1⟩ := bounds_u64 w1
  obtain ⟨b2, c2⟩ := bounds_i64 w2
  clear w0 w1 w2
  have hless := wide_order a0 a1 b0 c0 b1 c1
  have hsame := wide_same a0 a1 b0 c0 b1 c1
  by_cases hab : a0 ≤ a1
  · have hmono : (varL a0.toNat).length ≤ (varL a1.toNat).length := varF_mono 9 _ _ (by omega)
    by_cases hk0 : a2 < 0
    · go_enter Try.func3, Try.ntmps3
      go_wp2_with fail
      refine (wide_any a0 8 _ (by omega) (by omega) (by decide) (by decide)).mono ?_; rintro e w1 ⟨rfl, hb1⟩; have HB1 := Lib.hid hb1; clear hb1
      go_wp2_with fail
      refine (wide_any a1 8 _ (by omega) (by omega) (by decide) (by decide)).mono ?_; rintro e w2 ⟨rfl, hb2⟩; have HB2 := Lib.hid hb2; clear hb2
      go_wp2_with fail
      refine (var_any a0 _ (by omega) (by omega)).mono ?_; rintro e w3 ⟨rfl, hb3⟩; have HB3 := Lib.hid hb3; clear hb3
      go_wp2_with fail
      refine (var_any a1 _ (by omega) (by omega)).mono ?_; rintro e w4 ⟨rfl, hb4⟩; have HB4 := Lib.hid hb4; clear hb4
      go_wp2_with fail
      refine (wide_none _ _ _ (by omega)).mono ?_; rintro e w' ⟨rfl, rfl⟩
      go_wp2_with fail
      refine (live_any _).mono ?_; rintro e w5 ⟨rfl, hb5⟩; have HB5 := Lib.hid hb5; clear hb5
      go_wp2
      go_ret
      exact ⟨rfl, below_then (below_then (below_then (below_then (HB1.out) HB2.out) HB3.out) HB4.out) HB5.out⟩
    · by_cases hk1 : 8 < a2
      · go_enter Try.func3, Try.ntmps3
        go_wp2_with fail
        refine (wide_any a0 8 _ (by omega) (by omega) (by decide) (by decide)).mono ?_; rintro e w1 ⟨rfl, hb1⟩; have HB1 := Lib.hid hb1; clear hb1
        go_wp2_with fail
        refine (wide_any a1 8 _ (by omega) (by omega) (by decide) (by decide)).mono ?_; rintro e w2 ⟨rfl, hb2⟩; have HB2 := Lib.hid hb2; clear hb2
        go_wp2_with fail
        refine (var_any a0 _ (by omega) (by omega)).mono ?_; rintro e w3 ⟨rfl, hb3⟩; have HB3 := Lib.hid hb3; clear hb3
        go_wp2_with fail
        refine (var_any a1 _ (by omega) (by omega)).mono ?_; rintro e w4 ⟨rfl, hb4⟩; have HB4 := Lib.hid hb4; clear hb4
        go_wp2_with fail
        refine (wide_none _ _ _ (by omega)).mono ?_; rintro e w' ⟨rfl, rfl⟩
        go_wp2_with fail
        refine (live_any _).mono ?_; rintro e w5 ⟨rfl, hb5⟩; have HB5 := Lib.hid hb5; clear hb5
        go_wp2
        go_ret
        exact ⟨rfl, below_then (below_then (below_then (below_then (HB1.out) HB2.out) HB3.out) HB4.out) HB5.out⟩
      · have hk : 0 ≤ a2 ∧ a2 ≤ 8 := by omega
        obtain ⟨k1, k2⟩ := hk
        have hwl : ((wideL a0.toNat a2.toNat).length : Int) = a2 := by rw [wideL_length]; omega
        go_enter Try.func3, Try.ntmps3
        go_wp2_with fail
        refine (wide_any a0 8 _ (by omega) (by omega) (by decide) (by decide)).mono ?_; rintro e w1 ⟨rfl, hb1⟩; have HB1 := Lib.hid hb1; clear hb1
        go_wp2_with fail
        refine (wide_any a1 8 _ (by omega) (by omega) (by decide) (by decide)).mono ?_; rintro e w2 ⟨rfl, hb2⟩; have HB2 := Lib.hid hb2; clear hb2
        go_wp2_with fail
        refine (var_any a0 _ (by omega) (by omega)).mono ?_; rintro e w3 ⟨rfl, hb3⟩; have HB3 := Lib.hid hb3; clear hb3
        go_wp2_with fail
        refine (var_any a1 _ (by omega) (by omega)).mono ?_; rintro e w4 ⟨rfl, hb4⟩; have HB4 := Lib.hid hb4; clear hb4
        go_wp2_with fail
        refine (wide_any a0 a2 _ (by omega) (by omega) (by omega) (by omega)).mono ?_; rintro e w5 ⟨rfl, hb5⟩; have HB5 := Lib.hid hb5; clear hb5
        go_wp2_with fail
        refine (narrow_low a0 a2 _ (by omega) (by omega) (by omega) (by omega)).mono ?_; rintro e w6 ⟨rfl, hb6⟩; have HB6 := Lib.hid hb6; clear hb6
        go_wp2_with fail
        refine (low_any _ _ _ (by omega) (by omega) (by omega) (by omega)).mono ?_; rintro e w' ⟨rfl, rfl⟩
        go_wp2_with fail
        refine (wide_any a0 a2 _ (by omega) (by omega) (by omega) (by omega)).mono ?_; rintro e w7 ⟨rfl, hb7⟩; have HB7 := Lib.hid hb7; clear hb7
        go_wp2_with fail
        refine (live_any _).mono ?_; rintro e w8 ⟨rfl, hb8⟩; have HB8 := Lib.hid hb8; clear hb8
        go_wp2
        go_ret
        exact ⟨rfl, below_then (below_then (below_then (below_then (below_then (below_then (below_then (HB1.out) HB2.out) HB3.out) HB4.out) HB5.out) HB6.out) HB7.out) HB8.out⟩
  · by_cases hk0 : a2 < 0
    · go_enter Try.func3, Try.ntmps3
      go_wp2_with fail
      refine (wide_any a0 8 _ (by omega) (by omega) (by decide) (by decide)).mono ?_; rintro e w1 ⟨rfl, hb1⟩; have HB1 := Lib.hid hb1; clear hb1
      go_wp2_with fail
      refine (wide_any a1 8 _ (by omega) (by omega) (by decide) (by decide)).mono ?_; rintro e w2 ⟨rfl, hb2⟩; have HB2 := Lib.hid hb2; clear hb2
      go_wp2_with fail
      refine (wide_none _ _ _ (by omega)).mono ?_; rintro e w' ⟨rfl, rfl⟩
      go_wp2_with fail
      refine (live_any _).mono ?_; rintro e w3 ⟨rfl, hb3⟩; have HB3 := Lib.hid hb3; clear hb3
      go_wp2
      go_ret
      exact ⟨rfl, below_then (below_then (HB1.out) HB2.out) HB3.out⟩
    · by_cases hk1 : 8 < a2
      · go_enter Try.func3, Try.ntmps3
        go_wp2_with fail
        refine (wide_any a0 8 _ (by omega) (by omega) (by decide) (by decide)).mono ?_; rintro e w1 ⟨rfl, hb1⟩; have HB1 := Lib.hid hb1; clear hb1
        go_wp2_with fail
        refine (wide_any a1 8 _ (by omega) (by omega) (by decide) (by decide)).mono ?_; rintro e w2 ⟨rfl, hb2⟩; have HB2 := Lib.hid hb2; clear hb2
        go_wp2_with fail
        refine (wide_none _ _ _ (by omega)).mono ?_; rintro e w' ⟨rfl, rfl⟩
        go_wp2_with fail
        refine (live_any _).mono ?_; rintro e w3 ⟨rfl, hb3⟩; have HB3 := Lib.hid hb3; clear hb3
        go_wp2
        go_ret
        exact ⟨rfl, below_then (below_then (HB1.out) HB2.out) HB3.out⟩
      · have hk : 0 ≤ a2 ∧ a2 ≤ 8 := by omega
        obtain ⟨k1, k2⟩ := hk
        have hwl : ((wideL a0.toNat a2.toNat).length : Int) = a2 := by rw [wideL_length]; omega
        go_enter Try.func3, Try.ntmps3
        go_wp2_with fail
        refine (wide_any a0 8 _ (by omega) (by omega) (by decide) (by decide)).mono ?_; rintro e w1 ⟨rfl, hb1⟩; have HB1 := Lib.hid hb1; clear hb1
        go_wp2_with fail
        refine (wide_any a1 8 _ (by omega) (by omega) (by decide) (by decide)).mono ?_; rintro e w2 ⟨rfl, hb2⟩; have HB2 := Lib.hid hb2; clear hb2
        go_wp2_with fail
        refine (wide_any a0 a2 _ (by omega) (by omega) (by omega) (by omega)).mono ?_; rintro e w3 ⟨rfl, hb3⟩; have HB3 := Lib.hid hb3; clear hb3
        go_wp2_with fail
        refine (narrow_low a0 a2 _ (by omega) (by omega) (by omega) (by omega)).mono ?_; rintro e w4 ⟨rfl, hb4⟩; have HB4 := Lib.hid hb4; clear hb4
        go_wp2_with fail
        refine (low_any _ _ _ (by omega) (by omega) (by omega) (by omega)).mono ?_; rintro e w' ⟨rfl, rfl⟩
        go_wp2_with fail
        refine (wide_any a0 a2 _ (by omega) (by omega) (by omega) (by omega)).mono ?_; rintro e w5 ⟨rfl, hb5⟩; have HB5 := Lib.hid hb5; clear hb5
        go_wp2_with fail
        refine (live_any _).mono ?_; rintro e w6 ⟨rfl, hb6⟩; have HB6 := Lib.hid hb6; clear hb6
        go_wp2
        go_ret
        exact ⟨rfl, below_then (below_then (below_then (below_then (below_then (HB1.out) HB2.out) HB3.out) HB4.out) HB5.out) HB6.out⟩

theorem own : ownKnob Try.prog.godebug = none := by kernel_rfl

set_option maxRecDepth 100000 in
theorem lifted (os : Os) (started : os.Started) (H : Type) (enc : TypeId × Value → H) :
    ReturnsInHanded {} Try.checked os 3 .any (Rows.shiftOrderSpec.pre6 enc Try.prog Try.f3 Rows.shiftOrderRow.domain false) (Rows.shiftOrderSpec.post enc Try.prog Try.f3 false true false false) := by
  refine returnsInHanded_of_change (C := Try.checked) own started (by kernel_rfl) Try.func3
    (ChangeSpec.witness6 (enc := enc) (C := Try.checked) false ⟨#[], #[.int .u64 0, .int .u64 0, .int .i64 0], []⟩ 8 (by kernel_rfl) (by kernel_rfl) (by kernel_rfl) (by kernel_rfl)) ?_
  intro W base args ds gs before hval0 hW hcnd _
  have hval : ∀ (j : Nat) t v, Try.f3.params[j]? = some t → args[j]? = some v → Value.okWide Try.prog W .any base t v := hval0
  have hW' := hW
  obtain ⟨p, q, hA0, hV, rfl, hfz, hnd⟩ := hW
  have hA : DataW.TrodAll enc Try.prog W 0 (fun _ => true) true Try.f3.params.toList args.toList ds p := hA0
  rw [Try.params3] at hA hval
  obtain ⟨v0, vs0, d0, ds0, p0, q0, hargs, rfl, rfl, h0, r0⟩ := trodAll_cons hA
  obtain ⟨v1, vs1, d1, ds1, p1, q1, rfl, rfl, rfl, h1, r1⟩ := trodAll_cons r0
  obtain ⟨v2, vs2, d2, ds2, p2, q2, rfl, rfl, rfl, h2, r2⟩ := trodAll_cons r1
  obtain ⟨rfl, rfl, rfl⟩ := trodAll_nil r2
  obtain rfl : args = #[v0, v1, v2] := by cases args; simp_all
  obtain ⟨rfl, rfl⟩ := trodVars_none hV
  obtain ⟨a0, rfl, rfl, rfl, w0⟩ := open_int Try.underlying22 (hval 0 22 v0 rfl rfl) h0
  obtain ⟨a1, rfl, rfl, rfl, w1⟩ := open_int Try.underlying22 (hval 1 22 v1 rfl rfl) h1
  obtain ⟨a2, rfl, rfl, rfl, w2⟩ := open_int Try.underlying3 (hval 2 3 v2 rfl rfl) h2
  clear hA0 hval0
  refine (walk a0 a1 a2 w0 w1 w2 W).mono fun e W' ⟨he, bel⟩ => ?_
  subst he
  exact ⟨_, rfl, _, _, _, [], _, [], hW', trodAll_mk1 (shut_bool Try.underlying4 _), (trodAll_cons_mk (shut_int Try.underlying22 w0) (trodAll_cons_mk (shut_int Try.underlying22 w1) (trodAll_cons_mk (shut_int Try.underlying3 w2) trodAll_mk0))), rfl, bel.frame _, fun h => by cases h⟩

theorem over : Rows.shiftOrderRow.holds Try.pinned (OpenSpec.ofChange Rows.shiftOrderSpec) :=
  OpenClaim.holds_of_wide 3 Try.f3 rfl rfl rfl rfl rfl rfl rfl ⟨rfl, rfl, rfl, rfl, rfl⟩ rfl rfl rfl rfl rfl (by kernel_rfl) Try.func3 (by kernel_rfl)
    (of_decide_eq_true (by kernel_rfl)) (by unfold Func.isWrapper; first | (rw [if_pos (by decide +kernel)]; kernel_rfl) | (rw [if_neg (by decide +kernel)]; exact ⟨rfl, rfl⟩))
    (fun os started H enc _ => lifted os started H enc)

theorem proved : Rows.ShiftOrderSaid := over
#print axioms proved
end Go.Proofs.Ytjnmlbenhkhcbab.shiftOrder
