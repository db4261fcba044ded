/- Layer 1's functions on numbers: what each call answers, the program's and the document's, for every argument. -/
import Derived.Test.YtjnmlbenhkhcbabProg
import Derived.Test.YtjnmlbenhkhcbabShiftPure
import Derived.WalkKit
import Derived.BigQuiet
import Derived.Lib.Hide
namespace Go.Proofs.Ytjnmlbenhkhcbab.P
open Go.RowKit
set_option maxHeartbeats 400000

theorem ret_int {k : IntKind} {a b : Int} (h : a = b) : Ending.returned (.int k a) = .returned (.int k b) := by rw [h]
theorem ret_two {k l : IntKind} {a b c d : Int} (h : a = b) (g : c = d) : Ending.returned (.tuple #[.int k a, .int l c]) = .returned (.tuple #[.int k b, .int l d]) := by rw [h, g]

theorem zig_any (n : Int) (w : World) (h0 : -9223372036854775808 ≤ n) (h1 : n ≤ 9223372036854775807) :
    Calls Try.prog 11 #[.int .i64 n] w fun e w' => e = .returned (.int .u64 (zigP n)) ∧ w = w' := by
  go_enter Try.func11, Try.ntmps11
  go_wp2
  go_ret
  exact ⟨ret_int (zig_code n h0 h1), rfl⟩


theorem zag_any (u : Int) (w : World) (h0 : 0 ≤ u) (h1 : u ≤ 18446744073709551615) :
    Calls Try.prog 12 #[.int .u64 u] w fun e w' => e = .returned (.int .i64 (zagP u)) ∧ w = w' := by
  go_enter Try.func12, Try.ntmps12
  go_wp2
  go_ret
  exact ⟨ret_int (zag_code u h0 h1), rfl⟩


set_option linter.unusedVariables false
theorem low_any (n k : Int) (w : World) (h0 : 0 ≤ n) (h1 : n ≤ 18446744073709551615) (h2 : -9223372036854775808 ≤ k) (h3 : k ≤ 9223372036854775807) :
    Calls Try.prog 8 #[.int .u64 n, .int .i64 k] w fun e w' => e = .returned (.int .u64 (lowP n k)) ∧ w = w' := by
  by_cases ha : k < 0
  · go_enter Try.func8, Try.ntmps8
    go_wp2
    go_ret
    exact ⟨ret_int (low_zero n k (by omega)).symm, rfl⟩
  · by_cases hb : 64 < k
    · go_enter Try.func8, Try.ntmps8
      go_wp2
      go_ret
      exact ⟨ret_int (low_all n k h0 h1 (by omega)).symm, rfl⟩
    · go_enter Try.func8, Try.ntmps8
      go_wp2
      go_ret
      exact ⟨ret_int (low_code n k (by omega) (by omega)), rfl⟩

theorem sign_any (n k : Int) (w : World) (h0 : 0 ≤ n) (h1 : n ≤ 18446744073709551615) (h2 : -9223372036854775808 ≤ k) (h3 : k ≤ 9223372036854775807) :
    Calls Try.prog 13 #[.int .u64 n, .int .i64 k] w fun e w' => e = .returned (.int .i64 (signP n k)) ∧ w = w' := by
  by_cases ha : k < 1
  · go_enter Try.func13, Try.ntmps13
    go_wp2
    go_ret
    exact ⟨ret_int (by unfold signP; rw [if_pos (by omega)]), rfl⟩
  · by_cases hb : 64 < k
    · go_enter Try.func13, Try.ntmps13
      go_wp2
      go_ret
      exact ⟨ret_int (by unfold signP; rw [if_pos (by omega)]), rfl⟩
    · go_enter Try.func13, Try.ntmps13
      go_wp2
      go_ret
      exact ⟨ret_int (sign_code n k (by omega) (by omega)), rfl⟩




theorem fits_yes (n : Int) (k : Nat) (w : World) (h0 : 0 ≤ n) (h1 : n < 2 ^ k) (h2 : n ≤ 9223372036854775807) (hk : k ≤ 40) :
    Calls Try.prog 15 #[.int .i64 n, .int .i64 k] w fun e w' => e = .returned (.bool true) ∧ w = w' := by
  have hz : n / 2 ^ k = 0 := (fits_code n k).2 ⟨h0, h1⟩
  have hz' : (n / 2 ^ k == 0) = true := by simp [hz]
  clear hz
  go_enter Try.func15, Try.ntmps15
  go_wp2
  go_ret
  exact ⟨rfl, rfl⟩
theorem fits_no (n : Int) (k : Nat) (w : World) (h0 : ¬ (0 ≤ n ∧ n < 2 ^ k)) (h1 : -9223372036854775808 ≤ n) (h2 : n ≤ 9223372036854775807) (hk : k ≤ 40) :
    Calls Try.prog 15 #[.int .i64 n, .int .i64 k] w fun e w' => e = .returned (.bool false) ∧ w = w' := by
  have hz : (n / 2 ^ k == 0) = false := by
    have := (not_congr (fits_code n k)).2 h0
    simpa using this
  go_enter Try.func15, Try.ntmps15
  go_wp2
  go_ret
  exact ⟨rfl, rfl⟩

theorem pow4 : (2 : Int) ^ 4 = 16 := rfl
theorem pow36 : (2 : Int) ^ 36 = 68719476736 := by decide
theorem pow40 : (2 : Int) ^ 40 = 1099511627776 := by decide

theorem or_nat (a b : Nat) (ha : a ≤ 15) (hb : b ≤ 68719476735) : (BitVec.ofInt 64 ((b : Int) * 16) ||| BitVec.ofInt 64 (a : Int)).toNat = 16 * b + a := by
  have e : ((b : Int) * 16) = ((16 * b : Nat) : Int) := by omega
  rw [BitVec.toNat_or, e]
  simp only [BitVec.toNat_ofInt]
  have h1 : ((16 * b : Nat) : Int) % ((2 ^ 64 : Nat) : Int) = ((16 * b : Nat) : Int) := Int.emod_eq_of_lt (by omega) (by simp; omega)
  have h2 : ((a : Nat) : Int) % ((2 ^ 64 : Nat) : Int) = (a : Int) := Int.emod_eq_of_lt (by omega) (by simp; omega)
  rw [h1, h2, Int.toNat_natCast, Int.toNat_natCast]
  have := Nat.two_pow_add_eq_or_of_lt (show a < 2 ^ 4 by omega) b
  simpa using this.symm
theorem or_who (node life : Int) (h0 : 0 ≤ node) (h1 : node ≤ 15) (h2 : 0 ≤ life) (h3 : life ≤ 68719476735) :
    bits .or .i64 (life * 16) node = 16 * life + node := by
  obtain ⟨a, rfl⟩ := Int.eq_ofNat_of_zero_le h0
  obtain ⟨b, rfl⟩ := Int.eq_ofNat_of_zero_le h2
  rw [bits.eq_2]
  have e : (BitVec.ofInt IntKind.i64.bits ((b : Int) * 16) ||| BitVec.ofInt IntKind.i64.bits (a : Int)).toNat = 16 * b + a := or_nat a b (by omega) (by omega)
  rw [e]
  exact (IntWalk.i64_in _ (by omega)).trans (by omega)

theorem fits4_yes (n : Int) (w : World) (h0 : 0 ≤ n) (h1 : n ≤ 15) : Calls Try.prog 15 #[.int .i64 n, .int .i64 4] w fun e w' => e = .returned (.bool true) ∧ w = w' :=
  fits_yes n 4 w h0 (by rw [pow4]; omega) (by omega) (by omega)
theorem fits4_no (n : Int) (w : World) (h0 : ¬ (0 ≤ n ∧ n ≤ 15)) (h1 : -9223372036854775808 ≤ n) (h2 : n ≤ 9223372036854775807) : Calls Try.prog 15 #[.int .i64 n, .int .i64 4] w fun e w' => e = .returned (.bool false) ∧ w = w' :=
  fits_no n 4 w (by rw [pow4]; omega) h1 h2 (by omega)
theorem fits36_yes (n : Int) (w : World) (h0 : 0 ≤ n) (h1 : n ≤ 68719476735) : Calls Try.prog 15 #[.int .i64 n, .int .i64 36] w fun e w' => e = .returned (.bool true) ∧ w = w' :=
  fits_yes n 36 w h0 (by rw [pow36]; omega) (by omega) (by omega)
theorem fits36_no (n : Int) (w : World) (h0 : ¬ (0 ≤ n ∧ n ≤ 68719476735)) (h1 : -9223372036854775808 ≤ n) (h2 : n ≤ 9223372036854775807) : Calls Try.prog 15 #[.int .i64 n, .int .i64 36] w fun e w' => e = .returned (.bool false) ∧ w = w' :=
  fits_no n 36 w (by rw [pow36]; omega) h1 h2 (by omega)
theorem fits40_yes (n : Int) (w : World) (h0 : 0 ≤ n) (h1 : n ≤ 1099511627775) : Calls Try.prog 15 #[.int .i64 n, .int .i64 40] w fun e w' => e = .returned (.bool true) ∧ w = w' :=
  fits_yes n 40 w h0 (by rw [pow40]; omega) (by omega) (by omega)
theorem fits40_no (n : Int) (w : World) (h0 : ¬ (0 ≤ n ∧ n ≤ 1099511627775)) (h1 : -9223372036854775808 ≤ n) (h2 : n ≤ 9223372036854775807) : Calls Try.prog 15 #[.int .i64 n, .int .i64 40] w fun e w' => e = .returned (.bool false) ∧ w = w' :=
  fits_no n 40 w (by rw [pow40]; omega) h1 h2 (by omega)

theorem who_any (node life : Int) (w : World) (h0 : -9223372036854775808 ≤ node) (h1 : node ≤ 9223372036854775807) (h2 : -9223372036854775808 ≤ life) (h3 : life ≤ 9223372036854775807) :
    Calls Try.prog 14 #[.int .i64 node, .int .i64 life] w fun e w' => e = .returned (.int .i64 (whoP node life)) ∧ w = w' := by
  by_cases ha : 0 ≤ node ∧ node ≤ 15
  · by_cases hb : 0 ≤ life ∧ life ≤ 68719476735
    · obtain ⟨a1, a2⟩ := ha
      obtain ⟨l1, l2⟩ := hb
      go_enter Try.func14, Try.ntmps14
      go_wp2_with fail
      refine (fits4_yes _ _ (by omega) (by omega)).mono ?_; rintro e w' ⟨rfl, rfl⟩
      go_wp2_with fail
      refine (fits36_yes _ _ (by omega) (by omega)).mono ?_; rintro e w' ⟨rfl, rfl⟩
      go_wp2
      go_ret
      exact ⟨ret_int (by unfold whoP; rw [if_pos (by omega)]; exact or_who _ _ a1 a2 l1 l2), rfl⟩
    · obtain ⟨a1, a2⟩ := ha
      go_enter Try.func14, Try.ntmps14
      go_wp2_with fail
      refine (fits4_yes _ _ (by omega) (by omega)).mono ?_; rintro e w' ⟨rfl, rfl⟩
      go_wp2_with fail
      refine (fits36_no _ _ hb (by omega) (by omega)).mono ?_; rintro e w' ⟨rfl, rfl⟩
      go_wp2
      go_ret
      exact ⟨ret_int (by unfold whoP; rw [if_neg (by omega)]), rfl⟩
  · go_enter Try.func14, Try.ntmps14
    go_wp2_with fail
    refine (fits4_no _ _ ha (by omega) (by omega)).mono ?_; rintro e w' ⟨rfl, rfl⟩
    go_wp2
    go_ret
    exact ⟨ret_int (by unfold whoP; rw [if_neg (by omega)]), rfl⟩



theorem whose_any (who : Int) (w : World) (h0 : -9223372036854775808 ≤ who) (h1 : who ≤ 9223372036854775807) :
    Calls Try.prog 10 #[.int .i64 who] w fun e w' => e = .returned (.tuple #[.int .i64 (whoseNode who), .int .i64 (whoseLife who)]) ∧ w = w' := by
  by_cases ha : 0 ≤ who ∧ who ≤ 1099511627775
  · obtain ⟨a1, a2⟩ := ha
    have hl : lowP who 4 = who % 16 := low_mid who 4 (by omega) (by omega)
    have hr := low_range who 4 a1 (by omega)
    have hr2 : lowP who 4 ≤ 15 := by omega
    have HL := Lib.hid hl
    clear hl
    go_enter Try.func10, Try.ntmps10
    go_wp2_with fail
    refine (fits40_yes _ _ (by omega) (by omega)).mono ?_; rintro e w' ⟨rfl, rfl⟩
    go_wp2_with fail
    refine (low_any _ _ _ (by omega) (by omega) (by omega) (by omega)).mono ?_; rintro e w' ⟨rfl, rfl⟩
    go_wp2
    go_ret2
    exact ⟨ret_two (by unfold whoseNode; rw [if_pos (by omega)]; exact HL.out) (by unfold whoseLife; rw [if_pos (by omega)]), rfl⟩
  · go_enter Try.func10, Try.ntmps10
    go_wp2_with fail
    refine (fits40_no _ _ ha (by omega) (by omega)).mono ?_; rintro e w' ⟨rfl, rfl⟩
    go_wp2
    go_ret2
    exact ⟨ret_two (by unfold whoseNode; rw [if_neg (by omega)]) (by unfold whoseLife; rw [if_neg (by omega)]), rfl⟩
end Go.Proofs.Ytjnmlbenhkhcbab.P
