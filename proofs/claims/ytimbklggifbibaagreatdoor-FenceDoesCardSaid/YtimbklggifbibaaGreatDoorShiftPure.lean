/- Plain arithmetic of layer 1: numbers as bits; no program in sight. -/
import Derived.WalkKit
namespace Go.Proofs.YtimbklggifbibaaGreatDoor.P
open Go.RowKit

theorem u64wrap (x : Int) : IntKind.u64.wrap x = x % 18446744073709551616 := by
  simp [IntKind.wrap, IntKind.bits, IntKind.signed]
theorem u8wrap (x : Int) : IntKind.u8.wrap x = x % 256 := by
  simp [IntKind.wrap, IntKind.bits, IntKind.signed]

/-! ### Low, Sign -/
/-- The k lowest bits of n. -/
def lowP (n k : Int) : Int := if k < 0 then 0 else if 64 < k then n else n % (2 ^ k.toNat : Int)
/-- The k lowest bits of n, the highest one worth its weight below 0. -/
def signP (n k : Int) : Int :=
  if k < 1 ∨ 64 < k then 0 else
    let r := n % (2 ^ k.toNat : Int)
    if r < (2 ^ (k.toNat - 1) : Int) then r else r - (2 ^ k.toNat : Int)

theorem pow_split {k : Nat} (h : k ≤ 64) : (2 ^ k : Int) * 2 ^ (64 - k) = 18446744073709551616 := by
  rw [← Int.pow_add, show k + (64 - k) = 64 by omega]; rfl
theorem pow_pos' (k : Nat) : (0 : Int) < 2 ^ k := Int.pow_pos (by decide)
theorem toNat_sub64 {k : Int} (h0 : 0 ≤ k) (h1 : k ≤ 64) : (64 - k).toNat = 64 - k.toNat := by omega

theorem low_code (n k : Int) (h0 : 0 ≤ k) (h1 : k ≤ 64) :
    IntKind.u64.wrap (n * 2 ^ (64 - k).toNat) / 2 ^ (64 - k).toNat = lowP n k := by
  rw [u64wrap, toNat_sub64 h0 h1, ← pow_split (show k.toNat ≤ 64 by omega)]
  rw [Int.mul_comm (2 ^ k.toNat : Int), Int.mul_comm n, Int.mul_emod_mul_of_pos _ _ (pow_pos' _)]
  rw [Int.mul_ediv_cancel_left _ (by have := pow_pos' (64 - k.toNat); omega)]
  unfold lowP
  rw [if_neg (by omega), if_neg (by omega)]

theorem low_range (n k : Int) (h0 : 0 ≤ n) (h1 : n ≤ 18446744073709551615) : 0 ≤ lowP n k ∧ lowP n k ≤ n := by
  unfold lowP
  split
  · omega
  · split
    · omega
    · have hp := pow_pos' k.toNat
      exact ⟨Int.emod_nonneg _ (by omega), by
        by_cases h : n < 2 ^ k.toNat
        · rw [Int.emod_eq_of_lt h0 h]; omega
        · have := Int.emod_lt_of_pos n hp; omega⟩

theorem low_zero (n k : Int) (h : k ≤ 0) : lowP n k = 0 := by
  unfold lowP
  by_cases h0 : k < 0
  · rw [if_pos h0]
  · rw [if_neg h0, if_neg (by omega), show k = 0 by omega]; simp
theorem low_all (n k : Int) (h0 : 0 ≤ n) (h1 : n ≤ 18446744073709551615) (h : 64 ≤ k) : lowP n k = n := by
  unfold lowP
  rw [if_neg (by omega)]
  by_cases h2 : 64 < k
  · rw [if_pos h2]
  · rw [if_neg h2, show k = 64 by omega]; exact Int.emod_eq_of_lt h0 (by simp; omega)
theorem low_mid (n k : Int) (h0 : 0 ≤ k) (h1 : k ≤ 64) : lowP n k = n % (2 ^ k.toNat : Int) := by
  unfold lowP
  rw [if_neg (by omega), if_neg (by omega)]

/-- '2 ^ k' is the double of '2 ^ (k - 1)'. -/
theorem pow_double {k : Nat} (h : 1 ≤ k) : (2 ^ k : Int) = 2 * 2 ^ (k - 1) := by
  conv => lhs; rw [show k = (k - 1) + 1 by omega, Int.pow_succ]
  omega
theorem pow_le {k : Nat} (h : k ≤ 64) : (2 ^ k : Int) ≤ 18446744073709551616 := by
  have h1 := pow_split h
  have h2 := pow_pos' (64 - k)
  have h3 := pow_pos' k
  have : (2 ^ k : Int) * 1 ≤ 2 ^ k * 2 ^ (64 - k) := Int.mul_le_mul_of_nonneg_left (by omega) (by omega)
  omega

theorem wrap64_eq (x : Int) (h0 : 0 ≤ x) (h1 : x < 18446744073709551616) : wrap64 x = if x < 9223372036854775808 then x else x - 18446744073709551616 := by
  unfold wrap64
  split <;> omega

theorem sign_code (n k : Int) (h0 : 1 ≤ k) (h1 : k ≤ 64) :
    wrap64 (IntKind.u64.wrap (n * 2 ^ (64 - k).toNat)) / 2 ^ (64 - k).toNat = signP n k := by
  obtain ⟨m, rfl⟩ : ∃ m : Nat, k = m := ⟨k.toNat, by omega⟩
  rw [u64wrap, toNat_sub64 (by omega) h1]
  simp only [Int.toNat_natCast]
  have hm1 : 1 ≤ m := by omega
  have hm2 : m ≤ 64 := by omega
  have hs := pow_split hm2
  have hd := pow_double hm1
  have hp := pow_pos' (64 - m)
  have hq := pow_pos' (m - 1)
  have hr0 : 0 ≤ n % (2 ^ m : Int) := Int.emod_nonneg _ (by omega)
  have hr1 : n % (2 ^ m : Int) < 2 ^ m := Int.emod_lt_of_pos _ (by omega)
  have e : n * 2 ^ (64 - m) % 18446744073709551616 = n % 2 ^ m * 2 ^ (64 - m) := by
    rw [← hs, Int.mul_comm n, Int.mul_comm (2 ^ m : Int), Int.mul_emod_mul_of_pos _ _ hp, Int.mul_comm]
  rw [e]
  unfold signP
  simp only [Int.toNat_natCast]
  rw [if_neg (by omega)]
  generalize n % (2 ^ m : Int) = r at *
  generalize (2 ^ (64 - m) : Int) = c at *
  have hx0 : 0 ≤ r * c := Int.mul_nonneg hr0 (by omega)
  have hx1 : r * c < 18446744073709551616 := by
    rw [← hs]; exact Int.mul_lt_mul_of_pos_right hr1 hp
  rw [wrap64_eq _ hx0 hx1]
  have hhalf : (2 ^ (m - 1) : Int) * c = 9223372036854775808 := by
    rw [hd] at hs
    have : 2 * (2 ^ (m - 1) * c) = 18446744073709551616 := by rw [← Int.mul_assoc]; exact hs
    omega
  by_cases h : r < 2 ^ (m - 1)
  · rw [if_pos h, if_pos (by rw [← hhalf]; exact Int.mul_lt_mul_of_pos_right h hp)]
    exact Int.mul_ediv_cancel _ (by omega)
  · rw [if_neg h, if_neg (by rw [← hhalf]; have := Int.mul_le_mul_of_nonneg_right (show (2 ^ (m - 1) : Int) ≤ r by omega) (show 0 ≤ c by omega); omega)]
    rw [← hs, ← Int.sub_mul]
    exact Int.mul_ediv_cancel _ (by omega)

theorem sign_range (n k : Int) : -9223372036854775808 ≤ signP n k ∧ signP n k ≤ 9223372036854775807 := by
  unfold signP
  split
  · omega
  · rename_i h
    obtain ⟨m, rfl⟩ : ∃ m : Nat, k = m := ⟨k.toNat, by omega⟩
    simp only [Int.toNat_natCast]
    have hm1 : 1 ≤ m := by omega
    have hd := pow_double hm1
    have hl := pow_le (show m ≤ 64 by omega)
    have hq := pow_pos' (m - 1)
    have hr0 : 0 ≤ n % (2 ^ m : Int) := Int.emod_nonneg _ (by omega)
    have hr1 : n % (2 ^ m : Int) < 2 ^ m := Int.emod_lt_of_pos _ (by omega)
    generalize n % (2 ^ m : Int) = r at *
    split <;> omega

/-- The document's own way to Sign: by the lower bits and the highest one. -/
theorem sign_parts (n k : Int) (h0 : 1 ≤ k) (h1 : k ≤ 64) :
    (lowP n k - lowP n (k - 1) = 0 ∧ signP n k = lowP n (k - 1) ∧ lowP n (k - 1) < 2 ^ (k.toNat - 1)) ∨
      (lowP n k - lowP n (k - 1) = 2 ^ (k.toNat - 1) ∧ signP n k = lowP n (k - 1) - 2 ^ (k.toNat - 1) ∧ lowP n (k - 1) < 2 ^ (k.toNat - 1)) := by
  rw [low_mid n k (by omega) h1, low_mid n (k - 1) (by omega) (by omega)]
  unfold signP
  rw [if_neg (by omega)]
  obtain ⟨m, rfl⟩ : ∃ m : Nat, k = m := ⟨k.toNat, by omega⟩
  rw [show ((m : Int) - 1).toNat = m - 1 by omega]
  simp only [Int.toNat_natCast]
  have hm1 : 1 ≤ m := by omega
  have hd := pow_double hm1
  have hq := pow_pos' (m - 1)
  have hr0 : 0 ≤ n % (2 ^ m : Int) := Int.emod_nonneg _ (by omega)
  have hr1 : n % (2 ^ m : Int) < 2 ^ m := Int.emod_lt_of_pos _ (by omega)
  have hlow : n % (2 ^ (m - 1) : Int) = n % (2 ^ m : Int) % 2 ^ (m - 1) := by
    rw [Int.emod_emod_of_dvd]
    exact ⟨2, by rw [hd]; omega⟩
  rw [hlow]
  generalize n % (2 ^ m : Int) = r at *
  by_cases h : r < 2 ^ (m - 1)
  · rw [Int.emod_eq_of_lt hr0 h]
    rw [if_pos h]
    left; omega
  · have : r % 2 ^ (m - 1) = r - 2 ^ (m - 1) := by
      have h2 : (r - 2 ^ (m - 1)) % 2 ^ (m - 1) = r - 2 ^ (m - 1) := Int.emod_eq_of_lt (by omega) (by omega)
      rw [← h2, Int.sub_emod_right]
    rw [this, if_neg h]
    right; omega

/-! ### Zig, Zag -/
def zigP (n : Int) : Int := if 0 ≤ n then 2 * n else -2 * n - 1
def zagP (u : Int) : Int := if u % 2 = 0 then u / 2 else -(u / 2) - 1

theorem zag_zig (n : Int) : zagP (zigP n) = n := by
  unfold zagP zigP
  split <;> split <;> omega
theorem zig_zag (u : Int) (h : 0 ≤ u) : zigP (zagP u) = u := by
  unfold zagP zigP
  split <;> split <;> omega
theorem zig_range (n : Int) (h0 : -9223372036854775808 ≤ n) (h1 : n ≤ 9223372036854775807) : 0 ≤ zigP n ∧ zigP n ≤ 18446744073709551615 := by
  unfold zigP
  split <;> omega
theorem zag_range (u : Int) (h0 : 0 ≤ u) (h1 : u ≤ 18446744073709551615) : -9223372036854775808 ≤ zagP u ∧ zagP u ≤ 9223372036854775807 := by
  unfold zagP
  split <;> omega

theorem xor_u64_zero (a : Int) (h0 : 0 ≤ a) (h1 : a ≤ 18446744073709551615) : bits .xor .u64 a 0 = a := by
  obtain ⟨m, rfl⟩ := Int.eq_ofNat_of_zero_le h0
  have := bits_xor_u64_nat m 0 (by omega) (by omega)
  simpa using this
theorem xor_u64_ones (a : Int) (h0 : 0 ≤ a) (h1 : a ≤ 18446744073709551615) : bits .xor .u64 a 18446744073709551615 = 18446744073709551615 - a := by
  obtain ⟨m, rfl⟩ := Int.eq_ofNat_of_zero_le h0
  have h := bits_xor_u64_nat m 18446744073709551615 (by omega) (by omega)
  have e : m ^^^ 18446744073709551615 = 18446744073709551615 - m := by
    have hb : (BitVec.ofNat 64 m ^^^ BitVec.allOnes 64).toNat = (~~~ (BitVec.ofNat 64 m)).toNat := by
      rw [BitVec.xor_allOnes]
    rw [BitVec.toNat_xor, BitVec.toNat_not] at hb
    simp only [BitVec.toNat_ofNat, BitVec.toNat_allOnes] at hb
    rw [Nat.mod_eq_of_lt (by omega)] at hb
    simpa using hb
  rw [e] at h
  have e2 : ((18446744073709551615 - m : Nat) : Int) = 18446744073709551615 - (m : Int) := by omega
  rw [e2] at h
  exact h
theorem zig_code (n : Int) (h0 : -9223372036854775808 ≤ n) (h1 : n ≤ 9223372036854775807) :
    bits .xor .u64 (IntKind.u64.wrap (IntKind.u64.wrap n * 2)) (IntKind.u64.wrap (n / 9223372036854775808)) = zigP n := by
  unfold zigP
  simp only [u64wrap]
  by_cases h : 0 ≤ n
  · rw [if_pos h, show n / 9223372036854775808 % 18446744073709551616 = 0 by omega, show n % 18446744073709551616 * 2 % 18446744073709551616 = 2 * n by omega]
    exact xor_u64_zero _ (by omega) (by omega)
  · rw [if_neg h, show n / 9223372036854775808 % 18446744073709551616 = 18446744073709551615 by omega, show n % 18446744073709551616 * 2 % 18446744073709551616 = 2 * n + 18446744073709551616 by omega]
    rw [xor_u64_ones _ (by omega) (by omega)]
    omega

theorem xor_i64_zero (a : Int) (h0 : 0 ≤ a) (h1 : a ≤ 9223372036854775807) : bits .xor .i64 a 0 = a := by
  rw [bits.eq_3]
  have : (BitVec.ofInt IntKind.i64.bits a ^^^ BitVec.ofInt IntKind.i64.bits 0).toNat = a.toNat := by
    show (BitVec.ofInt 64 a ^^^ BitVec.ofInt 64 0).toNat = a.toNat
    simp
    omega
  rw [this]
  exact (IntWalk.i64_in _ (by omega)).trans (by omega)
theorem xor_i64_ones (a : Int) (h0 : 0 ≤ a) (h1 : a ≤ 9223372036854775807) : bits .xor .i64 a (-1) = -a - 1 := by
  rw [bits.eq_3]
  have : (BitVec.ofInt IntKind.i64.bits a ^^^ BitVec.ofInt IntKind.i64.bits (-1)).toNat = 18446744073709551615 - a.toNat := by
    show (BitVec.ofInt 64 a ^^^ BitVec.ofInt 64 (-1)).toNat = 18446744073709551615 - a.toNat
    rw [show BitVec.ofInt 64 (-1) = BitVec.allOnes 64 by rfl, BitVec.xor_allOnes, BitVec.toNat_not]
    simp
    omega
  rw [this, IntWalk.i64_left]
  unfold wrap64
  omega
theorem zag_code (u : Int) (h0 : 0 ≤ u) (h1 : u ≤ 18446744073709551615) :
    bits .xor .i64 (u / 2) (wrap64 (IntKind.u64.wrap (u * 9223372036854775808)) / 9223372036854775808) = zagP u := by
  unfold zagP
  rw [u64wrap]
  unfold wrap64
  by_cases h : u % 2 = 0
  · rw [if_pos h, show ((u * 9223372036854775808 % 18446744073709551616 + 9223372036854775808) % 18446744073709551616 - 9223372036854775808) / 9223372036854775808 = 0 by omega]
    exact xor_i64_zero _ (by omega) (by omega)
  · rw [if_neg h, show ((u * 9223372036854775808 % 18446744073709551616 + 9223372036854775808) % 18446744073709551616 - 9223372036854775808) / 9223372036854775808 = -1 by omega]
    exact xor_i64_ones _ (by omega) (by omega)

/-! ### Who, Whose -/
def fitsP (n : Int) (k : Int) : Bool := decide (0 ≤ n ∧ n < 2 ^ k.toNat)
def whoP (node life : Int) : Int := if 0 ≤ node ∧ node ≤ 15 ∧ 0 ≤ life ∧ life ≤ 68719476735 then 16 * life + node else -1
def whoseNode (who : Int) : Int := if 0 ≤ who ∧ who ≤ 1099511627775 then who % 16 else -1
def whoseLife (who : Int) : Int := if 0 ≤ who ∧ who ≤ 1099511627775 then who / 16 else -1

theorem fits_code (n : Int) (k : Nat) : (n / 2 ^ k = 0) ↔ (0 ≤ n ∧ n < 2 ^ k) := by
  have hp := pow_pos' k
  have he := Int.mul_ediv_add_emod n (2 ^ k)
  have hn := Int.emod_nonneg n (show (2 ^ k : Int) ≠ 0 by omega)
  have hl := Int.emod_lt_of_pos n hp
  constructor
  · intro h
    rw [h] at he
    simp at he
    omega
  · intro h
    exact Int.ediv_eq_zero_of_lt h.1 h.2
end Go.Proofs.YtimbklggifbibaaGreatDoor.P
