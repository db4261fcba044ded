/- Layer 1, plain: what is written is read, and there is one way; numbers as bytes stand in their order. -/
import Derived.Test.YtimbklggifbibaaGreatDoorShiftRead
namespace Go.Proofs.YtimbklggifbibaaGreatDoor.P
open Go.RowKit
set_option linter.unusedVariables false
set_option maxRecDepth 100000

/-! ### Var and Read -/
theorem ofNat_toNat (n : Nat) (h : n < 256) : (UInt8.ofNat n).toNat = n := by
  simp; omega
/-- A number that was written is read. -/
theorem read_var (rest : List UInt8) : ∀ (f q i m : Nat), i + f = 9 → q < 2 ^ (1 + 7 * f) → (0 < i → 0 < q) → readR (varF f q ++ rest) i m = (m + 128 ^ i * q, i + (varF f q).length, 0)
  | 0, q, i, m, hi, hq, h0 => by
    have hi9 : i = 9 := by omega
    subst hi9
    have hq2 : q < 2 := hq
    have hq1 : q = 1 := by have := h0 (by omega); omega
    subst hq1
    rfl
  | f + 1, q, i, m, hi, hq, h0 => by
    by_cases hlt : q < 128
    · rw [varF_lt _ _ hlt, List.singleton_append]
      have e := ofNat_toNat q (by omega)
      rw [readR_stop (by rw [e]; omega) (by rw [e]; exact hlt), e]
      rfl
    · rw [varF_ge _ _ hlt, List.cons_append]
      have e := ofNat_toNat (q % 128 + 128) (by omega)
      rw [readR_more (by rw [e]; omega) (by rw [e]; omega), e]
      rw [show 1 + 7 * (f + 1) = 1 + 7 * f + 7 by omega, Nat.pow_add] at hq
      rw [read_var rest f (q / 128) (i + 1) _ (by omega) (by omega) (by omega)]
      rw [show (q % 128 + 128) % 128 = q % 128 by omega]
      refine Prod.ext ?_ (Prod.ext ?_ rfl)
      · show m + 128 ^ i * (q % 128) + 128 ^ (i + 1) * (q / 128) = m + 128 ^ i * q
        rw [Nat.pow_succ, Nat.add_assoc, Nat.mul_assoc, ← Nat.mul_add]
        congr 2
        omega
      · show i + 1 + (varF f (q / 128)).length = i + (UInt8.ofNat (q % 128 + 128) :: varF f (q / 128)).length
        simp only [List.length_cons]; omega
/-- What is read is what is written of the number: there is one way. -/
theorem var_read : ∀ (l : List UInt8) (i m v c : Nat), i ≤ 9 → readR l i m = (v, c, 0) →
    ∃ q, v = m + 128 ^ i * q ∧ q < 2 ^ (1 + 7 * (9 - i)) ∧ i < c ∧ c - i ≤ l.length ∧ l.take (c - i) = varF (9 - i) q
  | [], i, m, v, c, hi, h => by simp [readR] at h
  | b :: r, i, m, v, c, hi, h => by
    have hb := b.toNat_lt
    by_cases hbad : (i = 9 ∧ 1 < b.toNat) ∨ (0 < i ∧ b.toNat = 0)
    · rw [readR_bad hbad] at h
      simp at h
    · by_cases hs : b.toNat < 128
      · rw [readR_stop hbad hs] at h
        simp only [Prod.mk.injEq, and_true] at h
        obtain ⟨rfl, rfl⟩ := h
        refine ⟨b.toNat, rfl, ?_, by omega, by simp only [List.length_cons]; omega, ?_⟩
        · by_cases h9 : i = 9
          · subst h9; show b.toNat < 2; omega
          · have : 2 ^ 8 ≤ 2 ^ (1 + 7 * (9 - i)) := Nat.pow_le_pow_right (by decide) (by omega)
            omega
        · rw [show i + 1 - i = 1 by omega, varF_lt _ _ hs]
          simp
      · rw [readR_more hbad hs] at h
        have hi8 : i + 1 ≤ 9 := by omega
        obtain ⟨q, h1, h2, h3, h4, h5⟩ := var_read r (i + 1) _ v c hi8 h
        have hq0 : 1 ≤ q := by
          rcases Nat.eq_zero_or_pos q with hz | hz
          · subst hz
            exfalso
            -- a last byte of 0 is no number's
            cases r with
            | nil => simp [readR] at h
            | cons b2 r2 =>
              rw [varF_lt _ _ (by decide)] at h5
              have hc1 : c - (i + 1) = 1 := by
                have := congrArg List.length h5
                rw [List.length_take] at this
                simp only [List.length_cons, List.length_nil] at this h4
                omega
              rw [hc1] at h5
              simp only [List.take_succ_cons, List.take_zero, List.cons.injEq, and_true] at h5
              have hb2 : b2.toNat = 0 := by rw [h5]; rfl
              rw [readR_bad (.inr ⟨by omega, hb2⟩)] at h
              simp at h
          · exact hz
        refine ⟨128 * q + b.toNat % 128, ?_, ?_, by omega, by simp only [List.length_cons]; omega, ?_⟩
        · rw [h1, Nat.pow_succ, Nat.mul_add, Nat.mul_assoc]; omega
        · rw [show 1 + 7 * (9 - i) = 1 + 7 * (9 - (i + 1)) + 7 by omega, Nat.pow_add]
          omega
        · rw [show c - i = (c - (i + 1)) + 1 by omega, List.take_succ_cons, h5]
          rw [show 9 - i = (9 - (i + 1)) + 1 by omega, varF_ge _ _ (by omega)]
          rw [show (128 * q + b.toNat % 128) / 128 = q by omega, show (128 * q + b.toNat % 128) % 128 + 128 = b.toNat by omega]
          simp

theorem varF_length (f q : Nat) : 1 ≤ (varF f q).length ∧ (varF f q).length ≤ f + 1 := by
  induction f generalizing q with
  | zero => simp [varF]
  | succ f ih =>
    by_cases h : q < 128
    · rw [varF_lt _ _ h]; simp
    · rw [varF_ge _ _ h]
      have := ih (q / 128)
      simp only [List.length_cons]; omega
theorem varL_length (q : Nat) : 1 ≤ (varL q).length ∧ (varL q).length ≤ 10 := varF_length 9 q
theorem varF_mono (f a b : Nat) (h : a ≤ b) : (varF f a).length ≤ (varF f b).length := by
  induction f generalizing a b with
  | zero => simp [varF]
  | succ f ih =>
    by_cases ha : a < 128
    · rw [varF_lt _ _ ha]; have := varF_length (f + 1) b; simp only [List.length_cons, List.length_nil]; omega
    · rw [varF_ge _ _ ha, varF_ge _ _ (by omega)]
      have := ih (a / 128) (b / 128) (by omega)
      simp only [List.length_cons]; omega

/-- Behind s what was written of n is read, whatever follows. -/
theorem read_back (s rest : List UInt8) (n : Nat) (hn : n < 18446744073709551616) :
    readP (s ++ (varL n ++ rest)) (s.length : Int) = ((n : Int), (s.length : Int) + ((varL n).length : Int), 0) := by
  have h := read_var rest 9 n 0 0 rfl hn (by omega)
  have hd : (s ++ (varL n ++ rest)).drop s.length = varF 9 n ++ rest := by rw [List.drop_left]; rfl
  have := readP_ok (l := s ++ (varL n ++ rest)) (a := s.length) (by simp) (by rw [hd]; exact h)
  rw [this]
  simp [varL]
/-- What is read at a place is what is written of the number. -/
theorem back_read (l : List UInt8) (a v p : Int) (h : readP l a = (v, p, 0)) :
    0 ≤ a ∧ a < p ∧ p ≤ (l.length : Int) ∧ 0 ≤ v ∧ v ≤ 18446744073709551615 ∧ varL v.toNat = (l.drop a.toNat).take (p.toNat - a.toNat) := by
  unfold readP at h
  by_cases hout : a < 0 ∨ (l.length : Int) < a
  · rw [if_pos hout] at h
    simp at h
  · rw [if_neg hout] at h
    generalize hr : readR (l.drop a.toNat) 0 0 = r at h
    obtain ⟨n, c, e⟩ := r
    by_cases he : e = 0
    · subst he
      simp only [if_true, Prod.mk.injEq, and_true] at h
      obtain ⟨rfl, rfl⟩ := h
      obtain ⟨q, h1, h2, h3, h4, h5⟩ := var_read _ 0 0 n c (by omega) hr
      simp only [Nat.pow_zero, Nat.one_mul, Nat.zero_add, Nat.sub_zero] at h1 h4 h5
      subst h1
      have hq : n < 18446744073709551616 := by omega
      rw [List.length_drop] at h4
      refine ⟨by omega, by omega, by omega, by omega, by omega, ?_⟩
      rw [Int.toNat_natCast, show (a + (c : Int)).toNat - a.toNat = c by omega, h5]
      rfl
    · rw [if_neg he] at h
      simp only [Prod.mk.injEq] at h
      omega
theorem readP_bad (l : List UInt8) (a : Int) (h : (readP l a).2.2 ≠ 0) : (readP l a).1 = 0 ∧ (readP l a).2.1 = 0 := by
  unfold readP at *
  split
  · exact ⟨rfl, rfl⟩
  · rename_i hn
    rw [if_neg hn] at h
    split
    · rename_i h2; rw [if_pos h2] at h; simp at h
    · exact ⟨rfl, rfl⟩
theorem readP_range (l : List UInt8) (a : Int) : 0 ≤ (readP l a).2.2 ∧ (readP l a).2.2 ≤ 3 := by
  have key : ∀ (l : List UInt8) (i m : Nat), (readR l i m).2.2 ≤ 3 := by
    intro l
    induction l with
    | nil => intro i m; simp [readR]
    | cons b r ih =>
      intro i m
      unfold readR
      split
      · simp
      · split
        · simp
        · exact ih _ _
  unfold readP
  split
  · simp
  · split
    · simp
    · have := key (l.drop a.toNat) 0 0
      simp only; omega

/-! ### Wide and Narrow -/
theorem wideL_succ (n k : Nat) : wideL n (k + 1) = wideL (n / 256) k ++ [UInt8.ofNat n] := by
  induction k with
  | zero => simp [wideL]
  | succ k ih =>
    rw [wideL, ih]
    rw [show n / 256 ^ (k + 1) = n / 256 / 256 ^ k by rw [Nat.pow_succ, Nat.mul_comm, Nat.div_div_eq_div_mul]]
    rfl
theorem narrow_wide (n k : Nat) : narrowN (wideL n k) = n % 256 ^ k := by
  induction k generalizing n with
  | zero => simp [wideL, narrowN, Nat.mod_one]
  | succ k ih =>
    rw [wideL_succ, narrowN_snoc, ih]
    rw [show 256 ^ (k + 1) = 256 * 256 ^ k by rw [Nat.pow_succ, Nat.mul_comm], Nat.mod_mul]
    have e : (UInt8.ofNat n).toNat = n % 256 := by simp
    omega
end Go.Proofs.YtimbklggifbibaaGreatDoor.P
