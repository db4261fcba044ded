/- Layer 1's Read: what each call answers, the program's and the document's, for every argument. -/
import Derived.Test.YtimbklggifbibaaGreatDoorShiftStr
namespace Go.Proofs.YtimbklggifbibaaGreatDoor.P
open Go.RowKit
set_option maxHeartbeats 400000
set_option linter.unusedVariables false
set_option maxRecDepth 100000

/-- What stands in bytes from the i-th of a number on, n being told so far: the number, how many bytes, the error. -/
def readR : List UInt8 → Nat → Nat → Nat × Nat × Nat
  | [], _, _ => (0, 0, 2)
  | c :: r, i, n =>
    if (i = 9 ∧ 1 < c.toNat) ∨ (0 < i ∧ c.toNat = 0) then (0, 0, 3)
    else if c.toNat < 128 then (n + 128 ^ i * c.toNat, i + 1, 0)
    else readR r (i + 1) (n + 128 ^ i * (c.toNat % 128))
def readP (l : List UInt8) (a : Int) : Int × Int × Int :=
  if a < 0 ∨ (l.length : Int) < a then (0, 0, 1) else
    if (readR (l.drop a.toNat) 0 0).2.2 = 0 then (((readR (l.drop a.toNat) 0 0).1 : Int), a + ((readR (l.drop a.toNat) 0 0).2.1 : Int), 0) else (0, 0, ((readR (l.drop a.toNat) 0 0).2.2 : Int))

theorem ret_three {k l m : IntKind} {a b c d f g : Int} (h : a = b) (i : c = d) (j : f = g) : Ending.returned (.tuple #[.int k a, .int l c, .int m f]) = .returned (.tuple #[.int k b, .int l d, .int m g]) := by rw [h, i, j]

theorem readP_err {l : List UInt8} {a : Nat} {e : Nat} (ha : a ≤ l.length) (h : readR (l.drop a) 0 0 = (0, 0, e)) (he : e ≠ 0) : readP l a = (0, 0, (e : Int)) := by
  unfold readP
  rw [if_neg (by omega), Int.toNat_natCast, h]
  simp [he]
theorem readP_ok {l : List UInt8} {a : Nat} {v c : Nat} (ha : a ≤ l.length) (h : readR (l.drop a) 0 0 = (v, c, 0)) : readP l a = ((v : Int), (a : Int) + c, 0) := by
  unfold readP
  rw [if_neg (by omega), Int.toNat_natCast, h]
  simp
theorem readP_arg {l : List UInt8} {a : Int} (h : a < 0 ∨ (l.length : Int) < a) : readP l a = (0, 0, 1) := by
  unfold readP; rw [if_pos h]
theorem drop_at (s : ByteArray) (p : Nat) (h : p < s.size) : s.data.toList.drop p = s[p] :: s.data.toList.drop (p + 1) := by
  rw [List.drop_eq_getElem_cons (by simpa using h)]; rfl
theorem readR_bad {c : UInt8} {r : List UInt8} {i n : Nat} (h : (i = 9 ∧ 1 < c.toNat) ∨ (0 < i ∧ c.toNat = 0)) : readR (c :: r) i n = (0, 0, 3) := by
  rw [readR, if_pos h]
theorem readR_stop {c : UInt8} {r : List UInt8} {i n : Nat} (h : ¬ ((i = 9 ∧ 1 < c.toNat) ∨ (0 < i ∧ c.toNat = 0))) (h2 : c.toNat < 128) : readR (c :: r) i n = (n + 128 ^ i * c.toNat, i + 1, 0) := by
  rw [readR, if_neg h, if_pos h2]
theorem readR_more {c : UInt8} {r : List UInt8} {i n : Nat} (h : ¬ ((i = 9 ∧ 1 < c.toNat) ∨ (0 < i ∧ c.toNat = 0))) (h2 : ¬ c.toNat < 128) : readR (c :: r) i n = readR r (i + 1) (n + 128 ^ i * (c.toNat % 128)) := by
  rw [readR, if_neg h, if_neg h2]

theorem pow128 (i : Nat) : (128 : Nat) ^ i = 2 ^ (7 * i) := by rw [Nat.pow_mul]
theorem pow128_le {i : Nat} (h : i ≤ 9) : (128 : Nat) ^ i ≤ 9223372036854775808 := Nat.le_trans (Nat.pow_le_pow_right (by decide) h) (by decide)
theorem pow128_le8 {i : Nat} (h : i ≤ 8) : (128 : Nat) ^ i ≤ 72057594037927936 := Nat.le_trans (Nat.pow_le_pow_right (by decide) h) (by decide)
/-- How much a byte adds at most. -/
theorem add_lt {c i n : Nat} (hi : i ≤ 9) (hn : n < 128 ^ i) (hc : c < 256) (h9 : i = 9 → c ≤ 1) : n + 128 ^ i * (c % 128) < 18446744073709551616 ∧ n + 128 ^ i * (c % 128) < 128 ^ (i + 1) ∧ 128 ^ i * (c % 128) < 18446744073709551616 := by
  have h1 : n + 128 ^ i * (c % 128) < 128 ^ (i + 1) := by
    have : 128 ^ i * (c % 128) ≤ 128 ^ i * 127 := Nat.mul_le_mul_left _ (by omega)
    rw [Nat.pow_succ]; omega
  by_cases h : i = 9
  · subst h
    have := h9 rfl
    have h2 : 128 ^ 9 * (c % 128) ≤ 128 ^ 9 * 1 := Nat.mul_le_mul_left _ (by omega)
    have h3 := pow128_le (Nat.le_refl 9)
    omega
  · have h3 := pow128_le (show i + 1 ≤ 9 by omega)
    omega
theorem or_read (n i c : Nat) (hi : i ≤ 9) (hn : n < 128 ^ i) (hc : c < 256) (h9 : i = 9 → c ≤ 1) :
    bits .or .u64 (n : Int) (IntKind.u64.wrap (lowP c 7 * 2 ^ (i * 7))) = ((n + 128 ^ i * (c % 128) : Nat) : Int) := by
  obtain ⟨a1, a2, a3⟩ := add_lt hi hn hc h9
  rw [low_mid _ _ (by omega) (by omega)]
  have e1 : ((c : Int) % 2 ^ (7 : Int).toNat) * 2 ^ (i * 7) = ((128 ^ i * (c % 128) : Nat) : Int) := by
    rw [Nat.mul_comm i 7, pow128, show ((2 : Int) ^ (7 : Int).toNat) = 128 by decide, Int.natCast_mul, Int.natCast_pow, Int.mul_comm]
    rfl
  rw [e1, IntWalk.u64_in _ (by omega)]
  rw [u64_or_nat _ _ (by omega) (by omega)]
  have hn' : n < 2 ^ (7 * i) := by rw [← pow128]; exact hn
  have h3 := Nat.two_pow_add_eq_or_of_lt hn' (c % 128)
  rw [pow128] at *
  rw [Nat.or_comm, ← h3]
  omega

theorem p63 {j : Nat} (h : j = 9) : (2 : Int) ^ (j * 7) = 9223372036854775808 := by rw [h]; decide

theorem read_any (s : ByteArray) (a : Int) (w : World) (h0 : -9223372036854775808 ≤ a) (h1 : a ≤ 9223372036854775807) (hs : s.size ≤ 1000000) :
    Calls Tryz.prog 92 #[.string s, .int .i64 a] w fun e w' => e = .returned (.tuple #[.int .u64 (readP s.data.toList a).1, .int .i64 (readP s.data.toList a).2.1, .int .i64 (readP s.data.toList a).2.2]) ∧ w = w' := by
  have hlen : s.data.toList.length = s.size := by simp
  by_cases ha : a < 0
  · rw [readP_arg (.inl ha)]
    clear hlen
    go_enter Tryz.func92, Tryz.ntmps92
    go_wp2
    go_ret3
    exact ⟨rfl, rfl⟩
  · by_cases hb : (s.size : Int) < a
    · rw [readP_arg (.inr (by rw [hlen]; exact hb))]
      clear hlen
      go_enter Tryz.func92, Tryz.ntmps92
      go_wp2
      go_ret3
      exact ⟨rfl, rfl⟩
    · obtain ⟨q, rfl⟩ := Int.eq_ofNat_of_zero_le (show 0 ≤ a by omega)
      have HL := Lib.hid hlen
      clear hlen
      go_enter Tryz.func92, Tryz.ntmps92
      go_wp2
      go_loop [1, 7, 8] (fun p n i => ∃ (j m : Nat), p = .int .i64 ((q + j : Nat) : Int) ∧ n = .int .u64 (m : Int) ∧ i = .int .i64 (j : Int) ∧ q + j ≤ s.size ∧ j ≤ 9 ∧ m < 128 ^ j ∧ readR (s.data.toList.drop q) 0 0 = readR (s.data.toList.drop (q + j)) j m) (fun p _ _ => s.size - (intOf p).toNat)
      case atStart => exact ⟨0, 0, rfl, rfl, rfl, by omega, by omega, by simp, rfl⟩
      case round =>
        obtain ⟨j, m, rfl, rfl, rfl, hp, hj, hm, hr⟩ := hrel
        have hq : q ≤ s.data.toList.length := by rw [HL.out]; omega
        by_cases hcut : q + j = s.size
        · have hd : s.data.toList.drop (q + j) = [] := List.drop_eq_nil_of_le (by rw [HL.out]; omega)
          rw [hd] at hr
          have HR := Lib.hid (readP_err hq hr (by decide))
          clear hd hr
          go_wp2
          go_ret3
          exact ⟨by rw [HR.out]; rfl, rfl⟩
        · have hlt : q + j < s.size := by omega
          have hc := s[q + j].toNat_lt
          rw [drop_at s (q + j) hlt] at hr
          by_cases hbad : (j = 9 ∧ 1 < s[q + j].toNat) ∨ (0 < j ∧ s[q + j].toNat = 0)
          · rw [readR_bad hbad] at hr
            have HR := Lib.hid (readP_err hq hr (by decide))
            clear hr
            by_cases h9 : 9 ≤ j
            · by_cases hc1 : 1 < s[q + j].toNat
              · go_wp2
                go_ret3
                exact ⟨by rw [HR.out]; rfl, rfl⟩
              · have hz : ((s[q + j].toNat : Int) == 0) = true := by simp; omega
                have hz1 : (s[q + j].toNat : Int) ≤ 1 := by omega
                go_wp2
                go_ret3
                exact ⟨by rw [HR.out]; rfl, rfl⟩
            · have hz : s[q + j].toNat ≤ 0 := by omega
              have hj0 : 0 < j := by omega
              go_wp2
              go_ret3
              exact ⟨by rw [HR.out]; rfl, rfl⟩
          · by_cases hstop : s[q + j].toNat < 128
            · rw [readR_stop hbad hstop] at hr
              have HO := Lib.hid (or_read m j s[q + j].toNat hj hm (by omega) (by omega))
              have HR := Lib.hid (readP_ok hq hr)
              have HM := Lib.hid (Nat.mod_eq_of_lt hstop)
              clear hr hm
              by_cases h9 : 9 ≤ j
              · have hc1 : 1 ≤ s[q + j].toNat := by omega
                have hc2 : s[q + j].toNat ≤ 1 := by omega
                have hz : ((s[q + j].toNat : Int) == 0) = false := by simp; omega
                go_wp2_with ((with_reducible refine (low_any _ _ _ (by omega) (by omega) (by omega) (by omega)).mono ?_); rintro e w' ⟨rfl, rfl⟩)
                go_ret3
                exact ⟨by rw [HR.out]; exact ret_three (by rw [← p63 (show j = 9 by omega), HO.out, HM.out]) (by simp only; omega) rfl, rfl⟩
              · by_cases hz : 0 < j
                · have hc1 : 1 ≤ s[q + j].toNat := by omega
                  go_wp2_with ((with_reducible refine (low_any _ _ _ (by omega) (by omega) (by omega) (by omega)).mono ?_); rintro e w' ⟨rfl, rfl⟩)
                  go_ret3
                  exact ⟨by rw [HR.out]; exact ret_three (by rw [HO.out, HM.out]) (by simp only; omega) rfl, rfl⟩
                · go_wp2_with ((with_reducible refine (low_any _ _ _ (by omega) (by omega) (by omega) (by omega)).mono ?_); rintro e w' ⟨rfl, rfl⟩)
                  go_ret3
                  exact ⟨by rw [HR.out]; exact ret_three (by rw [HO.out, HM.out]) (by simp only; omega) rfl, rfl⟩
            · rw [readR_more hbad hstop] at hr
              have HO := Lib.hid (or_read m j s[q + j].toNat hj hm (by omega) (by omega))
              have HA := Lib.hid (add_lt hj hm (by omega) (show j = 9 → s[q + j].toNat ≤ 1 by omega))
              have HR := Lib.hid hr
              have hj8 : j ≤ 8 := by omega
              clear hr hm
              by_cases hz : 0 < j
              · have hc1 : 1 ≤ s[q + j].toNat := by omega
                go_wp2_with ((with_reducible refine (low_any _ _ _ (by omega) (by omega) (by omega) (by omega)).mono ?_); rintro e w' ⟨rfl, rfl⟩)
                go_round
                case rel => exact ⟨j + 1, _, by go_num, by rw [HO.out], by go_num, by omega, by omega, HA.out.2.1, HR.out⟩
                case measure => simp [intOf]; omega
              · go_wp2_with ((with_reducible refine (low_any _ _ _ (by omega) (by omega) (by omega) (by omega)).mono ?_); rintro e w' ⟨rfl, rfl⟩)
                go_round
                case rel => exact ⟨j + 1, _, by go_num, by rw [HO.out], by go_num, by omega, by omega, HA.out.2.1, HR.out⟩
                case measure => simp [intOf]; omega

theorem add_ref (m j c : Nat) (hi : j ≤ 9) (hn : m < 128 ^ j) (hc : c < 256) (h9 : j = 9 → c ≤ 1) :
    IntKind.u64.wrap ((m : Int) + IntKind.u64.wrap (((128 ^ j : Nat) : Int) * ((c : Int) % 128))) = ((m + 128 ^ j * (c % 128) : Nat) : Int) := by
  obtain ⟨a1, a2, a3⟩ := add_lt hi hn hc h9
  have e : ((128 ^ j : Nat) : Int) * ((c : Int) % 128) = ((128 ^ j * (c % 128) : Nat) : Int) := by rw [Int.natCast_mul]; rfl
  generalize 128 ^ j * (c % 128) = x at *
  rw [e, IntWalk.u64_in (x : Int) (by omega), IntWalk.u64_in _ (by omega)]
  omega
theorem weight_step (j : Nat) : ((128 ^ j : Nat) : Int) * 128 = ((128 ^ (j + 1) : Nat) : Int) := by rw [Nat.pow_succ, Int.natCast_mul]; rfl

theorem read_ref (s : ByteArray) (a : Int) (w : World) (h0 : -9223372036854775808 ≤ a) (h1 : a ≤ 9223372036854775807) (hs : s.size ≤ 1000000) :
    Calls Tryz.prog 60 #[.string s, .int .i64 a] w fun e w' => e = .returned (.tuple #[.int .u64 (readP s.data.toList a).1, .int .i64 (readP s.data.toList a).2.1, .int .i64 (readP s.data.toList a).2.2]) ∧ w = w' := by
  have hlen : s.data.toList.length = s.size := by simp
  by_cases ha : a < 0
  · rw [readP_arg (.inl ha)]
    clear hlen
    go_enter Tryz.func60, Tryz.ntmps60
    go_wp2
    go_ret3
    exact ⟨rfl, rfl⟩
  · by_cases hb : (s.size : Int) < a
    · rw [readP_arg (.inr (by rw [hlen]; exact hb))]
      clear hlen
      go_enter Tryz.func60, Tryz.ntmps60
      go_wp2
      go_ret3
      exact ⟨rfl, rfl⟩
    · obtain ⟨q, rfl⟩ := Int.eq_ofNat_of_zero_le (show 0 ≤ a by omega)
      have HL := Lib.hid hlen
      clear hlen
      go_enter Tryz.func60, Tryz.ntmps60
      go_wp2
      go_loop [7, 8, 9] (fun n v i => ∃ (j m : Nat), n = .int .u64 (m : Int) ∧ v = .int .u64 ((128 ^ j : Nat) : Int) ∧ i = .int .i64 (j : Int) ∧ q + j ≤ s.size ∧ j ≤ 9 ∧ m < 128 ^ j ∧ readR (s.data.toList.drop q) 0 0 = readR (s.data.toList.drop (q + j)) j m) (fun _ _ i => 10 - (intOf i).toNat)
      case atStart => exact ⟨0, 0, rfl, rfl, rfl, by omega, by omega, by simp, rfl⟩
      case round =>
        obtain ⟨j, m, rfl, rfl, rfl, hp, hj, hm, hr⟩ := hrel
        have hq : q ≤ s.data.toList.length := by rw [HL.out]; omega
        by_cases hcut : q + j = s.size
        · have hd : s.data.toList.drop (q + j) = [] := List.drop_eq_nil_of_le (by rw [HL.out]; omega)
          rw [hd] at hr
          have HR := Lib.hid (readP_err hq hr (by decide))
          have hcut2 : s.size ≤ q + j := by omega
          clear hd hr hcut hm
          generalize ((128 ^ j : Nat) : Int) = W at *
          go_wp2
          go_ret3
          exact ⟨by rw [HR.out]; rfl, rfl⟩
        · have hlt : q + j < s.size := by omega
          have hc := s[q + j].toNat_lt
          rw [drop_at s (q + j) hlt] at hr
          by_cases hbad : (j = 9 ∧ 1 < s[q + j].toNat) ∨ (0 < j ∧ s[q + j].toNat = 0)
          · rw [readR_bad hbad] at hr
            have HR := Lib.hid (readP_err hq hr (by decide))
            clear hr hm
            generalize ((128 ^ j : Nat) : Int) = W at *
            by_cases h9 : 9 ≤ j
            · by_cases hc1 : 1 < s[q + j].toNat
              · go_wp2
                go_ret3
                exact ⟨by rw [HR.out]; rfl, rfl⟩
              · have hz : ((s[q + j].toNat : Int) == 0) = true := by simp; omega
                have hz1 : (s[q + j].toNat : Int) ≤ 1 := by omega
                go_wp2
                go_ret3
                exact ⟨by rw [HR.out]; rfl, rfl⟩
            · have hz : s[q + j].toNat ≤ 0 := by omega
              have hj0 : 0 < j := by omega
              go_wp2
              go_ret3
              exact ⟨by rw [HR.out]; rfl, rfl⟩
          · by_cases hstop : s[q + j].toNat < 128
            · rw [readR_stop hbad hstop] at hr
              have HO := Lib.hid (add_ref m j s[q + j].toNat hj hm (by omega) (by omega))
              have HR := Lib.hid (readP_ok hq hr)
              have HM := Lib.hid (Nat.mod_eq_of_lt hstop)
              clear hr hm
              generalize ((128 ^ j : Nat) : Int) = W at *
              by_cases h9 : 9 ≤ j
              · have hc1 : 1 ≤ s[q + j].toNat := by omega
                have hc2 : s[q + j].toNat ≤ 1 := by omega
                have hz : ((s[q + j].toNat : Int) == 0) = false := by simp; omega
                go_wp2
                go_ret3
                exact ⟨by rw [HR.out]; exact ret_three (by rw [HO.out, HM.out]) (by simp only; omega) rfl, rfl⟩
              · by_cases hz : 0 < j
                · have hc1 : 1 ≤ s[q + j].toNat := by omega
                  go_wp2
                  go_ret3
                  exact ⟨by rw [HR.out]; exact ret_three (by rw [HO.out, HM.out]) (by simp only; omega) rfl, rfl⟩
                · go_wp2
                  go_ret3
                  exact ⟨by rw [HR.out]; exact ret_three (by rw [HO.out, HM.out]) (by simp only; omega) rfl, rfl⟩
            · rw [readR_more hbad hstop] at hr
              have HO := Lib.hid (add_ref m j s[q + j].toNat hj hm (by omega) (by omega))
              have HA := Lib.hid (add_lt hj hm (by omega) (show j = 9 → s[q + j].toNat ≤ 1 by omega))
              have HR := Lib.hid hr
              have hj8 : j ≤ 8 := by omega
              have HW := Lib.hid (weight_step j)
              have hW := pow128_le8 hj8
              have hW0 : 0 ≤ ((128 ^ j : Nat) : Int) := Int.natCast_nonneg _
              have hW1 : ((128 ^ j : Nat) : Int) ≤ 72057594037927936 := by omega
              clear hr hm hW
              generalize ((128 ^ j : Nat) : Int) = W at *
              by_cases hz : 0 < j
              · have hc1 : 1 ≤ s[q + j].toNat := by omega
                go_wp2
                go_round
                case rel => exact ⟨j + 1, _, by rw [HO.out], by rw [← HW.out], by go_num, by omega, by omega, HA.out.2.1, HR.out⟩
                case measure => simp [intOf]; omega
              · go_wp2
                go_round
                case rel => exact ⟨j + 1, _, by rw [HO.out], by rw [← HW.out], by go_num, by omega, by omega, HA.out.2.1, HR.out⟩
                case measure => simp [intOf]; omega
end Go.Proofs.YtimbklggifbibaaGreatDoor.P
