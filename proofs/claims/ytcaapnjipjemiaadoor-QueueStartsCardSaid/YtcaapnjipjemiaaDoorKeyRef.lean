/- Layer 2, the document's own answers: prefixes, tickets, flags, ids. -/
import Derived.Test.YtcaapnjipjemiaaDoorKeyMath
namespace Go.Proofs.YtcaapnjipjemiaaDoor.P
open Go.RowKit
set_option maxHeartbeats 1000000
set_option linter.unusedVariables false
set_option maxRecDepth 100000



theorem name_ref_yes (s : ByteArray) (w : World) (hs : s.size ≤ maxLen) (hn : nameL s.data.toList = true) :
    Calls Tryd.prog 19 #[.string s] w fun e w' => e = .returned (.bool true) ∧ w = w' :=
  (name_ref s w hs).mono fun e w' h => ⟨h.1.trans (by rw [hn]), h.2⟩
theorem name_ref_no (s : ByteArray) (w : World) (hs : s.size ≤ maxLen) (hn : nameL s.data.toList = false) :
    Calls Tryd.prog 19 #[.string s] w fun e w' => e = .returned (.bool false) ∧ w = w' :=
  (name_ref s w hs).mono fun e w' h => ⟨h.1.trans (by rw [hn]), h.2⟩
theorem prefix_ref_yes (k : Nat) (s : ByteArray) (w : World) (h0 : 1 ≤ k) (h1 : k ≤ 8) (hn : nameL s.data.toList = true) :
    Calls Tryd.prog 21 #[.int .i64 (k : Int), .string s] w fun e w' => e = .returned (.tuple #[.string (prefixB k s), .bool true]) ∧ w = w' := by
  obtain ⟨n1, n2⟩ := nameL_size hn
  have HM := Lib.hid (show s.size ≤ maxLen by unfold maxLen; omega)
  have HN := Lib.hid hn
  have hk : k = 1 ∨ k = 2 ∨ k = 3 ∨ k = 4 ∨ k = 5 ∨ k = 6 ∨ k = 7 ∨ k = 8 := by omega
  clear hn h0 h1
  rcases hk with rfl | rfl | rfl | rfl | rfl | rfl | rfl | rfl
  all_goals
    go_enter Tryd.func21, Tryd.ntmps21
    go_wp2_with fail
    refine (name_ref_yes s _ HM.out HN.out).mono ?_; rintro e w' ⟨rfl, rfl⟩
    go_wp2
    go_ret2
    exact ⟨rfl, rfl⟩
theorem prefix_ref_no (k : Int) (s : ByteArray) (w : World) (h : ¬ (1 ≤ k ∧ k ≤ 8 ∧ nameL s.data.toList = true)) (hm : s.size ≤ maxLen) :
    Calls Tryd.prog 21 #[.int .i64 k, .string s] w fun e w' => e = .returned (.tuple #[.string ⟨#[]⟩, .bool false]) ∧ w = w' := by
  have HM := Lib.hid hm
  by_cases hk : k < 1
  · clear hm h
    go_enter Tryd.func21, Tryd.ntmps21
    go_wp2
    go_ret2
    exact ⟨rfl, rfl⟩
  · by_cases hk2 : 8 < k
    · clear hm h
      go_enter Tryd.func21, Tryd.ntmps21
      go_wp2
      go_ret2
      exact ⟨rfl, rfl⟩
    · have hn : nameL s.data.toList = false := by
        cases hh : nameL s.data.toList
        · rfl
        · exact absurd ⟨by omega, by omega, hh⟩ h
      have HN := Lib.hid hn
      have hkk : k = 1 ∨ k = 2 ∨ k = 3 ∨ k = 4 ∨ k = 5 ∨ k = 6 ∨ k = 7 ∨ k = 8 := by omega
      clear hn hm h hk hk2
      rcases hkk with rfl | rfl | rfl | rfl | rfl | rfl | rfl | rfl
      all_goals
        go_enter Tryd.func21, Tryd.ntmps21
        go_wp2_with fail
        refine (name_ref_no s _ HM.out HN.out).mono ?_; rintro e w' ⟨rfl, rfl⟩
        go_wp2
        go_ret2
        exact ⟨rfl, rfl⟩
theorem dig_cut (x : Nat) (h : x < 16) : (⟨#[48, 49, 50, 51, 52, 53, 54, 55, 56, 57, 97, 98, 99, 100, 101, 102]⟩ : ByteArray).extract x (x + 1) = ⟨#[hexD x]⟩ := by
  have : ∀ y : Fin 16, (⟨#[48, 49, 50, 51, 52, 53, 54, 55, 56, 57, 97, 98, 99, 100, 101, 102]⟩ : ByteArray).extract y.1 (y.1 + 1) = ⟨#[hexD y.1]⟩ := by decide
  exact this ⟨x, h⟩
theorem hex_more (m j : Nat) : (⟨#[hexD (m / 16 ^ j % 16)]⟩ : ByteArray) ++ ⟨(hexL m j).toArray⟩ = ⟨(hexL m (j + 1)).toArray⟩ := by
  apply ext_list
  rw [app_list]
  show [hexD (m / 16 ^ j % 16)] ++ (hexL m j).toArray.toList = (hexL m (j + 1)).toArray.toList
  rw [List.toList_toArray, List.toList_toArray]
  rfl
theorem hexP_size (m j : Nat) : (⟨(hexL m j).toArray⟩ : ByteArray).size = j := by
  show (hexL m j).toArray.size = j
  rw [List.size_toArray, hexL_length]
theorem ticket_ref_yes (k : Nat) (s : ByteArray) (n : Int) (w : World) (h0 : 1 ≤ k) (h1 : k ≤ 8) (hn : nameL s.data.toList = true) (n0 : 0 ≤ n) (n1 : n ≤ 1099511627775) :
    Calls Tryd.prog 25 #[.int .i64 (k : Int), .string s, .int .i64 n] w fun e w' => e = .returned (.tuple #[.string (ticketB k s n.toNat), .bool true]) ∧ w = w' := by
  obtain ⟨m, rfl⟩ := Int.eq_ofNat_of_zero_le n0
  obtain ⟨m1, m2⟩ := nameL_size hn
  have hps := prefix_size h0 h1 s
  have hp3 : (prefixB k s).size ≤ 15 := by omega
  have HN := Lib.hid hn
  clear hn hps
  go_enter Tryd.func25, Tryd.ntmps25
  go_wp2_with fail
  refine (prefix_ref_yes k s _ h0 h1 HN.out).mono ?_; rintro e w' ⟨rfl, rfl⟩
  go_wp2
  go_loop [2, 11, 12] (fun d t i => ∃ j : Nat, j ≤ 10 ∧ i = .int .i64 (j : Int) ∧ d = .int .i64 ((m / 16 ^ j : Nat) : Int) ∧ t = .string ⟨(hexL m j).toArray⟩) (fun _ _ i => 10 - (intOf i).toNat)
  case atStart => exact ⟨0, by omega, rfl, by simp, rfl⟩
  case round =>
    obtain ⟨j, hj, rfl, rfl, rfl⟩ := hrel
    have hsz := hexP_size m j
    by_cases hlt : j < 10
    · have hx := dig_cut (m / 16 ^ j % 16) (by omega)
      have hmore := hex_more m j
      have hst := hex_step m j
      have hd0 : m / 16 ^ j ≤ 1099511627775 := Nat.le_trans (Nat.div_le_self _ _) (by omega)
      have hs3 : (⟨(hexL m j).toArray⟩ : ByteArray).size ≤ 10 := by omega
      generalize m / 16 ^ j = d at *
      rw [← hx] at hmore
      have HX := Lib.hid hmore
      have HS := Lib.hid hst
      have hd16 : d % 16 < 16 := by omega
      have hxs : ((⟨#[48, 49, 50, 51, 52, 53, 54, 55, 56, 57, 97, 98, 99, 100, 101, 102]⟩ : ByteArray).extract (d % 16) (d % 16 + 1)).size ≤ 1 := by rw [hx]; exact Nat.le_refl _
      have hsl : ∀ w, (Instr.slice 9 (.string ⟨#[48, 49, 50, 51, 52, 53, 54, 55, 56, 57, 97, 98, 99, 100, 101, 102]⟩) (some (.int .i64 ((d : Int) % 16))) (some (.int .i64 ((d : Int) % 16 + 1))) none).run Tryd.prog w = .ok (.string ((⟨#[48, 49, 50, 51, 52, 53, 54, 55, 56, 57, 97, 98, 99, 100, 101, 102]⟩ : ByteArray).extract (d % 16) (d % 16 + 1))) w := by
        intro w
        rw [run_slice_string w 9 _ _ _ ((d : Int) % 16) ((d : Int) % 16 + 1) Tryd.underlying9 (by omega) (by omega) (by show _ ≤ ((16 : Nat) : Int); omega)]
        rw [show ((d : Int) % 16).toNat = d % 16 by omega, show ((d : Int) % 16 + 1).toNat = d % 16 + 1 by omega]
      clear hmore hst hx hsz
      generalize (⟨(hexL m j).toArray⟩ : ByteArray) = t at *
      generalize (⟨#[48, 49, 50, 51, 52, 53, 54, 55, 56, 57, 97, 98, 99, 100, 101, 102]⟩ : ByteArray).extract (d % 16) (d % 16 + 1) = u at *
      go_wp2
      go_round
      case rel => exact ⟨j + 1, by omega, by go_num, by rw [HS.out], by rw [HX.out]⟩
      case measure => simp [intOf]; omega
    · have e : j = 10 := by omega
      have hs3 : (⟨(hexL m j).toArray⟩ : ByteArray).size ≤ 10 := by omega
      subst e
      have HQ := Lib.hid (show ticketB k s m = prefixB k s ++ ⟨(hexL m 10).toArray⟩ from rfl)
      clear hsz
      generalize (⟨(hexL m 10).toArray⟩ : ByteArray) = t at *
      go_wp2
      go_ret2
      exact ⟨by rw [HQ.out]; rfl, rfl⟩
theorem ticket_ref_no (k : Int) (s : ByteArray) (n : Int) (w : World) (h : ¬ (1 ≤ k ∧ k ≤ 8 ∧ nameL s.data.toList = true ∧ 0 ≤ n ∧ n ≤ 1099511627775)) (hm : s.size ≤ maxLen) (b2 : -9223372036854775808 ≤ n) (b3 : n ≤ 9223372036854775807) :
    Calls Tryd.prog 25 #[.int .i64 k, .string s, .int .i64 n] w fun e w' => e = .returned (.tuple #[.string ⟨#[]⟩, .bool false]) ∧ w = w' := by
  have HM := Lib.hid hm
  have HH := Lib.hid h
  clear hm h
  by_cases hk : 1 ≤ k ∧ k ≤ 8 ∧ nameL s.data.toList = true
  · obtain ⟨k0, k1, hn⟩ := hk
    have hn01 : n < 0 ∨ 1099511627775 < n := by
      have := HH.out
      by_cases h2 : n < 0
      · exact .inl h2
      · by_cases h3 : 1099511627775 < n
        · exact .inr h3
        · exact absurd ⟨k0, k1, hn, by omega, by omega⟩ this
    obtain ⟨j, rfl⟩ := Int.eq_ofNat_of_zero_le (show 0 ≤ k by omega)
    have HN := Lib.hid hn
    clear hn
    rcases hn01 with hlo | hhi
    · go_enter Tryd.func25, Tryd.ntmps25
      go_wp2_with fail
      refine (prefix_ref_yes j s _ (by omega) (by omega) HN.out).mono ?_; rintro e w' ⟨rfl, rfl⟩
      go_wp2
      go_ret2
      exact ⟨rfl, rfl⟩
    · go_enter Tryd.func25, Tryd.ntmps25
      go_wp2_with fail
      refine (prefix_ref_yes j s _ (by omega) (by omega) HN.out).mono ?_; rintro e w' ⟨rfl, rfl⟩
      go_wp2
      go_ret2
      exact ⟨rfl, rfl⟩
  · have HK := Lib.hid hk
    clear hk
    go_enter Tryd.func25, Tryd.ntmps25
    go_wp2_with fail
    refine (prefix_ref_no k s _ HK.out HM.out).mono ?_; rintro e w' ⟨rfl, rfl⟩
    go_wp2
    go_ret2
    exact ⟨rfl, rfl⟩
end Go.Proofs.YtcaapnjipjemiaaDoor.P
