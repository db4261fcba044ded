/- Layer 2, the document's own answers: prefixes, tickets, flags, ids. -/
import Derived.Test.YtjnmlbenhkhcbabDoorKeyMath
namespace Go.Proofs.YtjnmlbenhkhcbabDoor.P
open Go.RowKit
set_option maxHeartbeats 1000000
set_option linter.unusedVariables false
set_option maxRecDepth 100000

theorem under_ref_yes (p r : ByteArray) (w : World) (hr : 0 < r.size) (hm : (p ++ r).size ≤ maxLen) :
    Calls Tryd.prog 22 #[.string p, .string (p ++ r)] w fun e w' => e = .returned (.bool true) ∧ w = w' := by
  have hz := size_app p r
  have hx := head_app p r
  unfold maxLen at hm
  rw [hz] at hm
  have hz1 : p.size < (p ++ r).size := by omega
  have hz2 : (p ++ r).size ≤ 9223372036854775807 := by omega
  generalize p ++ r = k at *
  have hx2 : ((k.extract 0 p.size).toList == p.toList) = true := by rw [hx]; simp
  clear hz hx
  go_enter Tryd.func22, Tryd.ntmps22
  go_wp2
  go_ret
  exact ⟨rfl, rfl⟩
theorem under_ref_no (p k : ByteArray) (w : World) (h : k.size ≤ p.size ∨ ¬ Begins p k) (hm : k.size ≤ maxLen) (hm2 : p.size ≤ maxLen) :
    Calls Tryd.prog 22 #[.string p, .string k] w fun e w' => e = .returned (.bool false) ∧ w = w' := by
  unfold maxLen at hm hm2
  by_cases hs : k.size ≤ p.size
  · clear h
    go_enter Tryd.func22, Tryd.ntmps22
    go_wp2
    go_ret
    exact ⟨rfl, rfl⟩
  · have hx2 := begins_not (h.resolve_left hs) (by omega)
    clear h
    go_enter Tryd.func22, Tryd.ntmps22
    go_wp2
    go_ret
    exact ⟨rfl, rfl⟩

theorem at_app (p r : ByteArray) (j : Nat) (h : j < r.size) (h2 : p.size + j < (p ++ r).size) : (p ++ r)[p.size + j] = r[j] := by
  have e1 : (p ++ r)[p.size + j] = (p ++ r).data.toList[p.size + j]'(by simpa using h2) := rfl
  have e2 : r[j] = r.data.toList[j]'(by simpa using h) := rfl
  rw [e1, e2]
  simp only [app_list]
  rw [List.getElem_append_right (by rw [list_size]; omega)]
  congr 1
  rw [list_size]; omega
theorem hex_cases {c : UInt8} : (isHex c = true ∧ 48 ≤ c.toNat ∧ c.toNat ≤ 57 ∧ worth c = c.toNat - 48) ∨ (isHex c = true ∧ 97 ≤ c.toNat ∧ c.toNat ≤ 102 ∧ worth c = c.toNat - 87) ∨ (isHex c = false ∧ (c.toNat < 48 ∨ 57 < c.toNat) ∧ (c.toNat < 97 ∨ 102 < c.toNat)) := by
  by_cases h : isHex c = true
  · have := h
    simp only [isHex, Bool.or_eq_true, Bool.and_eq_true, decide_eq_true_eq] at this
    unfold worth
    rcases this with ⟨a, b⟩ | ⟨a, b⟩
    · exact .inl ⟨h, a, b, by rw [if_pos b]⟩
    · exact .inr (.inl ⟨h, a, b, by rw [if_neg (by omega)]⟩)
  · refine .inr (.inr ⟨by simpa using h, ?_⟩)
    simp only [isHex, Bool.or_eq_true, Bool.and_eq_true, decide_eq_true_eq] at h
    omega

theorem id_ref_ten (p r : ByteArray) (w : World) (hr : r.size = 10) (hm : (p ++ r).size ≤ 1000000) :
    Calls Tryd.prog 20 #[.string p, .string (p ++ r)] w fun e w' => e = .returned (.tuple #[.int .i64 (idV r), .bool (hexAll r)]) ∧ w = w' := by
  have hz := size_app p r
  have hx := head_app p r
  have hat := at_app p r
  rw [hr] at hz
  have hz1 : p.size + 10 ≤ (p ++ r).size := by omega
  have hz2 : (p ++ r).size ≤ p.size + 10 := by omega
  have hr1 : r.size ≤ 10 := by omega
  have hr2 : 10 ≤ r.size := by omega
  generalize p ++ r = k at *
  have hx2 : ((k.extract 0 p.size).toList == p.toList) = true := by rw [hx]; simp
  have hn1 : (((k.size : Int) - 10) != (p.size : Int)) = false := by simp; omega
  have HA := Lib.hid hat
  have HR := Lib.hid hr
  clear hz hx hat hr
  go_enter Tryd.func20, Tryd.ntmps20
  go_wp2
  go_loop [6, 7] (fun n i => ∃ j : Nat, j ≤ 10 ∧ i = .int .i64 ((p.size + j : Nat) : Int) ∧ n = .int .i64 (unhexN (r.data.toList.take j)) ∧ Hid ((r.data.toList.take j).all isHex = true)) (fun _ i => k.size - (intOf i).toNat)
  case atStart => exact ⟨0, Nat.zero_le _, rfl, rfl, rfl⟩
  case round =>
    obtain ⟨j, hj, rfl, rfl, hall⟩ := hrel
    by_cases hlt : j < 10
    · have hjr : j < r.size := by omega
      have hjk : p.size + j < k.size := by omega
      have hc : k[p.size + j] = r[j] := HA.out j hjr hjk
      have HT := Lib.hid (all_take r isHex j hjr)
      have hsn := unhexN_snoc (r.data.toList.take j) r[j]
      rw [← take_snoc r j hjr, ← hc] at hsn
      have hlt9 : unhexN (r.data.toList.take j) < 68719476736 := by
        have h1 := unhexN_lt _ hall.out
        have h2 : 16 ^ (r.data.toList.take j).length ≤ 16 ^ 9 := Nat.pow_le_pow_right (by decide) (by rw [List.length_take]; omega)
        exact Nat.lt_of_lt_of_le h1 h2
      have hstop := all_stop r isHex j hjr
      rw [← hc] at hstop
      have HS := Lib.hid hsn
      have hcl := k[p.size + j].toNat_lt
      have hT2 := HT.out
      rw [← hc] at hT2
      have HT2 := Lib.hid hT2
      clear hsn HT hT2 hc
      generalize unhexN (r.data.toList.take j) = m at *
      rcases hex_cases (c := k[p.size + j]) with ⟨q1, q2, q3, q4⟩ | ⟨q1, q2, q3, q4⟩ | ⟨q1, q2, q3⟩
      · have HG := Lib.hid q1
        have HW := Lib.hid q4
        clear q1 q4 hstop
        go_wp2
        go_round
        case rel => exact ⟨j + 1, by omega, by go_num, by rw [HS.out, HW.out]; go_num, by show _ = true; rw [HT2.out, hall.out, HG.out]; rfl⟩
        case measure => simp [intOf]; omega
      · have HG := Lib.hid q1
        have HW := Lib.hid q4
        clear q1 q4 hstop
        go_wp2
        go_round
        case rel => exact ⟨j + 1, by omega, by go_num, by rw [HS.out, HW.out]; go_num, by show _ = true; rw [HT2.out, hall.out, HG.out]; rfl⟩
        case measure => simp [intOf]; omega
      · have HB := Lib.hid (hstop q1)
        clear q1 hstop
        rcases q2 with q2 | q2
        · have q4 : k[p.size + j].toNat < 97 := by omega
          go_wp2
          go_ret2
          exact ⟨ret_ib (idV_no HB.out).1.symm (idV_no HB.out).2.symm, rfl⟩
        · rcases q3 with q3 | q3
          · go_wp2
            go_ret2
            exact ⟨ret_ib (idV_no HB.out).1.symm (idV_no HB.out).2.symm, rfl⟩
          · go_wp2
            go_ret2
            exact ⟨ret_ib (idV_no HB.out).1.symm (idV_no HB.out).2.symm, rfl⟩
    · have e : j = 10 := by omega
      have hfull : (r.data.toList.take j) = r.data.toList := by
        rw [e, ← HR.out]; exact take_all r
      have HN := Lib.hid (show unhexN (r.data.toList.take j) = unhexN r.data.toList by rw [hfull])
      have HF := Lib.hid (show r.data.toList.all isHex = true by rw [← hfull]; exact hall.out)
      clear hfull hall
      subst e
      go_wp2
      go_ret2
      exact ⟨ret_ib (by rw [HN.out]; exact (idV_yes HF.out).1.symm) (idV_yes HF.out).2.symm, rfl⟩
theorem id_ref_none (p k : ByteArray) (w : World) (h : ∀ r, k = p ++ r → r.size ≠ 10) (hm : k.size ≤ 1000000) (hm2 : p.size ≤ 1000000) :
    Calls Tryd.prog 20 #[.string p, .string k] w fun e w' => e = .returned (.tuple #[.int .i64 0, .bool false]) ∧ w = w' := by
  by_cases hs : k.size = p.size + 10
  · have hb : ¬ Begins p k := by
      rintro ⟨r, rfl⟩
      have := size_app p r
      exact h r rfl (by omega)
    have hx := begins_not hb (by omega)
    have hn1 : (((k.size : Int) - 10) != (p.size : Int)) = false := by simp; omega
    have hz1 : p.size + 10 ≤ k.size := by omega
    clear hb h hs
    go_enter Tryd.func20, Tryd.ntmps20
    go_wp2
    go_ret2
    exact ⟨rfl, rfl⟩
  · have hn1 : (((k.size : Int) - 10) != (p.size : Int)) = true := by simp; omega
    clear h hs
    go_enter Tryd.func20, Tryd.ntmps20
    go_wp2
    go_ret2
    exact ⟨rfl, rfl⟩

theorem name_ref_yes (s : ByteArray) (w : World) (hs : s.size ≤ maxLen) (hn : nameL s.data.toList = true) :
    Calls Tryd.prog 18 #[.string s] w fun e w' => e = .returned (.bool true) ∧ w = w' :=
  (name_ref s w hs).mono fun e w' h => ⟨h.1.trans (by rw [hn]), h.2⟩
theorem name_ref_no (s : ByteArray) (w : World) (hs : s.size ≤ maxLen) (hn : nameL s.data.toList = false) :
    Calls Tryd.prog 18 #[.string s] w fun e w' => e = .returned (.bool false) ∧ w = w' :=
  (name_ref s w hs).mono fun e w' h => ⟨h.1.trans (by rw [hn]), h.2⟩
theorem prefix_ref_yes (k : Nat) (s : ByteArray) (w : World) (h0 : 1 ≤ k) (h1 : k ≤ 8) (hn : nameL s.data.toList = true) :
    Calls Tryd.prog 10 #[.int .i64 (k : Int), .string s] w fun e w' => e = .returned (.tuple #[.string (prefixB k s), .bool true]) ∧ w = w' := by
  obtain ⟨n1, n2⟩ := nameL_size hn
  have HM := Lib.hid (show s.size ≤ maxLen by unfold maxLen; omega)
  have HN := Lib.hid hn
  have hk : k = 1 ∨ k = 2 ∨ k = 3 ∨ k = 4 ∨ k = 5 ∨ k = 6 ∨ k = 7 ∨ k = 8 := by omega
  clear hn h0 h1
  rcases hk with rfl | rfl | rfl | rfl | rfl | rfl | rfl | rfl
  all_goals
    go_enter Tryd.func10, Tryd.ntmps10
    go_wp2_with fail
    refine (name_ref_yes s _ HM.out HN.out).mono ?_; rintro e w' ⟨rfl, rfl⟩
    go_wp2
    go_ret2
    exact ⟨rfl, rfl⟩
theorem prefix_ref_no (k : Int) (s : ByteArray) (w : World) (h : ¬ (1 ≤ k ∧ k ≤ 8 ∧ nameL s.data.toList = true)) (hm : s.size ≤ maxLen) :
    Calls Tryd.prog 10 #[.int .i64 k, .string s] w fun e w' => e = .returned (.tuple #[.string ⟨#[]⟩, .bool false]) ∧ w = w' := by
  have HM := Lib.hid hm
  by_cases hk : k < 1
  · clear hm h
    go_enter Tryd.func10, Tryd.ntmps10
    go_wp2
    go_ret2
    exact ⟨rfl, rfl⟩
  · by_cases hk2 : 8 < k
    · clear hm h
      go_enter Tryd.func10, Tryd.ntmps10
      go_wp2
      go_ret2
      exact ⟨rfl, rfl⟩
    · have hn : nameL s.data.toList = false := by
        cases hh : nameL s.data.toList
        · rfl
        · exact absurd ⟨by omega, by omega, hh⟩ h
      have HN := Lib.hid hn
      have hkk : k = 1 ∨ k = 2 ∨ k = 3 ∨ k = 4 ∨ k = 5 ∨ k = 6 ∨ k = 7 ∨ k = 8 := by omega
      clear hn hm h hk hk2
      rcases hkk with rfl | rfl | rfl | rfl | rfl | rfl | rfl | rfl
      all_goals
        go_enter Tryd.func10, Tryd.ntmps10
        go_wp2_with fail
        refine (name_ref_no s _ HM.out HN.out).mono ?_; rintro e w' ⟨rfl, rfl⟩
        go_wp2
        go_ret2
        exact ⟨rfl, rfl⟩
theorem flag_ref_yes (s : ByteArray) (w : World) (hn : nameL s.data.toList = true) :
    Calls Tryd.prog 14 #[.string s] w fun e w' => e = .returned (.tuple #[.string (prefixB 6 s ++ ⟨#[111, 112, 101, 110]⟩), .bool true]) ∧ w = w' := by
  obtain ⟨m1, m2⟩ := nameL_size hn
  have hps := prefix_size (k := 6) (by decide) (by decide) s
  have hp3 : (prefixB 6 s).size ≤ 15 := by omega
  have HN := Lib.hid hn
  clear hn hps
  go_enter Tryd.func14, Tryd.ntmps14
  go_wp2_with fail
  refine (prefix_ref_yes 6 s _ (by decide) (by decide) HN.out).mono ?_; rintro e w' ⟨rfl, rfl⟩
  go_wp2
  go_ret2
  exact ⟨rfl, rfl⟩
theorem flag_ref_no (s : ByteArray) (w : World) (hn : nameL s.data.toList = false) (hm : s.size ≤ maxLen) :
    Calls Tryd.prog 14 #[.string s] w fun e w' => e = .returned (.tuple #[.string ⟨#[]⟩, .bool false]) ∧ w = w' := by
  have HN := Lib.hid hn
  have HM := Lib.hid hm
  clear hn hm
  go_enter Tryd.func14, Tryd.ntmps14
  go_wp2_with fail
  refine (prefix_ref_no 6 s _ (by rw [HN.out]; simp) HM.out).mono ?_; rintro e w' ⟨rfl, rfl⟩
  go_wp2
  go_ret2
  exact ⟨rfl, rfl⟩
theorem dig_cut (x : Nat) (h : x < 16) : (⟨#[48, 49, 50, 51, 52, 53, 54, 55, 56, 57, 97, 98, 99, 100, 101, 102]⟩ : ByteArray).extract x (x + 1) = ⟨#[hexD x]⟩ := by
  have : ∀ y : Fin 16, (⟨#[48, 49, 50, 51, 52, 53, 54, 55, 56, 57, 97, 98, 99, 100, 101, 102]⟩ : ByteArray).extract y.1 (y.1 + 1) = ⟨#[hexD y.1]⟩ := by decide
  exact this ⟨x, h⟩
theorem hex_more (m j : Nat) : (⟨#[hexD (m / 16 ^ j % 16)]⟩ : ByteArray) ++ ⟨(hexL m j).toArray⟩ = ⟨(hexL m (j + 1)).toArray⟩ := by
  apply ext_list
  rw [app_list]
  show [hexD (m / 16 ^ j % 16)] ++ (hexL m j).toArray.toList = (hexL m (j + 1)).toArray.toList
  rw [List.toList_toArray, List.toList_toArray]
  rfl
theorem hexP_size (m j : Nat) : (⟨(hexL m j).toArray⟩ : ByteArray).size = j := by
  show (hexL m j).toArray.size = j
  rw [List.size_toArray, hexL_length]
theorem ticket_ref_yes (k : Nat) (s : ByteArray) (n : Int) (w : World) (h0 : 1 ≤ k) (h1 : k ≤ 8) (hn : nameL s.data.toList = true) (n0 : 0 ≤ n) (n1 : n ≤ 1099511627775) :
    Calls Tryd.prog 12 #[.int .i64 (k : Int), .string s, .int .i64 n] w fun e w' => e = .returned (.tuple #[.string (ticketB k s n.toNat), .bool true]) ∧ w = w' := by
  obtain ⟨m, rfl⟩ := Int.eq_ofNat_of_zero_le n0
  obtain ⟨m1, m2⟩ := nameL_size hn
  have hps := prefix_size h0 h1 s
  have hp3 : (prefixB k s).size ≤ 15 := by omega
  have HN := Lib.hid hn
  clear hn hps
  go_enter Tryd.func12, Tryd.ntmps12
  go_wp2_with fail
  refine (prefix_ref_yes k s _ h0 h1 HN.out).mono ?_; rintro e w' ⟨rfl, rfl⟩
  go_wp2
  go_loop [2, 11, 12] (fun d t i => ∃ j : Nat, j ≤ 10 ∧ i = .int .i64 (j : Int) ∧ d = .int .i64 ((m / 16 ^ j : Nat) : Int) ∧ t = .string ⟨(hexL m j).toArray⟩) (fun _ _ i => 10 - (intOf i).toNat)
  case atStart => exact ⟨0, by omega, rfl, by simp, rfl⟩
  case round =>
    obtain ⟨j, hj, rfl, rfl, rfl⟩ := hrel
    have hsz := hexP_size m j
    by_cases hlt : j < 10
    · have hx := dig_cut (m / 16 ^ j % 16) (by omega)
      have hmore := hex_more m j
      have hst := hex_step m j
      have hd0 : m / 16 ^ j ≤ 1099511627775 := Nat.le_trans (Nat.div_le_self _ _) (by omega)
      have hs3 : (⟨(hexL m j).toArray⟩ : ByteArray).size ≤ 10 := by omega
      generalize m / 16 ^ j = d at *
      rw [← hx] at hmore
      have HX := Lib.hid hmore
      have HS := Lib.hid hst
      have hd16 : d % 16 < 16 := by omega
      have hxs : ((⟨#[48, 49, 50, 51, 52, 53, 54, 55, 56, 57, 97, 98, 99, 100, 101, 102]⟩ : ByteArray).extract (d % 16) (d % 16 + 1)).size ≤ 1 := by rw [hx]; exact Nat.le_refl _
      have hsl : ∀ w, (Instr.slice 9 (.string ⟨#[48, 49, 50, 51, 52, 53, 54, 55, 56, 57, 97, 98, 99, 100, 101, 102]⟩) (some (.int .i64 ((d : Int) % 16))) (some (.int .i64 ((d : Int) % 16 + 1))) none).run Tryd.prog w = .ok (.string ((⟨#[48, 49, 50, 51, 52, 53, 54, 55, 56, 57, 97, 98, 99, 100, 101, 102]⟩ : ByteArray).extract (d % 16) (d % 16 + 1))) w := by
        intro w
        rw [run_slice_string w 9 _ _ _ ((d : Int) % 16) ((d : Int) % 16 + 1) Tryd.underlying9 (by omega) (by omega) (by show _ ≤ ((16 : Nat) : Int); omega)]
        rw [show ((d : Int) % 16).toNat = d % 16 by omega, show ((d : Int) % 16 + 1).toNat = d % 16 + 1 by omega]
      clear hmore hst hx hsz
      generalize (⟨(hexL m j).toArray⟩ : ByteArray) = t at *
      generalize (⟨#[48, 49, 50, 51, 52, 53, 54, 55, 56, 57, 97, 98, 99, 100, 101, 102]⟩ : ByteArray).extract (d % 16) (d % 16 + 1) = u at *
      go_wp2
      go_round
      case rel => exact ⟨j + 1, by omega, by go_num, by rw [HS.out], by rw [HX.out]⟩
      case measure => simp [intOf]; omega
    · have e : j = 10 := by omega
      have hs3 : (⟨(hexL m j).toArray⟩ : ByteArray).size ≤ 10 := by omega
      subst e
      have HQ := Lib.hid (show ticketB k s m = prefixB k s ++ ⟨(hexL m 10).toArray⟩ from rfl)
      clear hsz
      generalize (⟨(hexL m 10).toArray⟩ : ByteArray) = t at *
      go_wp2
      go_ret2
      exact ⟨by rw [HQ.out]; rfl, rfl⟩
theorem ticket_ref_no (k : Int) (s : ByteArray) (n : Int) (w : World) (h : ¬ (1 ≤ k ∧ k ≤ 8 ∧ nameL s.data.toList = true ∧ 0 ≤ n ∧ n ≤ 1099511627775)) (hm : s.size ≤ maxLen) (b2 : -9223372036854775808 ≤ n) (b3 : n ≤ 9223372036854775807) :
    Calls Tryd.prog 12 #[.int .i64 k, .string s, .int .i64 n] w fun e w' => e = .returned (.tuple #[.string ⟨#[]⟩, .bool false]) ∧ w = w' := by
  have HM := Lib.hid hm
  have HH := Lib.hid h
  clear hm h
  by_cases hk : 1 ≤ k ∧ k ≤ 8 ∧ nameL s.data.toList = true
  · obtain ⟨k0, k1, hn⟩ := hk
    have hn01 : n < 0 ∨ 1099511627775 < n := by
      have := HH.out
      by_cases h2 : n < 0
      · exact .inl h2
      · by_cases h3 : 1099511627775 < n
        · exact .inr h3
        · exact absurd ⟨k0, k1, hn, by omega, by omega⟩ this
    obtain ⟨j, rfl⟩ := Int.eq_ofNat_of_zero_le (show 0 ≤ k by omega)
    have HN := Lib.hid hn
    clear hn
    rcases hn01 with hlo | hhi
    · go_enter Tryd.func12, Tryd.ntmps12
      go_wp2_with fail
      refine (prefix_ref_yes j s _ (by omega) (by omega) HN.out).mono ?_; rintro e w' ⟨rfl, rfl⟩
      go_wp2
      go_ret2
      exact ⟨rfl, rfl⟩
    · go_enter Tryd.func12, Tryd.ntmps12
      go_wp2_with fail
      refine (prefix_ref_yes j s _ (by omega) (by omega) HN.out).mono ?_; rintro e w' ⟨rfl, rfl⟩
      go_wp2
      go_ret2
      exact ⟨rfl, rfl⟩
  · have HK := Lib.hid hk
    clear hk
    go_enter Tryd.func12, Tryd.ntmps12
    go_wp2_with fail
    refine (prefix_ref_no k s _ HK.out HM.out).mono ?_; rintro e w' ⟨rfl, rfl⟩
    go_wp2
    go_ret2
    exact ⟨rfl, rfl⟩
end Go.Proofs.YtjnmlbenhkhcbabDoor.P
