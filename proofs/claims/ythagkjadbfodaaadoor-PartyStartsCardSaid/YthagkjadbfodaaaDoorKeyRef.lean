/- Layer 2, the document's own answers: prefixes, tickets, flags, ids. -/
import Derived.Test.YthagkjadbfodaaaDoorKeyMath
namespace Go.Proofs.YthagkjadbfodaaaDoor.P
open Go.RowKit
set_option maxHeartbeats 1000000
set_option linter.unusedVariables false
set_option maxRecDepth 100000


theorem at_app (p r : ByteArray) (j : Nat) (h : j < r.size) (h2 : p.size + j < (p ++ r).size) : (p ++ r)[p.size + j] = r[j] := by
  have e1 : (p ++ r)[p.size + j] = (p ++ r).data.toList[p.size + j]'(by simpa using h2) := rfl
  have e2 : r[j] = r.data.toList[j]'(by simpa using h) := rfl
  rw [e1, e2]
  simp only [app_list]
  rw [List.getElem_append_right (by rw [list_size]; omega)]
  congr 1
  rw [list_size]; omega
theorem hex_cases {c : UInt8} : (isHex c = true ∧ 48 ≤ c.toNat ∧ c.toNat ≤ 57 ∧ worth c = c.toNat - 48) ∨ (isHex c = true ∧ 97 ≤ c.toNat ∧ c.toNat ≤ 102 ∧ worth c = c.toNat - 87) ∨ (isHex c = false ∧ (c.toNat < 48 ∨ 57 < c.toNat) ∧ (c.toNat < 97 ∨ 102 < c.toNat)) := by
  by_cases h : isHex c = true
  · have := h
    simp only [isHex, Bool.or_eq_true, Bool.and_eq_true, decide_eq_true_eq] at this
    unfold worth
    rcases this with ⟨a, b⟩ | ⟨a, b⟩
    · exact .inl ⟨h, a, b, by rw [if_pos b]⟩
    · exact .inr (.inl ⟨h, a, b, by rw [if_neg (by omega)]⟩)
  · refine .inr (.inr ⟨by simpa using h, ?_⟩)
    simp only [isHex, Bool.or_eq_true, Bool.and_eq_true, decide_eq_true_eq] at h
    omega

theorem id_ref_ten (p r : ByteArray) (w : World) (hr : r.size = 10) (hm : (p ++ r).size ≤ 1000000) :
    Calls Tryd.prog 25 #[.string p, .string (p ++ r)] w fun e w' => e = .returned (.tuple #[.int .i64 (idV r), .bool (hexAll r)]) ∧ w = w' := by
  have hz := size_app p r
  have hx := head_app p r
  have hat := at_app p r
  rw [hr] at hz
  have hz1 : p.size + 10 ≤ (p ++ r).size := by omega
  have hz2 : (p ++ r).size ≤ p.size + 10 := by omega
  have hr1 : r.size ≤ 10 := by omega
  have hr2 : 10 ≤ r.size := by omega
  generalize p ++ r = k at *
  have hx2 : ((k.extract 0 p.size).toList == p.toList) = true := by rw [hx]; simp
  have hn1 : (((k.size : Int) - 10) != (p.size : Int)) = false := by simp; omega
  have HA := Lib.hid hat
  have HR := Lib.hid hr
  clear hz hx hat hr
  go_enter Tryd.func25, Tryd.ntmps25
  go_wp2
  go_loop [6, 7] (fun n i => ∃ j : Nat, j ≤ 10 ∧ i = .int .i64 ((p.size + j : Nat) : Int) ∧ n = .int .i64 (unhexN (r.data.toList.take j)) ∧ Hid ((r.data.toList.take j).all isHex = true)) (fun _ i => k.size - (intOf i).toNat)
  case atStart => exact ⟨0, Nat.zero_le _, rfl, rfl, rfl⟩
  case round =>
    obtain ⟨j, hj, rfl, rfl, hall⟩ := hrel
    by_cases hlt : j < 10
    · have hjr : j < r.size := by omega
      have hjk : p.size + j < k.size := by omega
      have hc : k[p.size + j] = r[j] := HA.out j hjr hjk
      have HT := Lib.hid (all_take r isHex j hjr)
      have hsn := unhexN_snoc (r.data.toList.take j) r[j]
      rw [← take_snoc r j hjr, ← hc] at hsn
      have hlt9 : unhexN (r.data.toList.take j) < 68719476736 := by
        have h1 := unhexN_lt _ hall.out
        have h2 : 16 ^ (r.data.toList.take j).length ≤ 16 ^ 9 := Nat.pow_le_pow_right (by decide) (by rw [List.length_take]; omega)
        exact Nat.lt_of_lt_of_le h1 h2
      have hstop := all_stop r isHex j hjr
      rw [← hc] at hstop
      have HS := Lib.hid hsn
      have hcl := k[p.size + j].toNat_lt
      have hT2 := HT.out
      rw [← hc] at hT2
      have HT2 := Lib.hid hT2
      clear hsn HT hT2 hc
      generalize unhexN (r.data.toList.take j) = m at *
      rcases hex_cases (c := k[p.size + j]) with ⟨q1, q2, q3, q4⟩ | ⟨q1, q2, q3, q4⟩ | ⟨q1, q2, q3⟩
      · have HG := Lib.hid q1
        have HW := Lib.hid q4
        clear q1 q4 hstop
        go_wp2
        go_round
        case rel => exact ⟨j + 1, by omega, by go_num, by rw [HS.out, HW.out]; go_num, by show _ = true; rw [HT2.out, hall.out, HG.out]; rfl⟩
        case measure => simp [intOf]; omega
      · have HG := Lib.hid q1
        have HW := Lib.hid q4
        clear q1 q4 hstop
        go_wp2
        go_round
        case rel => exact ⟨j + 1, by omega, by go_num, by rw [HS.out, HW.out]; go_num, by show _ = true; rw [HT2.out, hall.out, HG.out]; rfl⟩
        case measure => simp [intOf]; omega
      · have HB := Lib.hid (hstop q1)
        clear q1 hstop
        rcases q2 with q2 | q2
        · have q4 : k[p.size + j].toNat < 97 := by omega
          go_wp2
          go_ret2
          exact ⟨ret_ib (idV_no HB.out).1.symm (idV_no HB.out).2.symm, rfl⟩
        · rcases q3 with q3 | q3
          · go_wp2
            go_ret2
            exact ⟨ret_ib (idV_no HB.out).1.symm (idV_no HB.out).2.symm, rfl⟩
          · go_wp2
            go_ret2
            exact ⟨ret_ib (idV_no HB.out).1.symm (idV_no HB.out).2.symm, rfl⟩
    · have e : j = 10 := by omega
      have hfull : (r.data.toList.take j) = r.data.toList := by
        rw [e, ← HR.out]; exact take_all r
      have HN := Lib.hid (show unhexN (r.data.toList.take j) = unhexN r.data.toList by rw [hfull])
      have HF := Lib.hid (show r.data.toList.all isHex = true by rw [← hfull]; exact hall.out)
      clear hfull hall
      subst e
      go_wp2
      go_ret2
      exact ⟨ret_ib (by rw [HN.out]; exact (idV_yes HF.out).1.symm) (idV_yes HF.out).2.symm, rfl⟩
theorem id_ref_none (p k : ByteArray) (w : World) (h : ∀ r, k = p ++ r → r.size ≠ 10) (hm : k.size ≤ 1000000) (hm2 : p.size ≤ 1000000) :
    Calls Tryd.prog 25 #[.string p, .string k] w fun e w' => e = .returned (.tuple #[.int .i64 0, .bool false]) ∧ w = w' := by
  by_cases hs : k.size = p.size + 10
  · have hb : ¬ Begins p k := by
      rintro ⟨r, rfl⟩
      have := size_app p r
      exact h r rfl (by omega)
    have hx := begins_not hb (by omega)
    have hn1 : (((k.size : Int) - 10) != (p.size : Int)) = false := by simp; omega
    have hz1 : p.size + 10 ≤ k.size := by omega
    clear hb h hs
    go_enter Tryd.func25, Tryd.ntmps25
    go_wp2
    go_ret2
    exact ⟨rfl, rfl⟩
  · have hn1 : (((k.size : Int) - 10) != (p.size : Int)) = true := by simp; omega
    clear h hs
    go_enter Tryd.func25, Tryd.ntmps25
    go_wp2
    go_ret2
    exact ⟨rfl, rfl⟩

theorem name_ref_yes (s : ByteArray) (w : World) (hs : s.size ≤ maxLen) (hn : nameL s.data.toList = true) :
    Calls Tryd.prog 18 #[.string s] w fun e w' => e = .returned (.bool true) ∧ w = w' :=
  (name_ref s w hs).mono fun e w' h => ⟨h.1.trans (by rw [hn]), h.2⟩
theorem name_ref_no (s : ByteArray) (w : World) (hs : s.size ≤ maxLen) (hn : nameL s.data.toList = false) :
    Calls Tryd.prog 18 #[.string s] w fun e w' => e = .returned (.bool false) ∧ w = w' :=
  (name_ref s w hs).mono fun e w' h => ⟨h.1.trans (by rw [hn]), h.2⟩
theorem prefix_ref_yes (k : Nat) (s : ByteArray) (w : World) (h0 : 1 ≤ k) (h1 : k ≤ 8) (hn : nameL s.data.toList = true) :
    Calls Tryd.prog 20 #[.int .i64 (k : Int), .string s] w fun e w' => e = .returned (.tuple #[.string (prefixB k s), .bool true]) ∧ w = w' := by
  obtain ⟨n1, n2⟩ := nameL_size hn
  have HM := Lib.hid (show s.size ≤ maxLen by unfold maxLen; omega)
  have HN := Lib.hid hn
  have hk : k = 1 ∨ k = 2 ∨ k = 3 ∨ k = 4 ∨ k = 5 ∨ k = 6 ∨ k = 7 ∨ k = 8 := by omega
  clear hn h0 h1
  rcases hk with rfl | rfl | rfl | rfl | rfl | rfl | rfl | rfl
  all_goals
    go_enter Tryd.func20, Tryd.ntmps20
    go_wp2_with fail
    refine (name_ref_yes s _ HM.out HN.out).mono ?_; rintro e w' ⟨rfl, rfl⟩
    go_wp2
    go_ret2
    exact ⟨rfl, rfl⟩
theorem prefix_ref_no (k : Int) (s : ByteArray) (w : World) (h : ¬ (1 ≤ k ∧ k ≤ 8 ∧ nameL s.data.toList = true)) (hm : s.size ≤ maxLen) :
    Calls Tryd.prog 20 #[.int .i64 k, .string s] w fun e w' => e = .returned (.tuple #[.string ⟨#[]⟩, .bool false]) ∧ w = w' := by
  have HM := Lib.hid hm
  by_cases hk : k < 1
  · clear hm h
    go_enter Tryd.func20, Tryd.ntmps20
    go_wp2
    go_ret2
    exact ⟨rfl, rfl⟩
  · by_cases hk2 : 8 < k
    · clear hm h
      go_enter Tryd.func20, Tryd.ntmps20
      go_wp2
      go_ret2
      exact ⟨rfl, rfl⟩
    · have hn : nameL s.data.toList = false := by
        cases hh : nameL s.data.toList
        · rfl
        · exact absurd ⟨by omega, by omega, hh⟩ h
      have HN := Lib.hid hn
      have hkk : k = 1 ∨ k = 2 ∨ k = 3 ∨ k = 4 ∨ k = 5 ∨ k = 6 ∨ k = 7 ∨ k = 8 := by omega
      clear hn hm h hk hk2
      rcases hkk with rfl | rfl | rfl | rfl | rfl | rfl | rfl | rfl
      all_goals
        go_enter Tryd.func20, Tryd.ntmps20
        go_wp2_with fail
        refine (name_ref_no s _ HM.out HN.out).mono ?_; rintro e w' ⟨rfl, rfl⟩
        go_wp2
        go_ret2
        exact ⟨rfl, rfl⟩
theorem flag_ref_yes (s : ByteArray) (w : World) (hn : nameL s.data.toList = true) :
    Calls Tryd.prog 22 #[.string s] w fun e w' => e = .returned (.tuple #[.string (prefixB 6 s ++ ⟨#[111, 112, 101, 110]⟩), .bool true]) ∧ w = w' := by
  obtain ⟨m1, m2⟩ := nameL_size hn
  have hps := prefix_size (k := 6) (by decide) (by decide) s
  have hp3 : (prefixB 6 s).size ≤ 15 := by omega
  have HN := Lib.hid hn
  clear hn hps
  go_enter Tryd.func22, Tryd.ntmps22
  go_wp2_with fail
  refine (prefix_ref_yes 6 s _ (by decide) (by decide) HN.out).mono ?_; rintro e w' ⟨rfl, rfl⟩
  go_wp2
  go_ret2
  exact ⟨rfl, rfl⟩
theorem flag_ref_no (s : ByteArray) (w : World) (hn : nameL s.data.toList = false) (hm : s.size ≤ maxLen) :
    Calls Tryd.prog 22 #[.string s] w fun e w' => e = .returned (.tuple #[.string ⟨#[]⟩, .bool false]) ∧ w = w' := by
  have HN := Lib.hid hn
  have HM := Lib.hid hm
  clear hn hm
  go_enter Tryd.func22, Tryd.ntmps22
  go_wp2_with fail
  refine (prefix_ref_no 6 s _ (by rw [HN.out]; simp) HM.out).mono ?_; rintro e w' ⟨rfl, rfl⟩
  go_wp2
  go_ret2
  exact ⟨rfl, rfl⟩
end Go.Proofs.YthagkjadbfodaaaDoor.P
