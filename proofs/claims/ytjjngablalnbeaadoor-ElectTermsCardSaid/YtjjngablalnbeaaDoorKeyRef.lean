/- Layer 2, the document's own answers: prefixes, tickets, flags, ids. -/
import Derived.Test.YtjjngablalnbeaaDoorKeyMath
namespace Go.Proofs.YtjjngablalnbeaaDoor.P
open Go.RowKit
set_option maxHeartbeats 1000000
set_option linter.unusedVariables false
set_option maxRecDepth 100000



theorem name_ref_yes (s : ByteArray) (w : World) (hs : s.size ≤ maxLen) (hn : nameL s.data.toList = true) :
    Calls Tryd.prog 50 #[.string s] w fun e w' => e = .returned (.bool true) ∧ w = w' :=
  (name_ref s w hs).mono fun e w' h => ⟨h.1.trans (by rw [hn]), h.2⟩
theorem name_ref_no (s : ByteArray) (w : World) (hs : s.size ≤ maxLen) (hn : nameL s.data.toList = false) :
    Calls Tryd.prog 50 #[.string s] w fun e w' => e = .returned (.bool false) ∧ w = w' :=
  (name_ref s w hs).mono fun e w' h => ⟨h.1.trans (by rw [hn]), h.2⟩
theorem prefix_ref_yes (k : Nat) (s : ByteArray) (w : World) (h0 : 1 ≤ k) (h1 : k ≤ 8) (hn : nameL s.data.toList = true) :
    Calls Tryd.prog 34 #[.int .i64 (k : Int), .string s] w fun e w' => e = .returned (.tuple #[.string (prefixB k s), .bool true]) ∧ w = w' := by
  obtain ⟨n1, n2⟩ := nameL_size hn
  have HM := Lib.hid (show s.size ≤ maxLen by unfold maxLen; omega)
  have HN := Lib.hid hn
  have hk : k = 1 ∨ k = 2 ∨ k = 3 ∨ k = 4 ∨ k = 5 ∨ k = 6 ∨ k = 7 ∨ k = 8 := by omega
  clear hn h0 h1
  rcases hk with rfl | rfl | rfl | rfl | rfl | rfl | rfl | rfl
  all_goals
    go_enter Tryd.func34, Tryd.ntmps34
    go_wp2_with fail
    refine (name_ref_yes s _ HM.out HN.out).mono ?_; rintro e w' ⟨rfl, rfl⟩
    go_wp2
    go_ret2
    exact ⟨rfl, rfl⟩
theorem prefix_ref_no (k : Int) (s : ByteArray) (w : World) (h : ¬ (1 ≤ k ∧ k ≤ 8 ∧ nameL s.data.toList = true)) (hm : s.size ≤ maxLen) :
    Calls Tryd.prog 34 #[.int .i64 k, .string s] w fun e w' => e = .returned (.tuple #[.string ⟨#[]⟩, .bool false]) ∧ w = w' := by
  have HM := Lib.hid hm
  by_cases hk : k < 1
  · clear hm h
    go_enter Tryd.func34, Tryd.ntmps34
    go_wp2
    go_ret2
    exact ⟨rfl, rfl⟩
  · by_cases hk2 : 8 < k
    · clear hm h
      go_enter Tryd.func34, Tryd.ntmps34
      go_wp2
      go_ret2
      exact ⟨rfl, rfl⟩
    · have hn : nameL s.data.toList = false := by
        cases hh : nameL s.data.toList
        · rfl
        · exact absurd ⟨by omega, by omega, hh⟩ h
      have HN := Lib.hid hn
      have hkk : k = 1 ∨ k = 2 ∨ k = 3 ∨ k = 4 ∨ k = 5 ∨ k = 6 ∨ k = 7 ∨ k = 8 := by omega
      clear hn hm h hk hk2
      rcases hkk with rfl | rfl | rfl | rfl | rfl | rfl | rfl | rfl
      all_goals
        go_enter Tryd.func34, Tryd.ntmps34
        go_wp2_with fail
        refine (name_ref_no s _ HM.out HN.out).mono ?_; rintro e w' ⟨rfl, rfl⟩
        go_wp2
        go_ret2
        exact ⟨rfl, rfl⟩
end Go.Proofs.YtjjngablalnbeaaDoor.P
