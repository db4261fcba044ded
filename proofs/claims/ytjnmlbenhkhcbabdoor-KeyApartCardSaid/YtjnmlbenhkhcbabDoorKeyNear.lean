/- KeyApart where the kinds have one letter and the names are unlike. -/
import Derived.Test.YtjnmlbenhkhcbabDoorKeyPair
namespace Go.Proofs.YtjnmlbenhkhcbabDoor.P
open Go.RowKit
set_option maxHeartbeats 8000000
set_option linter.unusedVariables false
set_option maxRecDepth 100000

theorem fin_near (a0 b0 : Int) (a1 b1 : ByteArray) (a2 b2 : Int) (w : World)
    (lo0 : -9223372036854775808 ≤ a0) (hi0 : a0 ≤ 9223372036854775807) (lp0 : -9223372036854775808 ≤ b0) (hj0 : b0 ≤ 9223372036854775807)
    (lo2 : -9223372036854775808 ≤ a2) (hi2 : a2 ≤ 9223372036854775807) (lp2 : -9223372036854775808 ≤ b2) (hj2 : b2 ≤ 9223372036854775807)
    (M1 : Hid (a1.size ≤ maxLen)) (N1 : Hid (b1.size ≤ maxLen)) (hl : (a1.size : Int) ≤ 100) (hl2 : (b1.size : Int) ≤ 100)
    (hp0 : pOk a0 a1 = true) (hp1 : pOk b0 b1 = true) (ht0 : tOk a0 a1 a2 = true) (ht1 : tOk b0 b1 b2 = true)
    (k0 : 1 ≤ a0) (k1 : a0 ≤ 8) (k2 : 1 ≤ b0) (k3 : b0 ≤ 8) (HL : Hid (Letters w))
    (g1 : ((pS a0 a1).toList == (pS b0 b1).toList) = false) (g2 : ((tS a0 a1 a2).toList == (tS b0 b1 b2).toList) = false)
    (F : Hid (∀ w, Calls Tryd.prog 21 #[.string (pS b0 b1), .string (tS a0 a1 a2)] w fun e w' => e = .returned (.bool false) ∧ w = w')) (hab : (a1.toList == b1.toList) = false) (ho : oneB a0 b0) :
    Calls Tryd.prog 6 #[.agg #[.int .i64 a0, .int .i64 b0], .agg #[.string a1, .string b1], .agg #[.int .i64 a2, .int .i64 b2]] w fun e w' => e = .returned (.bool true) ∧ Below w.heap.size w w' := by
  rcases ho with rfl | ⟨rfl, rfl⟩ | ⟨rfl, rfl⟩ | ⟨rfl, rfl⟩ | ⟨rfl, rfl⟩
  · go_enter Tryd.func6, Tryd.ntmps6
    go_wp2_with fail
    refine (prefix_all _ _ _ M1.out (by omega) (by omega) (letters3 HL.out _ _ _)).mono ?_; rintro e w1 ⟨rfl, hb⟩; have B1 := Lib.hid (box3 hb); have X1 := Lib.hid ((boxes_start _ _ _ _ _ _ _).below hb); clear hb
    obtain ⟨x0, x1, x2, x3, x4, x5, x6⟩ := X1.out
    go_wp2_with fail
    clear x0 x1 x2 x3 x4 x5 x6
    refine (prefix_all _ _ _ N1.out (by omega) (by omega) (HL.out.below B1.out)).mono ?_; rintro e w2 ⟨rfl, hb⟩; have B2 := Lib.hid (below_then B1.out hb); have X2 := Lib.hid (X1.out.below hb); clear hb
    obtain ⟨x0, x1, x2, x3, x4, x5, x6⟩ := X2.out
    go_wp2_with fail
    clear x0 x1 x2 x3 x4 x5 x6
    refine (ticket_all _ _ _ _ M1.out (by omega) (by omega) (by omega) (by omega) (HL.out.below B2.out)).mono ?_; rintro e w3 ⟨rfl, hb⟩; have B3 := Lib.hid (below_then B2.out hb); have X3 := Lib.hid (X2.out.below hb); clear hb
    obtain ⟨x0, x1, x2, x3, x4, x5, x6⟩ := X3.out
    go_wp2_with fail
    clear x0 x1 x2 x3 x4 x5 x6
    refine (ticket_all _ _ _ _ N1.out (by omega) (by omega) (by omega) (by omega) (HL.out.below B3.out)).mono ?_; rintro e w4 ⟨rfl, hb⟩; have B4 := Lib.hid (below_then B3.out hb); have X4 := Lib.hid (X3.out.below hb); clear hb
    obtain ⟨x0, x1, x2, x3, x4, x5, x6⟩ := X4.out
    go_wp2_with fail
    clear x0 x1 x2 x3 x4 x5 x6
    refine (F.out _).mono ?_; rintro e w' ⟨rfl, rfl⟩
    go_wp2_with fail
    refine (live_any _ (HL.out.below B4.out)).mono ?_; rintro e w5 ⟨rfl, hb⟩; have B5 := Lib.hid (below_then B4.out hb); clear hb
    go_wp2
    go_ret
    exact ⟨rfl, B5.out⟩
  · go_enter Tryd.func6, Tryd.ntmps6
    go_wp2_with fail
    refine (prefix_all _ _ _ M1.out (by omega) (by omega) (letters3 HL.out _ _ _)).mono ?_; rintro e w1 ⟨rfl, hb⟩; have B1 := Lib.hid (box3 hb); have X1 := Lib.hid ((boxes_start _ _ _ _ _ _ _).below hb); clear hb
    obtain ⟨x0, x1, x2, x3, x4, x5, x6⟩ := X1.out
    go_wp2_with fail
    clear x0 x1 x2 x3 x4 x5 x6
    refine (prefix_all _ _ _ N1.out (by omega) (by omega) (HL.out.below B1.out)).mono ?_; rintro e w2 ⟨rfl, hb⟩; have B2 := Lib.hid (below_then B1.out hb); have X2 := Lib.hid (X1.out.below hb); clear hb
    obtain ⟨x0, x1, x2, x3, x4, x5, x6⟩ := X2.out
    go_wp2_with fail
    clear x0 x1 x2 x3 x4 x5 x6
    refine (ticket_all _ _ _ _ M1.out (by omega) (by omega) (by omega) (by omega) (HL.out.below B2.out)).mono ?_; rintro e w3 ⟨rfl, hb⟩; have B3 := Lib.hid (below_then B2.out hb); have X3 := Lib.hid (X2.out.below hb); clear hb
    obtain ⟨x0, x1, x2, x3, x4, x5, x6⟩ := X3.out
    go_wp2_with fail
    clear x0 x1 x2 x3 x4 x5 x6
    refine (ticket_all _ _ _ _ N1.out (by omega) (by omega) (by omega) (by omega) (HL.out.below B3.out)).mono ?_; rintro e w4 ⟨rfl, hb⟩; have B4 := Lib.hid (below_then B3.out hb); have X4 := Lib.hid (X3.out.below hb); clear hb
    obtain ⟨x0, x1, x2, x3, x4, x5, x6⟩ := X4.out
    go_wp2_with fail
    clear x0 x1 x2 x3 x4 x5 x6
    refine (F.out _).mono ?_; rintro e w' ⟨rfl, rfl⟩
    go_wp2_with fail
    refine (live_any _ (HL.out.below B4.out)).mono ?_; rintro e w5 ⟨rfl, hb⟩; have B5 := Lib.hid (below_then B4.out hb); clear hb
    go_wp2
    go_ret
    exact ⟨rfl, B5.out⟩
  · go_enter Tryd.func6, Tryd.ntmps6
    go_wp2_with fail
    refine (prefix_all _ _ _ M1.out (by omega) (by omega) (letters3 HL.out _ _ _)).mono ?_; rintro e w1 ⟨rfl, hb⟩; have B1 := Lib.hid (box3 hb); have X1 := Lib.hid ((boxes_start _ _ _ _ _ _ _).below hb); clear hb
    obtain ⟨x0, x1, x2, x3, x4, x5, x6⟩ := X1.out
    go_wp2_with fail
    clear x0 x1 x2 x3 x4 x5 x6
    refine (prefix_all _ _ _ N1.out (by omega) (by omega) (HL.out.below B1.out)).mono ?_; rintro e w2 ⟨rfl, hb⟩; have B2 := Lib.hid (below_then B1.out hb); have X2 := Lib.hid (X1.out.below hb); clear hb
    obtain ⟨x0, x1, x2, x3, x4, x5, x6⟩ := X2.out
    go_wp2_with fail
    clear x0 x1 x2 x3 x4 x5 x6
    refine (ticket_all _ _ _ _ M1.out (by omega) (by omega) (by omega) (by omega) (HL.out.below B2.out)).mono ?_; rintro e w3 ⟨rfl, hb⟩; have B3 := Lib.hid (below_then B2.out hb); have X3 := Lib.hid (X2.out.below hb); clear hb
    obtain ⟨x0, x1, x2, x3, x4, x5, x6⟩ := X3.out
    go_wp2_with fail
    clear x0 x1 x2 x3 x4 x5 x6
    refine (ticket_all _ _ _ _ N1.out (by omega) (by omega) (by omega) (by omega) (HL.out.below B3.out)).mono ?_; rintro e w4 ⟨rfl, hb⟩; have B4 := Lib.hid (below_then B3.out hb); have X4 := Lib.hid (X3.out.below hb); clear hb
    obtain ⟨x0, x1, x2, x3, x4, x5, x6⟩ := X4.out
    go_wp2_with fail
    clear x0 x1 x2 x3 x4 x5 x6
    refine (F.out _).mono ?_; rintro e w' ⟨rfl, rfl⟩
    go_wp2_with fail
    refine (live_any _ (HL.out.below B4.out)).mono ?_; rintro e w5 ⟨rfl, hb⟩; have B5 := Lib.hid (below_then B4.out hb); clear hb
    go_wp2
    go_ret
    exact ⟨rfl, B5.out⟩
  · go_enter Tryd.func6, Tryd.ntmps6
    go_wp2_with fail
    refine (prefix_all _ _ _ M1.out (by omega) (by omega) (letters3 HL.out _ _ _)).mono ?_; rintro e w1 ⟨rfl, hb⟩; have B1 := Lib.hid (box3 hb); have X1 := Lib.hid ((boxes_start _ _ _ _ _ _ _).below hb); clear hb
    obtain ⟨x0, x1, x2, x3, x4, x5, x6⟩ := X1.out
    go_wp2_with fail
    clear x0 x1 x2 x3 x4 x5 x6
    refine (prefix_all _ _ _ N1.out (by omega) (by omega) (HL.out.below B1.out)).mono ?_; rintro e w2 ⟨rfl, hb⟩; have B2 := Lib.hid (below_then B1.out hb); have X2 := Lib.hid (X1.out.below hb); clear hb
    obtain ⟨x0, x1, x2, x3, x4, x5, x6⟩ := X2.out
    go_wp2_with fail
    clear x0 x1 x2 x3 x4 x5 x6
    refine (ticket_all _ _ _ _ M1.out (by omega) (by omega) (by omega) (by omega) (HL.out.below B2.out)).mono ?_; rintro e w3 ⟨rfl, hb⟩; have B3 := Lib.hid (below_then B2.out hb); have X3 := Lib.hid (X2.out.below hb); clear hb
    obtain ⟨x0, x1, x2, x3, x4, x5, x6⟩ := X3.out
    go_wp2_with fail
    clear x0 x1 x2 x3 x4 x5 x6
    refine (ticket_all _ _ _ _ N1.out (by omega) (by omega) (by omega) (by omega) (HL.out.below B3.out)).mono ?_; rintro e w4 ⟨rfl, hb⟩; have B4 := Lib.hid (below_then B3.out hb); have X4 := Lib.hid (X3.out.below hb); clear hb
    obtain ⟨x0, x1, x2, x3, x4, x5, x6⟩ := X4.out
    go_wp2_with fail
    clear x0 x1 x2 x3 x4 x5 x6
    refine (F.out _).mono ?_; rintro e w' ⟨rfl, rfl⟩
    go_wp2_with fail
    refine (live_any _ (HL.out.below B4.out)).mono ?_; rintro e w5 ⟨rfl, hb⟩; have B5 := Lib.hid (below_then B4.out hb); clear hb
    go_wp2
    go_ret
    exact ⟨rfl, B5.out⟩
  · go_enter Tryd.func6, Tryd.ntmps6
    go_wp2_with fail
    refine (prefix_all _ _ _ M1.out (by omega) (by omega) (letters3 HL.out _ _ _)).mono ?_; rintro e w1 ⟨rfl, hb⟩; have B1 := Lib.hid (box3 hb); have X1 := Lib.hid ((boxes_start _ _ _ _ _ _ _).below hb); clear hb
    obtain ⟨x0, x1, x2, x3, x4, x5, x6⟩ := X1.out
    go_wp2_with fail
    clear x0 x1 x2 x3 x4 x5 x6
    refine (prefix_all _ _ _ N1.out (by omega) (by omega) (HL.out.below B1.out)).mono ?_; rintro e w2 ⟨rfl, hb⟩; have B2 := Lib.hid (below_then B1.out hb); have X2 := Lib.hid (X1.out.below hb); clear hb
    obtain ⟨x0, x1, x2, x3, x4, x5, x6⟩ := X2.out
    go_wp2_with fail
    clear x0 x1 x2 x3 x4 x5 x6
    refine (ticket_all _ _ _ _ M1.out (by omega) (by omega) (by omega) (by omega) (HL.out.below B2.out)).mono ?_; rintro e w3 ⟨rfl, hb⟩; have B3 := Lib.hid (below_then B2.out hb); have X3 := Lib.hid (X2.out.below hb); clear hb
    obtain ⟨x0, x1, x2, x3, x4, x5, x6⟩ := X3.out
    go_wp2_with fail
    clear x0 x1 x2 x3 x4 x5 x6
    refine (ticket_all _ _ _ _ N1.out (by omega) (by omega) (by omega) (by omega) (HL.out.below B3.out)).mono ?_; rintro e w4 ⟨rfl, hb⟩; have B4 := Lib.hid (below_then B3.out hb); have X4 := Lib.hid (X3.out.below hb); clear hb
    obtain ⟨x0, x1, x2, x3, x4, x5, x6⟩ := X4.out
    go_wp2_with fail
    clear x0 x1 x2 x3 x4 x5 x6
    refine (F.out _).mono ?_; rintro e w' ⟨rfl, rfl⟩
    go_wp2_with fail
    refine (live_any _ (HL.out.below B4.out)).mono ?_; rintro e w5 ⟨rfl, hb⟩; have B5 := Lib.hid (below_then B4.out hb); clear hb
    go_wp2
    go_ret
    exact ⟨rfl, B5.out⟩

end Go.Proofs.YtjnmlbenhkhcbabDoor.P
