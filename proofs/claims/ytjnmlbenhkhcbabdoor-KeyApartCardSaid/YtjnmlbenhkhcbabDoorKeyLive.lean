/- The document's own answers, as the laws of layer 2 ask for them: all as the program gives them. -/
import Derived.Test.YtjnmlbenhkhcbabDoorKeyId
namespace Go.Proofs.YtjnmlbenhkhcbabDoor.P
open Go.RowKit
set_option maxHeartbeats 1000000
set_option linter.unusedVariables false
set_option maxRecDepth 100000

theorem below_then {a b c : World} (h : Below a.heap.size a b) (k : Below b.heap.size b c) : Below a.heap.size a c := h.trans (k.mono h.size)

theorem k1 (w : World) (hL : Letters w) : Calls Tryd.prog 11 #[.int .i64 1, .string ⟨#[97]⟩, .int .i64 255] w fun e w' => e = .returned (.tuple #[.string ⟨#[109, 47, 97, 47, 48, 48, 48, 48, 48, 48, 48, 48, 102, 102]⟩, .bool true]) ∧ Below w.heap.size w w' :=
  (ticket_yes 1 ⟨#[97]⟩ 255 w (by decide) (by decide) (by decide) (by decide) (by decide) hL).mono fun e w' h => ⟨h.1.trans (by rw [show ticketB 1 ⟨#[97]⟩ (255 : Int).toNat = ⟨#[109, 47, 97, 47, 48, 48, 48, 48, 48, 48, 48, 48, 102, 102]⟩ by decide +kernel]), h.2⟩
theorem k2 (w : World) (hL : Letters w) : Calls Tryd.prog 11 #[.int .i64 1, .string ⟨#[65]⟩, .int .i64 255] w fun e w' => e = .returned (.tuple #[.string ⟨#[]⟩, .bool false]) ∧ Below w.heap.size w w' :=
  ticket_no 1 ⟨#[65]⟩ 255 w (by decide) (by decide) (by decide) (by decide) (by decide) (by decide) hL
theorem k3 (w : World) (hL : Letters w) : Calls Tryd.prog 9 #[.int .i64 3, .string ⟨#[120, 57]⟩] w fun e w' => e = .returned (.tuple #[.string ⟨#[108, 47, 120, 57, 47]⟩, .bool true]) ∧ Below w.heap.size w w' :=
  (prefix_yes 3 ⟨#[120, 57]⟩ w (by decide) (by decide) (by decide) hL).mono fun e w' h => ⟨h.1.trans (by rw [show prefixB 3 ⟨#[120, 57]⟩ = ⟨#[108, 47, 120, 57, 47]⟩ by decide +kernel]), h.2⟩
theorem k4 (w : World) : Calls Tryd.prog 19 #[.string ⟨#[109, 47, 97, 47]⟩, .string ⟨#[109, 47, 97, 47, 48, 48, 48, 48, 48, 48, 48, 48, 102, 102]⟩] w fun e w' => e = .returned (.tuple #[.int .i64 255, .bool true]) ∧ Below w.heap.size w w' := by
  have e0 : (⟨#[109, 47, 97, 47, 48, 48, 48, 48, 48, 48, 48, 48, 102, 102]⟩ : ByteArray) = ⟨#[109, 47, 97, 47]⟩ ++ ⟨#[48, 48, 48, 48, 48, 48, 48, 48, 102, 102]⟩ := by decide +kernel
  rw [e0]
  exact (id_ten ⟨#[109, 47, 97, 47]⟩ ⟨#[48, 48, 48, 48, 48, 48, 48, 48, 102, 102]⟩ w (by decide) (by decide +kernel)).mono fun e w' h => ⟨h.1.trans (by rw [show idV ⟨#[48, 48, 48, 48, 48, 48, 48, 48, 102, 102]⟩ = 255 by decide +kernel, show hexAll ⟨#[48, 48, 48, 48, 48, 48, 48, 48, 102, 102]⟩ = true by decide +kernel]), h.2⟩
theorem k5 (w : World) : Calls Tryd.prog 19 #[.string ⟨#[109, 47, 97]⟩, .string ⟨#[109, 47, 97, 47, 48, 48, 48, 48, 48, 48, 48, 48, 102, 102]⟩] w fun e w' => e = .returned (.tuple #[.int .i64 0, .bool false]) ∧ w = w' :=
  id_none _ _ w (fun r h hr => by
    have := congrArg ByteArray.size h
    rw [size_app, hr] at this
    exact absurd this (by decide)) (by decide) (by decide)
theorem k6 (w : World) (hL : Letters w) : Calls Tryd.prog 13 #[.string ⟨#[122]⟩] w fun e w' => e = .returned (.tuple #[.string ⟨#[112, 47, 122, 47, 111, 112, 101, 110]⟩, .bool true]) ∧ Below w.heap.size w w' :=
  (flag_yes ⟨#[122]⟩ w (by decide) hL).mono fun e w' h => ⟨h.1.trans (by rw [show prefixB 6 ⟨#[122]⟩ ++ ⟨#[111, 112, 101, 110]⟩ = ⟨#[112, 47, 122, 47, 111, 112, 101, 110]⟩ by decide +kernel]), h.2⟩
theorem k7 (w : World) : Calls Tryd.prog 15 #[.string ⟨#[109, 47, 97, 47, 48, 48, 48, 48, 48, 48, 48, 48, 102, 102]⟩] w fun e w' => e = .returned (.bool true) ∧ Below w.heap.size w w' :=
  (check_any _ w (by decide)).mono fun e w' h => ⟨h.1.trans (ret_bool (by decide +kernel)), h.2⟩
theorem k8 (w : World) : Calls Tryd.prog 15 #[.string ⟨#[97, 32, 98]⟩] w fun e w' => e = .returned (.bool false) ∧ Below w.heap.size w w' :=
  (check_any _ w (by decide)).mono fun e w' h => ⟨h.1.trans (ret_bool (by decide +kernel)), h.2⟩
theorem k9 (w : World) : Calls Tryd.prog 17 #[.string ⟨#[120, 57]⟩] w fun e w' => e = .returned (.bool true) ∧ Below w.heap.size w w' :=
  name_yes _ w (by decide) (by decide)
theorem k10 (w : World) : Calls Tryd.prog 17 #[.string ⟨#[]⟩] w fun e w' => e = .returned (.bool false) ∧ Below w.heap.size w w' :=
  name_no _ w (by decide) (by decide)
theorem k11 (w : World) : Calls Tryd.prog 21 #[.string ⟨#[109, 47, 97, 47]⟩, .string ⟨#[109, 47, 97, 47, 48, 48, 48, 48, 48, 48, 48, 48, 102, 102]⟩] w fun e w' => e = .returned (.bool true) ∧ w = w' := by
  have e0 : (⟨#[109, 47, 97, 47, 48, 48, 48, 48, 48, 48, 48, 48, 102, 102]⟩ : ByteArray) = ⟨#[109, 47, 97, 47]⟩ ++ ⟨#[48, 48, 48, 48, 48, 48, 48, 48, 102, 102]⟩ := by decide +kernel
  rw [e0]
  exact under_yes _ _ w (by decide) (by decide +kernel)
theorem k12 (w : World) : Calls Tryd.prog 21 #[.string ⟨#[109, 47, 97, 47, 48, 48, 48, 48, 48, 48, 48, 48, 102, 102]⟩, .string ⟨#[109, 47, 97, 47, 48, 48, 48, 48, 48, 48, 48, 48, 102, 102]⟩] w fun e w' => e = .returned (.bool false) ∧ w = w' :=
  under_no _ _ w (.inl (Nat.le_refl _)) (by decide) (by decide)

theorem live_any (w : World) (hL : Letters w) : Calls Tryd.prog 8 #[] w fun e w' => e = .returned (.bool true) ∧ Below w.heap.size w w' := by
  have HL := Lib.hid hL
  clear hL
  go_enter Tryd.func8, Tryd.ntmps8
  go_wp2_with fail
  refine (k1 _ HL.out).mono ?_; rintro e w1 ⟨rfl, hb⟩; have B1 := Lib.hid hb; clear hb
  go_wp2_with fail
  refine (k2 _ (HL.out.below B1.out)).mono ?_; rintro e w2 ⟨rfl, hb⟩; have B2 := Lib.hid (below_then B1.out hb); clear hb
  go_wp2_with fail
  refine (k3 _ (HL.out.below B2.out)).mono ?_; rintro e w3 ⟨rfl, hb⟩; have B3 := Lib.hid (below_then B2.out hb); clear hb
  go_wp2_with fail
  refine (k4 _).mono ?_; rintro e w4 ⟨rfl, hb⟩; have B4 := Lib.hid (below_then B3.out hb); clear hb
  go_wp2_with fail
  refine (k5 _).mono ?_; rintro e w' ⟨rfl, rfl⟩
  go_wp2_with fail
  refine (k6 _ (HL.out.below B4.out)).mono ?_; rintro e w6 ⟨rfl, hb⟩; have B6 := Lib.hid (below_then B4.out hb); clear hb
  go_wp2_with fail
  refine (k7 _).mono ?_; rintro e w7 ⟨rfl, hb⟩; have B7 := Lib.hid (below_then B6.out hb); clear hb
  go_wp2_with fail
  refine (k8 _).mono ?_; rintro e w8 ⟨rfl, hb⟩; have B8 := Lib.hid (below_then B7.out hb); clear hb
  go_wp2_with fail
  refine (k9 _).mono ?_; rintro e w9 ⟨rfl, hb⟩; have B9 := Lib.hid (below_then B8.out hb); clear hb
  go_wp2_with fail
  refine (k10 _).mono ?_; rintro e w10 ⟨rfl, hb⟩; have B10 := Lib.hid (below_then B9.out hb); clear hb
  go_wp2_with fail
  refine (k11 _).mono ?_; rintro e w' ⟨rfl, rfl⟩
  go_wp2_with fail
  refine (k12 _).mono ?_; rintro e w' ⟨rfl, rfl⟩
  go_wp2
  go_ret
  exact ⟨rfl, B10.out⟩
end Go.Proofs.YtjnmlbenhkhcbabDoor.P
