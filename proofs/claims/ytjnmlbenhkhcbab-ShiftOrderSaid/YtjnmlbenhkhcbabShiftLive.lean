/- The document's own answers, as the laws of layer 1 ask for them: all as the program gives them. -/
import Derived.Test.YtjnmlbenhkhcbabShiftRead
namespace Go.Proofs.Ytjnmlbenhkhcbab.P
open Go.RowKit
set_option maxHeartbeats 400000
set_option linter.unusedVariables false
set_option maxRecDepth 100000

/-- One call behind the other. -/
theorem below_then {a b c : World} (h : Below a.heap.size a b) (k : Below b.heap.size b c) : Below a.heap.size a c := h.trans (k.mono h.size)

theorem l1 (w : World) : Calls Try.prog 7 #[.string ⟨#[1, 2]⟩] w fun e w' => e = .returned (.tuple #[.int .u64 258, .bool true]) ∧ Below w.heap.size w w' :=
  (narrow_any _ w (by decide)).mono fun e w' h => ⟨h.1.trans rfl, h.2⟩
theorem l2 (w : World) : Calls Try.prog 7 #[.string ⟨#[49, 50, 51, 52, 53, 54, 55, 56, 57]⟩] w fun e w' => e = .returned (.tuple #[.int .u64 0, .bool false]) ∧ w = w' :=
  narrow_long _ w (by decide) (by decide)
theorem l3 (w : World) : Calls Try.prog 9 #[.string ⟨#[120, 172, 2, 121]⟩, .int .i64 1] w fun e w' => e = .returned (.tuple #[.int .u64 300, .int .i64 3, .int .i64 0]) ∧ w = w' :=
  (read_any _ 1 w (by decide) (by decide) (by decide)).mono fun e w' h => ⟨h.1.trans rfl, h.2⟩
theorem l4 (w : World) : Calls Try.prog 9 #[.string ⟨#[128]⟩, .int .i64 0] w fun e w' => e = .returned (.tuple #[.int .u64 0, .int .i64 0, .int .i64 2]) ∧ w = w' :=
  (read_any _ 0 w (by decide) (by decide) (by decide)).mono fun e w' h => ⟨h.1.trans rfl, h.2⟩
theorem l5 (w : World) : Calls Try.prog 9 #[.string ⟨#[128, 0]⟩, .int .i64 0] w fun e w' => e = .returned (.tuple #[.int .u64 0, .int .i64 0, .int .i64 3]) ∧ w = w' :=
  (read_any _ 0 w (by decide) (by decide) (by decide)).mono fun e w' h => ⟨h.1.trans rfl, h.2⟩
theorem l6 (w : World) : Calls Try.prog 10 #[.int .i64 37] w fun e w' => e = .returned (.tuple #[.int .i64 5, .int .i64 2]) ∧ w = w' :=
  (whose_any 37 w (by decide) (by decide)).mono fun e w' h => ⟨h.1.trans rfl, h.2⟩
theorem l7 (w : World) : Calls Try.prog 10 #[.int .i64 (-1)] w fun e w' => e = .returned (.tuple #[.int .i64 (-1), .int .i64 (-1)]) ∧ w = w' :=
  (whose_any (-1) w (by decide) (by decide)).mono fun e w' h => ⟨h.1.trans rfl, h.2⟩
theorem l8 (w : World) : Calls Try.prog 4 #[.int .u64 258, .int .i64 3] w fun e w' => e = .returned (.string ⟨#[0, 1, 2]⟩) ∧ Below w.heap.size w w' :=
  (wide_any 258 3 w (by decide) (by decide) (by decide) (by decide)).mono fun e w' h => ⟨h.1.trans rfl, h.2⟩
theorem l9 (w : World) : Calls Try.prog 4 #[.int .u64 1, .int .i64 9] w fun e w' => e = .returned (.string ⟨#[]⟩) ∧ w = w' :=
  (wide_none 1 9 w (by decide)).mono fun e w' h => ⟨h.1.trans rfl, h.2⟩
theorem l10 (w : World) : Calls Try.prog 11 #[.int .i64 (-3)] w fun e w' => e = .returned (.int .u64 5) ∧ w = w' :=
  (zig_any (-3) w (by decide) (by decide)).mono fun e w' h => ⟨h.1.trans rfl, h.2⟩
theorem l11 (w : World) : Calls Try.prog 12 #[.int .u64 5] w fun e w' => e = .returned (.int .i64 (-3)) ∧ w = w' :=
  (zag_any 5 w (by decide) (by decide)).mono fun e w' h => ⟨h.1.trans rfl, h.2⟩
theorem l12 (w : World) : Calls Try.prog 5 #[.int .u64 300] w fun e w' => e = .returned (.string ⟨#[172, 2]⟩) ∧ Below w.heap.size w w' :=
  (var_any 300 w (by decide) (by decide)).mono fun e w' h => ⟨h.1.trans rfl, h.2⟩
theorem l13 (w : World) : Calls Try.prog 8 #[.int .u64 255, .int .i64 4] w fun e w' => e = .returned (.int .u64 15) ∧ w = w' :=
  (low_any 255 4 w (by decide) (by decide) (by decide) (by decide)).mono fun e w' h => ⟨h.1.trans rfl, h.2⟩
theorem l14 (w : World) : Calls Try.prog 13 #[.int .u64 12, .int .i64 4] w fun e w' => e = .returned (.int .i64 (-4)) ∧ w = w' :=
  (sign_any 12 4 w (by decide) (by decide) (by decide) (by decide)).mono fun e w' h => ⟨h.1.trans rfl, h.2⟩
theorem l15 (w : World) : Calls Try.prog 14 #[.int .i64 5, .int .i64 2] w fun e w' => e = .returned (.int .i64 37) ∧ w = w' :=
  (who_any 5 2 w (by decide) (by decide) (by decide) (by decide)).mono fun e w' h => ⟨h.1.trans rfl, h.2⟩
theorem l16 (w : World) : Calls Try.prog 14 #[.int .i64 16, .int .i64 0] w fun e w' => e = .returned (.int .i64 (-1)) ∧ w = w' :=
  (who_any 16 0 w (by decide) (by decide) (by decide) (by decide)).mono fun e w' h => ⟨h.1.trans rfl, h.2⟩

theorem live_any (w : World) : Calls Try.prog 6 #[] w fun e w' => e = .returned (.bool true) ∧ Below w.heap.size w w' := by
  go_enter Try.func6, Try.ntmps6
  go_wp2_with fail
  refine (l1 _).mono ?_; rintro e w1 ⟨rfl, hb1⟩; have HB1 := Lib.hid hb1; clear hb1
  go_wp2_with fail
  refine (l2 _).mono ?_; rintro e w' ⟨rfl, rfl⟩
  go_wp2_with fail
  refine (l3 _).mono ?_; rintro e w' ⟨rfl, rfl⟩
  go_wp2_with fail
  refine (l4 _).mono ?_; rintro e w' ⟨rfl, rfl⟩
  go_wp2_with fail
  refine (l5 _).mono ?_; rintro e w' ⟨rfl, rfl⟩
  go_wp2_with fail
  refine (l6 _).mono ?_; rintro e w' ⟨rfl, rfl⟩
  go_wp2_with fail
  refine (l7 _).mono ?_; rintro e w' ⟨rfl, rfl⟩
  go_wp2_with fail
  refine (l8 _).mono ?_; rintro e w2 ⟨rfl, hb2⟩; have HB2 := Lib.hid hb2; clear hb2
  go_wp2_with fail
  refine (l9 _).mono ?_; rintro e w' ⟨rfl, rfl⟩
  go_wp2_with fail
  refine (l10 _).mono ?_; rintro e w' ⟨rfl, rfl⟩
  go_wp2_with fail
  refine (l11 _).mono ?_; rintro e w' ⟨rfl, rfl⟩
  go_wp2_with fail
  refine (l12 _).mono ?_; rintro e w3 ⟨rfl, hb3⟩; have HB3 := Lib.hid hb3; clear hb3
  go_wp2_with fail
  refine (l13 _).mono ?_; rintro e w' ⟨rfl, rfl⟩
  go_wp2_with fail
  refine (l14 _).mono ?_; rintro e w' ⟨rfl, rfl⟩
  go_wp2_with fail
  refine (l15 _).mono ?_; rintro e w' ⟨rfl, rfl⟩
  go_wp2_with fail
  refine (l16 _).mono ?_; rintro e w' ⟨rfl, rfl⟩
  go_wp2_with fail
  go_ret
  exact ⟨rfl, (HB1.out.trans (HB2.out.mono HB1.out.size)).trans (HB3.out.mono (Nat.le_trans HB1.out.size HB2.out.size))⟩
end Go.Proofs.Ytjnmlbenhkhcbab.P
