/- Layer 1's functions on numbers: what each call answers, the program's and the document's, for every argument. -/
import Derived.Test.YtimbklggifbibaaGreatDoorProg
import Derived.Test.YtimbklggifbibaaGreatDoorShiftPure
import Derived.WalkKit
import Derived.BigQuiet
import Derived.Lib.Hide
namespace Go.Proofs.YtimbklggifbibaaGreatDoor.P
open Go.RowKit
set_option maxHeartbeats 400000

theorem ret_int {k : IntKind} {a b : Int} (h : a = b) : Ending.returned (.int k a) = .returned (.int k b) := by rw [h]
theorem ret_two {k l : IntKind} {a b c d : Int} (h : a = b) (g : c = d) : Ending.returned (.tuple #[.int k a, .int l c]) = .returned (.tuple #[.int k b, .int l d]) := by rw [h, g]





set_option linter.unusedVariables false
theorem low_any (n k : Int) (w : World) (h0 : 0 ≤ n) (h1 : n ≤ 18446744073709551615) (h2 : -9223372036854775808 ≤ k) (h3 : k ≤ 9223372036854775807) :
    Calls Tryz.prog 100 #[.int .u64 n, .int .i64 k] w fun e w' => e = .returned (.int .u64 (lowP n k)) ∧ w = w' := by
  by_cases ha : k < 0
  · go_enter Tryz.func100, Tryz.ntmps100
    go_wp2
    go_ret
    exact ⟨ret_int (low_zero n k (by omega)).symm, rfl⟩
  · by_cases hb : 64 < k
    · go_enter Tryz.func100, Tryz.ntmps100
      go_wp2
      go_ret
      exact ⟨ret_int (low_all n k h0 h1 (by omega)).symm, rfl⟩
    · go_enter Tryz.func100, Tryz.ntmps100
      go_wp2
      go_ret
      exact ⟨ret_int (low_code n k (by omega) (by omega)), rfl⟩






theorem pow4 : (2 : Int) ^ 4 = 16 := rfl
theorem pow36 : (2 : Int) ^ 36 = 68719476736 := by decide
theorem pow40 : (2 : Int) ^ 40 = 1099511627776 := by decide




end Go.Proofs.YtimbklggifbibaaGreatDoor.P
