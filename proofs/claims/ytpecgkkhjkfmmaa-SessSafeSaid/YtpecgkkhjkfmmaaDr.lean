/- Layer 11: Rate, Safe, Span; a clock, and one of its ticks; Run: the program's and the document's. -/
import Derived.Test.YtpecgkkhjkfmmaaDrPure
import Derived.Test.YtpecgkkhjkfmmaaGenInts
import Derived.BigQuiet
import Derived.Lib.QuietBelow
import Derived.Deep.RegionHeld3
import Derived.Laws.EntriesVeiled
import Derived.Lib.BufferWrite
import Derived.Lib.BufferOwn
import Derived.WalkSmall
namespace Go.Proofs.Ytpecgkkhjkfmmaa.P
open Go.RowKit Go.Sort
set_option maxHeartbeats 1000000
set_option linter.unusedVariables false
set_option linter.unusedSimpArgs false
set_option maxRecDepth 100000

theorem gb_drew {w w' : World} {row : Option Nat} (h : w.grownBy w' row) : w.grownBy w'.drew row := ⟨h.os, h.tape, h.output, h.size, h.block⟩
theorem rate_ref (b : Int) (s : Bool) (w : World) : Calls Try.prog 43 #[.int .i64 b, .bool s] w fun e w' => e = .returned (.int .i64 (rateP b s)) ∧ w = w' := by
  cases s with
  | true =>
    by_cases h0 : b < 15
    · go_enter Try.func43, Try.ntmps43
      go_wp2
      go_ret
      exact ⟨retIn (by unfold rateP; simp; omega), rfl⟩
    · by_cases h1 : 17 < b
      · go_enter Try.func43, Try.ntmps43
        go_wp2
        go_ret
        exact ⟨retIn (by unfold rateP; simp; omega), rfl⟩
      · go_enter Try.func43, Try.ntmps43
        go_wp2
        go_ret
        exact ⟨retIn (by unfold rateP; simp; omega), rfl⟩
  | false =>
    by_cases h0 : b < 0
    · go_enter Try.func43, Try.ntmps43
      go_wp2
      go_ret
      exact ⟨retIn (by unfold rateP; simp; omega), rfl⟩
    · by_cases h1 : 64 < b
      · go_enter Try.func43, Try.ntmps43
        go_wp2
        go_ret
        exact ⟨retIn (by unfold rateP; simp; omega), rfl⟩
      · go_enter Try.func43, Try.ntmps43
        go_wp2
        go_ret
        exact ⟨retIn (by unfold rateP; simp; omega), rfl⟩
theorem safe_any (t : Int) (w : World) : Calls Try.prog 84 #[.int .i64 t] w fun e w' => e = .returned (.int .i64 (safeP t)) ∧ w = w' := by
  by_cases h0 : t < 1
  · go_enter Try.func84, Try.ntmps84
    go_wp2
    go_ret
    exact ⟨retIn (by unfold safeP; rw [if_pos (Or.inl h0)]), rfl⟩
  · by_cases h1 : 1000 < t
    · go_enter Try.func84, Try.ntmps84
      go_wp2
      go_ret
      exact ⟨retIn (by unfold safeP; rw [if_pos (Or.inr h1)]), rfl⟩
    · have hs : safeP t = t * 15 / 17 := by unfold safeP; rw [if_neg (by omega)]
      go_enter Try.func84, Try.ntmps84
      go_wp2
      go_ret
      exact ⟨rfl, rfl⟩
theorem safe_ref (t : Int) (w : World) : Calls Try.prog 41 #[.int .i64 t] w fun e w' => e = .returned (.int .i64 (safeP t)) ∧ w = w' := by
  by_cases h0 : t < 1
  · go_enter Try.func41, Try.ntmps41
    go_wp2
    go_ret
    exact ⟨retIn (by unfold safeP; rw [if_pos (Or.inl h0)]), rfl⟩
  · by_cases h1 : 1000 < t
    · go_enter Try.func41, Try.ntmps41
      go_wp2
      go_ret
      exact ⟨retIn (by unfold safeP; rw [if_pos (Or.inr h1)]), rfl⟩
    · have hs : safeP t = 15 * t / 17 := by unfold safeP; rw [if_neg (by omega), Int.mul_comm]
      go_enter Try.func41, Try.ntmps41
      go_wp2
      go_ret
      exact ⟨rfl, rfl⟩
def spanB (n : Int) : Bool := decide (0 ≤ n ∧ n ≤ 1073741824)
def spanP (k n : Int) : Int := if spanB n = true then k * n else 0
theorem span_in {n : Int} (h : 0 ≤ n) (h1 : n ≤ 1073741824) (k : Int) : spanP k n = k * n := by
  unfold spanP spanB; rw [if_pos (decide_eq_true ⟨h, h1⟩)]
theorem span_out {n : Int} (h : ¬ (0 ≤ n ∧ n ≤ 1073741824)) (k : Int) : spanP k n = 0 := by
  unfold spanP; rw [if_neg (by unfold spanB; simpa using h)]
theorem retT {a b c d : Int} (h : a = c) (k : b = d) : Ending.returned (.tuple #[.int .i64 a, .int .i64 b]) = .returned (.tuple #[.int .i64 c, .int .i64 d]) := by rw [h, k]
theorem run_out {f : Int} {l : List Int} {s : Bool} (h : f < 0 ∨ 1099511627775 < f) : runP f l s = f := by unfold runP; rw [if_pos h]
theorem run_in {f : Int} {l : List Int} {s : Bool} (h0 : 0 ≤ f) (h1 : f ≤ 1099511627775) : runP f l s = goP f l s := by unfold runP; rw [if_neg (by omega)]
end Go.Proofs.Ytpecgkkhjkfmmaa.P
