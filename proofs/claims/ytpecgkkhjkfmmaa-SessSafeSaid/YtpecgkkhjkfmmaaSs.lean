/- Layer 14: the program's calls on sessions, and the document's. -/
import Derived.Test.YtpecgkkhjkfmmaaSsPure
import Derived.Test.YtpecgkkhjkfmmaaDr
namespace Go.Proofs.Ytpecgkkhjkfmmaa.P
open Go.RowKit Go.Sort
set_option maxHeartbeats 1000000
set_option linter.unusedVariables false
set_option linter.unusedSimpArgs false
set_option maxRecDepth 100000

theorem none_any (a : Int) (w : World) : Calls Try.prog 64 #[.int .i64 a] w fun e w' => e = .returned (.bool (decide (a = 0))) ∧ w = w' := by
  go_enter Try.func64, Try.ntmps64
  go_wp2
  go_ret
  exact ⟨retB (by first | rfl | simp), rfl⟩
theorem whole_any (a : Int) (w : World) : Calls Try.prog 85 #[.int .i64 a] w fun e w' => e = .returned (.int .i64 a) ∧ w = w' := by
  go_enter Try.func85, Try.ntmps85
  go_wp2
  go_ret
  exact ⟨rfl, rfl⟩
theorem half_any (a : Int) (w : World) (h : 0 ≤ a) (hi : a ≤ 1099511627775) : Calls Try.prog 86 #[.int .i64 a] w fun e w' => e = .returned (.int .i64 (a / 2)) ∧ w = w' := by
  have hw : wrap64 (a / 2) = a / 2 := IntWalk.wrap64_in _ (by omega)
  go_enter Try.func86, Try.ntmps86
  go_wp2
  go_ret
  exact ⟨rfl, rfl⟩
abbrev Ts.agg (a b : Int) : Value := .agg #[.int .i64 a, .int .i64 b]
theorem tsof_any (sent ttl : Int) (w : World) : Calls Try.prog 63 #[.int .i64 sent, .int .i64 ttl] w fun e w' => e = .returned (Ts.agg (safeP ttl) sent) ∧ Below w.heap.size w w' := by
  go_enter Try.func63, Try.ntmps63
  go_wp2_with fail
  refine (safe_any ttl _).mono ?_; rintro e w' ⟨rfl, rfl⟩
  go_wp2
  refine bodyPost_ret (v := Ts.agg (safeP ttl) sent) (by simp [results, Try.results63, go_sem]) rfl ⟨rfl, new1 _ _⟩
theorem stmay_any (a b : Int) (w : World) : Calls Try.prog 65 #[Ts.agg a b] w fun e w' => e = .returned (.bool (atN b)) ∧ Below w.heap.size w w' := by
  have BN := Lib.hid (new1 w (.cells #[.int .i64 a, .int .i64 b] 109))
  by_cases h0 : 0 ≤ b
  · have hd : decide (0 ≤ b) = true := by simp [h0]
    have HN : Hid (decide (b ≤ 1099511627775) = atN b) := Lib.hid (by unfold atN; simp [h0])
    go_enter Try.func65, Try.ntmps65
    go_wp2
    go_ret
    exact ⟨retB HN.out, BN.out⟩
  · have hd : decide (0 ≤ b) = false := by simp [h0]
    have HN : Hid (false = atN b) := Lib.hid (by unfold atN; simp [h0])
    go_enter Try.func65, Try.ntmps65
    go_wp2
    go_ret
    exact ⟨retB HN.out, BN.out⟩
theorem until_any (a b : Int) (w : World) (h : inI (b + a)) : Calls Try.prog 66 #[Ts.agg a b] w fun e w' => e = .returned (.int .i64 (b + a)) ∧ Below w.heap.size w w' := by
  have BN := Lib.hid (new1 w (.cells #[.int .i64 a, .int .i64 b] 109))
  obtain ⟨h1, h2⟩ := h
  have cW := fun n => Calls.quiet_of_same ((whole_any a ((w.alloc (.cells #[.int .i64 a, .int .i64 b] 109)).drewN n)).mono fun e w' h => ⟨h.1, h.2.symm⟩)
  go_enter Try.func66, Try.ntmps66
  go_wp2
  go_quiet ((first | (go_at_call 85; exact cW _)))
  go_wp2
  go_ret
  exact ⟨rfl, below_drewN BN.out _⟩
theorem skeep_any (a b : Int) (w : World) (h : 0 ≤ a) (ha : a ≤ 1099511627775) (hi : inI (b + a / 2)) : Calls Try.prog 67 #[Ts.agg a b] w fun e w' => e = .returned (.int .i64 (b + a / 2)) ∧ Below w.heap.size w w' := by
  have BN := Lib.hid (new1 w (.cells #[.int .i64 a, .int .i64 b] 109))
  obtain ⟨h1, h2⟩ := hi
  have cW := fun n => Calls.quiet_of_same ((half_any a ((w.alloc (.cells #[.int .i64 a, .int .i64 b] 109)).drewN n) h ha).mono fun e w' h => ⟨h.1, h.2.symm⟩)
  go_enter Try.func67, Try.ntmps67
  go_wp2
  go_quiet ((first | (go_at_call 86; exact cW _)))
  go_wp2
  go_ret
  exact ⟨rfl, below_drewN BN.out _⟩
end Go.Proofs.Ytpecgkkhjkfmmaa.P
