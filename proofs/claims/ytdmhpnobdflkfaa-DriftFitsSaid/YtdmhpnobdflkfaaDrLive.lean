/- Layer 11's examples, which each law asks for, too. -/
import Derived.Test.YtdmhpnobdflkfaaDrFits
namespace Go.Proofs.Ytdmhpnobdflkfaa.P
open Go.RowKit Go.Sort
set_option maxHeartbeats 1000000
set_option linter.unusedVariables false
set_option linter.unusedSimpArgs false
set_option maxRecDepth 100000

theorem is_lit (w : World) (cs : Array Value) (l : List Int) (n : Nat) (hcs : cs.toList = flatC intC l) (hn : l.length = n) (hm : n ≤ 1000) : Is (w.alloc (.cells cs 3)) (some ⟨w.heap.size, 0, none⟩) n n l := by
  have h := World.ownsRow_lit (base := w.heap.size) (e := 3) (size := 1) w cs n (Nat.le_refl _) (by simp only [maxLen]; omega) (by rw [← Array.length_toList, hcs, flat_len intC_len, hn])
  rw [hcs] at h
  exact RowsOf.of_own intC_len hn h
theorem r1 (w : World) : Calls Try.prog 20 #[.int .i64 9, .bool true] w fun e w' => e = .returned (.int .i64 15) ∧ w = w' := rate_any 9 true w
theorem r2 (w : World) : Calls Try.prog 20 #[.int .i64 99, .bool true] w fun e w' => e = .returned (.int .i64 17) ∧ w = w' := rate_any 99 true w
theorem r3 (w : World) : Calls Try.prog 20 #[.int .i64 16, .bool true] w fun e w' => e = .returned (.int .i64 16) ∧ w = w' := rate_any 16 true w
theorem r4 (w : World) : Calls Try.prog 20 #[.int .i64 (-1), .bool false] w fun e w' => e = .returned (.int .i64 0) ∧ w = w' := rate_any (-1) false w
theorem r5 (w : World) : Calls Try.prog 20 #[.int .i64 99, .bool false] w fun e w' => e = .returned (.int .i64 64) ∧ w = w' := rate_any 99 false w
abbrev D3 : List Int := [15, 99, 0]
abbrev c3 : Array Value := #[.int .i64 15, .int .i64 99, .int .i64 0]
theorem u1 (w : World) : Calls Try.prog 22 #[.int .i64 5, .slice (some ⟨w.heap.size, 0, none⟩) 3 3, .bool true] (w.alloc (.cells c3 3)) fun e w' => e = .returned (.int .i64 52) ∧ Below (w.alloc (.cells c3 3)).heap.size (w.alloc (.cells c3 3)) w' := run_any _ 3 3 D3 5 true _ (is_lit w c3 D3 3 rfl rfl (by decide))
theorem u2 (w : World) : Calls Try.prog 22 #[.int .i64 5, .slice (some ⟨w.heap.size, 0, none⟩) 3 3, .bool false] (w.alloc (.cells c3 3)) fun e w' => e = .returned (.int .i64 84) ∧ Below (w.alloc (.cells c3 3)).heap.size (w.alloc (.cells c3 3)) w' := run_any _ 3 3 D3 5 false _ (is_lit w c3 D3 3 rfl rfl (by decide))
theorem u3 (w : World) : Calls Try.prog 22 #[.int .i64 (-5), .slice (some ⟨w.heap.size, 0, none⟩) 1 1, .bool true] (w.alloc (.cells #[.int .i64 15] 3)) fun e w' => e = .returned (.int .i64 (-5)) ∧ Below (w.alloc (.cells #[.int .i64 15] 3)).heap.size (w.alloc (.cells #[.int .i64 15] 3)) w' := run_any _ 1 1 [15] (-5) true _ (is_lit w #[.int .i64 15] [15] 1 rfl rfl (by decide))
theorem s1 (w : World) : Calls Try.prog 26 #[.int .i64 34] w fun e w' => e = .returned (.int .i64 30) ∧ w = w' := safe_any 34 w
theorem s2 (w : World) : Calls Try.prog 26 #[.int .i64 0] w fun e w' => e = .returned (.int .i64 0) ∧ w = w' := safe_any 0 w
theorem p1 (w : World) : Calls Try.prog 24 #[.int .i64 3] w fun e w' => e = .returned (.tuple #[.int .i64 45, .int .i64 51]) ∧ w = w' := span_any 3 w
abbrev a15 : Array Value := #[.int .i64 15, .int .i64 15, .int .i64 15]
abbrev a17 : Array Value := #[.int .i64 17, .int .i64 17, .int .i64 17]
theorem f1 (w : World) : Calls Try.prog 28 #[.int .i64 34, .slice (some ⟨w.heap.size, 0, none⟩) 3 3, .slice (some ⟨w.heap.size + 1, 0, none⟩) 3 3] ((w.alloc (.cells a15 3)).alloc (.cells a17 3)) (Ends true ((w.alloc (.cells a15 3)).alloc (.cells a17 3))) := by
  have h2 := is_lit (w.alloc (.cells a15 3)) a17 [17, 17, 17] 3 rfl rfl (by decide)
  rw [show (w.alloc (.cells a15 3)).heap.size = w.heap.size + 1 by simp] at h2
  have h := fits_any 34 _ 3 3 _ _ 3 3 _ _ ((is_lit w a15 [15, 15, 15] 3 rfl rfl (by decide)).below (new1 _ (.cells a17 3))) h2 (by decide) (by decide)
  exact h
theorem f2 (w : World) : Calls Try.prog 28 #[.int .i64 1, .slice none 0 0, .slice none 0 0] w (Ends false w) := fits_any 1 none 0 0 [] none 0 0 [] w (RowsOf.bare w) (RowsOf.bare w) (by decide) (by decide)
theorem live_any (w : World) : Calls Try.prog 19 #[] w fun e w' => e = .returned (.bool true) ∧ Below w.heap.size w w' := by
  go_enter Try.func19, Try.ntmps19
  go_wp2_with fail
  refine (p1 _).mono ?_; rintro e w' ⟨rfl, rfl⟩
  go_wp2_with fail
  refine (r1 _).mono ?_; rintro e w' ⟨rfl, rfl⟩
  go_wp2_with fail
  refine (r2 _).mono ?_; rintro e w' ⟨rfl, rfl⟩
  go_wp2_with fail
  refine (r3 _).mono ?_; rintro e w' ⟨rfl, rfl⟩
  go_wp2_with fail
  refine (r4 _).mono ?_; rintro e w' ⟨rfl, rfl⟩
  go_wp2_with fail
  refine (r5 _).mono ?_; rintro e w' ⟨rfl, rfl⟩
  have B_1 := Lib.hid ((new1 w (.cells #[.int .i64 15, .int .i64 99, .int .i64 0] 3)))
  go_wp2_with fail
  refine (u1 w).mono ?_; rintro e w1 ⟨rfl, hb⟩
  have S_2 := Lib.hid hb; clear hb
  have B_3 := Lib.hid (then_ B_1.out S_2.out)
  clear B_1
  clear S_2
  have B_4 := Lib.hid (then_ B_3.out (new1 w1 (.cells #[.int .i64 15, .int .i64 99, .int .i64 0] 3)))
  clear B_3
  go_wp2_with fail
  refine (u2 w1).mono ?_; rintro e w2 ⟨rfl, hb⟩
  have S_5 := Lib.hid hb; clear hb
  have B_6 := Lib.hid (then_ B_4.out S_5.out)
  clear B_4
  clear S_5
  have B_7 := Lib.hid (then_ B_6.out (new1 w2 (.cells #[.int .i64 15] 3)))
  clear B_6
  go_wp2_with fail
  refine (u3 w2).mono ?_; rintro e w3 ⟨rfl, hb⟩
  have S_8 := Lib.hid hb; clear hb
  have B_9 := Lib.hid (then_ B_7.out S_8.out)
  clear B_7
  clear S_8
  go_wp2_with fail
  refine (s1 _).mono ?_; rintro e w' ⟨rfl, rfl⟩
  go_wp2_with fail
  refine (s2 _).mono ?_; rintro e w' ⟨rfl, rfl⟩
  have B_10 := Lib.hid (then_ B_9.out (new1 w3 (.cells a15 3)))
  clear B_9
  have B_11 := Lib.hid (then_ B_10.out (new1 (w3.alloc (.cells a15 3)) (.cells a17 3)))
  clear B_10
  go_wp2_with fail
  refine (f1 w3).mono ?_; rintro e w4 ⟨rfl, hb⟩
  have S_12 := Lib.hid hb; clear hb
  have B_13 := Lib.hid (then_ B_11.out S_12.out)
  clear B_11
  clear S_12
  go_wp2_with fail
  refine (f2 _).mono ?_; rintro e w5 ⟨rfl, hb⟩
  have S_14 := Lib.hid hb; clear hb
  have B_15 := Lib.hid (then_ B_13.out S_14.out)
  clear B_13
  clear S_14
  go_wp2
  go_ret
  exact ⟨rfl, B_15.out⟩
end Go.Proofs.Ytdmhpnobdflkfaa.P
