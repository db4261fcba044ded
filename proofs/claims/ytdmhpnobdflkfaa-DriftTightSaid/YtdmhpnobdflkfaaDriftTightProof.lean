/- For every number of ticks the law DriftTight answers true: the slowest clock has gone on by just what is safe when the fastest one has gone on by the lease. No condition. -/
import Derived.Laws.MakeOwn
import Derived.Test.YtdmhpnobdflkfaaDrLive
import Derived.Test.YtdmhpnobdflkfaaKeyTwo
import Derived.Test.YtdmhpnobdflkfaaRows
namespace Go.Proofs.Ytdmhpnobdflkfaa.driftTight
open Go.ChangeShapes Go.WideShapes Go.ChangeAt Go.RowKit Go.Proofs.Ytdmhpnobdflkfaa.P
open Go.ChangeMaps (open_string shut_string)
set_option linter.unusedVariables false
set_option linter.unusedSimpArgs false
set_option maxHeartbeats 1000000
set_option maxRecDepth 100000

/-- A row of n numbers, of which j have been laid. -/
def rowA (x : Int) (n j : Nat) : Array Value := (List.replicate j (Value.int .i64 x) ++ List.replicate (n - j) (Value.int .i64 0)).toArray
theorem rowA_set (x : Int) (n j : Nat) (h : j < n) : (rowA x n j).setIfInBounds j (.int .i64 x) = rowA x n (j + 1) := by
  unfold rowA
  apply Array.toList_inj.1
  rw [Array.toList_setIfInBounds, List.toList_toArray, List.toList_toArray]
  rw [List.set_append_right _ _ (by simp), List.length_replicate, Nat.sub_self, show n - j = (n - (j + 1)) + 1 by omega, List.replicate_succ, List.set_cons_zero, List.replicate_succ']
  simp
theorem rowA_size (x : Int) (n j : Nat) (h : j ≤ n) : (rowA x n j).size = n := by unfold rowA; simp; omega
theorem rowA_made (x : Int) (n : Nat) : madeCells (Value.int .i64 0).cells n = rowA x n 0 := by
  apply Array.ext
  · rw [size_madeCells, rowA_size x n 0 (Nat.zero_le _)]
  · intro i h1 h2
    simp [madeCells, rowA, Value.cells, Nat.mod_one]
theorem flat_rep (x : Int) : ∀ n : Nat, flatC intC (List.replicate n x) = List.replicate n (Value.int .i64 x)
  | 0 => rfl
  | n + 1 => by rw [List.replicate_succ, List.replicate_succ, ← flat_rep x n]; rfl
theorem is_full {w : World} {g : Nat} (x : Int) (n : Nat) (h : Own w g 3 (rowA x n n)) (hn : n ≤ 1000) : Is w (some ⟨g, 0, none⟩) n n (List.replicate n x) := by
  have ho : w.ownsRow 0 3 1 (.slice (some ⟨g, 0, none⟩) n n) n (flatC intC (List.replicate n x)) :=
    RowAt.own (cur := rowA x n n) h.ex (Nat.zero_le _) (Nat.le_refl _) (by unfold maxLen; omega) (by rw [rowA_size x n n (Nat.le_refl _), Nat.mul_one]) (by rw [flat_rep]; unfold rowA; simp)
  exact RowsOf.of_own intC_len (by simp) ho
theorem u64 (w : World) : Calls Try.prog 22 #[.int .i64 0, .slice (some ⟨w.heap.size, 0, none⟩) 1 1, .bool false] (w.alloc (.cells #[.int .i64 64] 3)) fun e w' => e = .returned (.int .i64 64) ∧ Below (w.alloc (.cells #[.int .i64 64] 3)).heap.size (w.alloc (.cells #[.int .i64 64] 3)) w' := run_any _ 1 1 [64] 0 false _ (is_lit w #[.int .i64 64] [64] 1 rfl rfl (by decide))
theorem u00 (w : World) : Calls Try.prog 22 #[.int .i64 0, .slice (some ⟨w.heap.size, 0, none⟩) 1 1, .bool false] (w.alloc (.cells #[.int .i64 0] 3)) fun e w' => e = .returned (.int .i64 0) ∧ Below (w.alloc (.cells #[.int .i64 0] 3)).heap.size (w.alloc (.cells #[.int .i64 0] 3)) w' := run_any _ 1 1 [0] 0 false _ (is_lit w #[.int .i64 0] [0] 1 rfl rfl (by decide))
theorem walk (w : World) (a0 : Int) (w0 : (Lit.int .i64 a0).wf = true) :
    Calls Try.prog 6 #[.int .i64 a0] w fun e w' => e = .returned (.bool true) ∧ Below w.heap.size w w' := by
  clear w0
  by_cases h1 : a0 < 1
  · go_enter Try.func6, Try.ntmps6
    go_wp2_with fail
    refine (live_any _).mono ?_; rintro e w1 ⟨rfl, hb⟩
    have HB := Lib.hid hb; clear hb
    go_wp2
    go_ret
    exact ⟨rfl, HB.out⟩
  · by_cases h2 : 58 < a0
    · go_enter Try.func6, Try.ntmps6
      go_wp2_with fail
      refine (live_any _).mono ?_; rintro e w1 ⟨rfl, hb⟩
      have HB := Lib.hid hb; clear hb
      go_wp2
      go_ret
      exact ⟨rfl, HB.out⟩
    · obtain ⟨n, rfl⟩ : ∃ n : Nat, a0 = (n : Int) := ⟨a0.toNat, by omega⟩
      obtain ⟨i0, hi0, hz0, hz1, hz2⟩ := info_parts1 int_info
      have hmk : ∀ w, (Instr.makeSlice 22 (.int .i64 (n : Int)) (.int .i64 (n : Int))).run Try.prog w = .ok (.slice (some ⟨w.heap.size, 0, none⟩) n n) (w.alloc (.cells (madeCells (Value.int .i64 0).cells n) 3)) := fun w => by
        have := run_make (P := Try.prog) w 22 3 i0 zeroIntV Try.underlying22 hi0 hz0 .i64 .i64 n n (by omega) (by omega) (by rw [hz2]; omega) (by omega)
        simp only [Int.toNat_natCast, hz1, Nat.mul_one] at this
        exact this
      have hn1 : 1 ≤ n := by omega
      have hn2 : n ≤ 58 := by omega
      have hw1 : ¬ ((n : Int) < 1) := by omega
      have hw2 : ¬ (58 < (n : Int)) := by omega
      have hs1 : safeP (17 * (n : Int)) = 15 * (n : Int) := by unfold safeP; rw [if_neg (by omega)]; omega
      have hr15 : runP 0 (List.replicate n 15) true = 15 * (n : Int) := by rw [run_in (by omega) (by omega), go_rep 0 n 15 (by omega) (by omega)]; show 0 + (n : Int) * 15 = _; omega
      have hr17 : runP 0 (List.replicate n 17) true = 17 * (n : Int) := by rw [run_in (by omega) (by omega), go_rep 0 n 17 (by omega) (by omega)]; show 0 + (n : Int) * 17 = _; omega
      have cA := Lib.hid (fun (w2 : World) (g : Nat) (h : Is w2 (some ⟨g, 0, none⟩) n n (List.replicate n 15)) => run_any _ n n _ 0 true w2 h)
      have cB := Lib.hid (fun (w2 : World) (g : Nat) (h : Is w2 (some ⟨g, 0, none⟩) n n (List.replicate n 17)) => run_any _ n n _ 0 true w2 h)
      have cC := Lib.hid (fun (w2 : World) (g : Nat) (h : Is w2 (some ⟨g, 0, none⟩) n n (List.replicate n 15)) => (show Calls Try.prog 22 #[.int .i64 0, .slice (some ⟨g, 0, none⟩) 1 n, .bool false] w2 fun e w' => e = .returned (.int .i64 15) ∧ Below w2.heap.size w2 w' by
        have e : (List.replicate n (15 : Int)).take 1 = [15] := by rw [List.take_replicate, show min 1 n = 1 by omega]; rfl
        have := h.take hn1
        rw [e] at this
        exact run_any _ 1 n [15] 0 false w2 this))
      have cS := Lib.hid (fun w => safe_any (17 * (n : Int)) w)
      have cP := Lib.hid (fun w => span_any (n : Int) w)
      rw [hr15] at cA; rw [hr17] at cB; rw [hs1] at cS
      rw [span_in (by omega) (by omega), span_in (by omega) (by omega)] at cP
      have HMK := Lib.hid (rowA_made 15 n)
      have HMK2 := Lib.hid (rowA_made 17 n)
      clear hs1 hr15 hr17 hi0 hz0 hz1 hz2 h1 h2
      have hmk2 : ∀ w, (Instr.makeSlice 22 (.int .i64 (n : Int)) (.int .i64 (n : Int))).run Try.prog w = .ok (.slice (some ⟨w.heap.size, 0, none⟩) n n) (w.alloc (.cells (rowA 0 n 0) 3)) := fun w => by rw [hmk, HMK.out]; rfl
      clear hmk
      have hz : ∀ x, rowA 0 n 0 = rowA x n 0 := fun x => by unfold rowA; simp
      have O1 := Lib.hid (own_new w (rowA 0 n 0) 3)
      have O2 := Lib.hid (own_new2 w (.cells (rowA 0 n 0) 3) (rowA 0 n 0) 3)
      have B0 := Lib.hid (((Below.refl w.heap.size w).alloc (Nat.le_refl _) (.cells (rowA 0 n 0) 3)).alloc (by simp) (.cells (rowA 0 n 0) 3))
      have W15 : IntKind.i64.wrap (17 * (n : Int)) = 17 * (n : Int) := IntWalk.i64_in _ (by omega)
      go_enter Try.func6, Try.ntmps6
      go_wp2
      go_loopw [6] (fun i wr => ∃ j : Nat, j ≤ n ∧ i = .int .i64 j ∧ Own wr w.heap.size 3 (rowA 15 n j) ∧ Own wr (w.heap.size + 1) 3 (rowA 17 n j) ∧ Below w.heap.size w wr) (fun i _ => n - (intOf i).toNat)
      case atStart => exact ⟨0, Nat.zero_le _, rfl, by rw [← hz]; exact O1.out.alloc _, by rw [← hz]; exact O2.out, B0.out⟩
      case round =>
        obtain ⟨j, hj, rfl, o1, o2, hbel⟩ := hrel
        have P1 := Lib.hid o1; have P2 := Lib.hid o2; have HB := Lib.hid hbel
        clear o1 o2 hbel
        by_cases hlt : j < n
        · have ij : (j : Int) < (n : Int) := by omega
          have i0 : (0 : Int) ≤ (j : Int) := by omega
          have hne1 : w.heap.size ≠ w.heap.size + 1 := by omega
          have c1 : (wr.cell? ⟨w.heap.size, j, none⟩).isSome = true := by
            rw [P1.out.cell j ((rowA 15 n j)[j]'(by rw [rowA_size 15 n j hj]; exact hlt)) (Array.getElem?_eq_getElem _)]; rfl
          have c2 : (wr.cell? ⟨w.heap.size + 1, j, none⟩).isSome = true := by
            rw [P2.out.cell j ((rowA 17 n j)[j]'(by rw [rowA_size 17 n j hj]; exact hlt)) (Array.getElem?_eq_getElem _)]; rfl
          have f1 := P1.out.frozen j
          have f2 := P2.out.frozen j
          obtain ⟨v1, e1⟩ := Option.isSome_iff_exists.1 c1
          obtain ⟨v2, e2⟩ := Option.isSome_iff_exists.1 c2
          clear c1 c2
          go_wp2
          go_roundw
          case rel => exact ⟨j + 1, by omega, by go_num, by rw [← rowA_set 15 n j hlt]; exact (P1.out.set j _).kept (Lib.grownBy_setCell _ _ _ _) (by intro e; injection e; omega), by rw [← rowA_set 17 n j hlt]; exact (P2.out.kept (Lib.grownBy_setCell _ _ _ _) (by intro e; injection e; omega)).set j _, (HB.out.setCell (p := ⟨w.heap.size, j, none⟩) (Nat.le_refl _) _).setCell (p := ⟨w.heap.size + 1, j, none⟩) (Nat.le_succ _) _⟩
          case measure => simp [intOf]; omega
        · obtain rfl : j = n := by omega
          have R1_0 := Lib.hid (is_full 15 j P1.out (by omega))
          have R2_0 := Lib.hid (is_full 17 j P2.out (by omega))
          have hj0 : (0 : Int) ≤ (j : Int) := by omega
          have hj1 : (1 : Int) ≤ (j : Int) := by omega
          have ee : ∀ b : Int, (b == b) = true := fun b => by simp
          clear hz hmk2 W15 P1 P2
          go_wp2_with fail
          refine (cP.out _).mono ?_; rintro e w' ⟨rfl, rfl⟩
          go_wp2_with fail
          refine (cA.out wr _ R1_0.out).mono ?_; rintro e w1 ⟨rfl, hb⟩
          have S_1 := Lib.hid hb; clear hb
          have R1_2 := Lib.hid (R1_0.out.below S_1.out)
          have R2_3 := Lib.hid (R2_0.out.below S_1.out)
          have B_4 := Lib.hid (then_ HB.out S_1.out)
          clear R1_0 R2_0 HB
          clear S_1
          go_wp2_with fail
          refine (cS.out _).mono ?_; rintro e w' ⟨rfl, rfl⟩
          go_wp2_with fail
          refine (cB.out w1 _ R2_3.out).mono ?_; rintro e w2 ⟨rfl, hb⟩
          have S_5 := Lib.hid hb; clear hb
          have R1_6 := Lib.hid (R1_2.out.below S_5.out)
          have R2_7 := Lib.hid (R2_3.out.below S_5.out)
          have B_8 := Lib.hid (then_ B_4.out S_5.out)
          clear R1_2 R2_3 B_4
          clear S_5
          go_wp2_with fail
          refine (cS.out _).mono ?_; rintro e w' ⟨rfl, rfl⟩
          go_wp2_with fail
          refine (cC.out w2 _ R1_6.out).mono ?_; rintro e w3 ⟨rfl, hb⟩
          have S_9 := Lib.hid hb; clear hb
          have R1_10 := Lib.hid (R1_6.out.below S_9.out)
          have R2_11 := Lib.hid (R2_7.out.below S_9.out)
          have B_12 := Lib.hid (then_ B_8.out S_9.out)
          clear R1_6 R2_7 B_8
          clear S_9
          have R1_13 := Lib.hid (R1_10.out.below (new1 w3 (.cells #[.int .i64 64] 3)))
          have R2_14 := Lib.hid (R2_11.out.below (new1 w3 (.cells #[.int .i64 64] 3)))
          have B_15 := Lib.hid (then_ B_12.out (new1 w3 (.cells #[.int .i64 64] 3)))
          clear R1_10 R2_11 B_12
          go_wp2_with fail
          refine (u64 w3).mono ?_; rintro e w4 ⟨rfl, hb⟩
          have S_16 := Lib.hid hb; clear hb
          have R1_17 := Lib.hid (R1_13.out.below S_16.out)
          have R2_18 := Lib.hid (R2_14.out.below S_16.out)
          have B_19 := Lib.hid (then_ B_15.out S_16.out)
          clear R1_13 R2_14 B_15
          clear S_16
          have R1_20 := Lib.hid (R1_17.out.below (new1 w4 (.cells #[.int .i64 0] 3)))
          have R2_21 := Lib.hid (R2_18.out.below (new1 w4 (.cells #[.int .i64 0] 3)))
          have B_22 := Lib.hid (then_ B_19.out (new1 w4 (.cells #[.int .i64 0] 3)))
          clear R1_17 R2_18 B_19
          go_wp2_with fail
          refine (u00 w4).mono ?_; rintro e w5 ⟨rfl, hb⟩
          have S_23 := Lib.hid hb; clear hb
          have R1_24 := Lib.hid (R1_20.out.below S_23.out)
          have R2_25 := Lib.hid (R2_21.out.below S_23.out)
          have B_26 := Lib.hid (then_ B_22.out S_23.out)
          clear R1_20 R2_21 B_22
          clear S_23
          go_wp2_with fail
          refine (live_any _).mono ?_; rintro e w6 ⟨rfl, hb⟩
          have S_27 := Lib.hid hb; clear hb
          have R1_28 := Lib.hid (R1_24.out.below S_27.out)
          have R2_29 := Lib.hid (R2_25.out.below S_27.out)
          have B_30 := Lib.hid (then_ B_26.out S_27.out)
          clear R1_24 R2_25 B_26
          clear S_27
          go_wp2
          go_ret
          exact ⟨rfl, B_30.out⟩

theorem own : ownKnob Try.prog.godebug = none := by kernel_rfl
theorem laidOut : laidOutB Try.prog = true := by kernel_rfl

set_option maxRecDepth 100000 in
theorem lifted (os : Os) (started : os.Started) (H : Type) (enc : TypeId × Value → H) :
    ReturnsInHanded {} Try.checked os 6 .any (Rows.driftTightSpec.pre6 enc Try.prog Try.f6 Rows.driftTightRow.domain false) (Rows.driftTightSpec.post enc Try.prog Try.f6 false true false false) := by
  refine returnsInHanded_of_change (C := Try.checked) own started (by kernel_rfl) Try.func6
    (ChangeSpec.witness6 (enc := enc) (C := Try.checked) false ⟨#[], #[(.int .i64 0)], []⟩ 8 (by kernel_rfl) (by kernel_rfl) (by kernel_rfl) (by kernel_rfl)) ?_
  intro W base args ds gs before hval0 hW hcnd _
  have hval : ∀ (j : Nat) t v, Try.f6.params[j]? = some t → args[j]? = some v → Value.okWide Try.prog W .any base t v := hval0
  have hW' := hW
  obtain ⟨p, q, hA0, hV, rfl, hfz, hnd⟩ := hW
  have hA : DataW.TrodAll enc Try.prog W 0 (fun _ => true) true Try.f6.params.toList args.toList ds p := hA0
  rw [Try.params6] at hA hval
  obtain ⟨v0, vs0, d0, ds0, p0, q0, hargs, rfl, rfl, h0, r0⟩ := trodAll_cons hA
  obtain ⟨rfl, rfl, rfl⟩ := trodAll_nil r0
  obtain rfl : args = #[v0] := by cases args; simp_all
  obtain ⟨rfl, rfl⟩ := trodVars_none hV
  obtain ⟨a0, rfl, rfl, rfl, w0⟩ := open_int Try.underlying3 (hval 0 3 v0 rfl rfl) h0
  clear hA0 hval0
  refine (walk W a0 w0).mono fun e W' ⟨he, bel⟩ => ?_
  subst he
  exact ⟨_, rfl, _, _, _, [], _, [], hW', trodAll_mk1 (shut_bool Try.underlying4 _), (trodAll_cons_mk (shut_int Try.underlying3 w0) trodAll_mk0), rfl, bel.frame _, fun h => by cases h⟩

theorem over : Rows.driftTightRow.holds Try.pinned (OpenSpec.ofChange Rows.driftTightSpec) :=
  OpenClaim.holds_of_wide 6 Try.f6 rfl rfl rfl rfl rfl rfl rfl ⟨rfl, rfl, rfl, rfl, rfl⟩ rfl rfl rfl rfl rfl (by kernel_rfl) Try.func6 (by kernel_rfl)
    (of_decide_eq_true (by kernel_rfl)) (by unfold Func.isWrapper; first | (rw [if_pos (by decide +kernel)]; kernel_rfl) | (rw [if_neg (by decide +kernel)]; exact ⟨rfl, rfl⟩))
    (fun os started H enc _ => lifted os started H enc)

theorem proved : Rows.DriftTightSaid := over
#print axioms proved
end Go.Proofs.Ytdmhpnobdflkfaa.driftTight
