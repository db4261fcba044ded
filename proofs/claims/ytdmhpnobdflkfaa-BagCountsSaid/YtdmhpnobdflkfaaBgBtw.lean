/- Layer 12: the numbers of the messages between two: the program's way and the document's; whether two lists of numbers are the same. -/
import Derived.Test.YtdmhpnobdflkfaaBg
namespace Go.Proofs.Ytdmhpnobdflkfaa.P
open Go.RowKit Go.Sort
set_option maxHeartbeats 1000000
set_option linter.unusedVariables false
set_option linter.unusedSimpArgs false
set_option maxRecDepth 100000

structure EqI (l m : List Int) (k : Nat) : Prop where
  eq : l.take k = m.take k
theorem ints_any (A B : Option Addr) (n c m d : Nat) (l : List Int) (w : World) (h : Is w A n c l) (g : Is w B m d l) (hm : n ≤ 1000000) :
    Calls Try.prog 41 #[.slice A n c, .slice B m d] w fun e w' => e = .returned (.bool true) ∧ Below w.heap.size w w' := by
  obtain rfl : n = m := h.len.symm.trans g.len
  have H := Lib.hid h
  have G := Lib.hid g
  clear h g
  go_enter Try.func41, Try.ntmps41
  go_wp2
  go_loopw [5] (fun i wr => ∃ j q : Nat, j ≤ n ∧ i = .int .i64 j ∧ wr = w.drewN q) (fun i _ => n - (intOf i).toNat)
  case atStart => exact ⟨0, 0, Nat.zero_le _, rfl, rfl⟩
  case round =>
    obtain ⟨j, q, hj, rfl, rfl⟩ := hrel
    by_cases hlt : j < n
    · obtain ⟨a, x, rfl, hbl, hx, c0⟩ := Is.at_ H.out hlt
      obtain ⟨b, y, rfl, gbl, hy, d0⟩ := Is.at_ G.out hlt
      obtain rfl : x = y := Option.some.inj (hx.symm.trans hy)
      have i0 : (0 : Int) ≤ (j : Int) := by omega
      have i1 : (j : Int) < (n : Int) := by omega
      clear hx hy hbl gbl
      go_wp2
      go_quiet (fail)
      go_wp2
      go_roundw
      case rel => exact ⟨j + 1, _, by omega, by go_num, rfl⟩
      case measure => simp [intOf]; omega
    · obtain rfl : j = n := by omega
      go_wp2
      go_ret
      exact ⟨rfl, below_drewN (Below.refl _ _) _⟩
/-- How a call ends that makes a row of numbers. -/
def IsEnd (l : List Int) (w : World) (e : Ending) (w' : World) : Prop := ∃ A n c, e = .returned (.slice A n c) ∧ Is w' A n c l ∧ Below w.heap.size w w'
theorem equal_way (a b f t : Int) (w : World) : (Op.equalIn 10000 81 (.agg #[.int .i64 a, .int .i64 b]) (.agg #[.int .i64 f, .int .i64 t])).run Try.prog w = .ok (decide (a = f ∧ b = t)) w := by
  have u3 := Try.underlying3
  have a3 := Try.isAgg3
  have z3 := Try.sizeOf3
  rw [show (10000 : Nat) = 9999 + 1 from rfl, Op.equalIn]
  simp only [Sem.run_bind, run_underlying Try.underlying81, Result.andThen_ok]
  simp only [Std.Legacy.Range.forIn_eq_forIn_range', Std.Legacy.Range.size, Nat.sub_zero, Nat.add_sub_cancel, Nat.div_one, List.range'_succ, List.range'_zero, List.forIn_cons, List.forIn_nil]
  go_simp
  by_cases h1 : a = f <;> by_cases h2 : b = t <;> simp [h1, h2]
theorem eql_way (a b f t : Int) (w : World) : (binOp .eql 81 (.agg #[.int .i64 a, .int .i64 b]) (.agg #[.int .i64 f, .int .i64 t])).run Try.prog w = .ok (.bool (decide (a = f ∧ b = t))) w := by
  rw [run_eql_struct, equal_way]
  rfl
theorem btw_full {b : List Msg} {f t : Int} {n : Nat} (h : b.length = n) : btwTo b f t n = btwL b f t := by rw [← h]; rfl
theorem between_any (A : Option Addr) (n c : Nat) (b : List Msg) (f t : Int) (w : World) (h : Ms w A n c b) (hn : n ≤ 1000) :
    Calls Try.prog 42 #[.slice A n c, .int .i64 f, .int .i64 t] w (IsEnd (btwL b f t) w) := by
  have H := Lib.hid h
  have HL := Lib.hid h.len
  clear h
  go_enter Try.func42, Try.ntmps42
  go_wp2
  go_loopw [7, 12] (fun v i wr => ∃ (j k : Nat) (B : Option Addr) (d : Nat), j ≤ n ∧ k ≤ j ∧ v = .slice B k d ∧ i = .int .i64 j ∧ ownG intC 1 3 wr w.heap.size B k d (btwTo b f t j) ∧ Below w.heap.size w wr) (fun _ i _ => n - (intOf i).toNat)
  case atStart => exact ⟨0, 0, none, 0, Nat.zero_le _, Nat.le_refl _, rfl, rfl, ownG_nil _ _ _ _ _, Below.refl _ _⟩
  case round =>
    obtain ⟨j, k, B, d, hj, hkj, rfl, rfl, hown, hbel⟩ := hrel
    have HO := Lib.hid hown; have HB := Lib.hid hbel
    clear hown hbel
    by_cases hlt : j < n
    · obtain ⟨a, x, rfl, hbl, hx, hc⟩ := (H.out.keep HB.out).at_ hlt
      obtain ⟨c0, c1, c2⟩ := hc
      have HM := Lib.hid (btw_more (f := f) (t := t) hx)
      have BN := Lib.hid (HB.out.alloc HB.out.size (x.obj 42))
      have ON := Lib.hid (ownG_keep HO.out (new1 wr (x.obj 42)))
      have hq := eql_way x.frm x.dst f t
      clear hx hbl
      cases hm : isM f t x with
      | true =>
        have hd : decide (x.frm = f ∧ x.dst = t) = true := hm
        rw [hd] at hq
        have HS : Hid (btwTo b f t (j + 1) = btwTo b f t j ++ [(j : Int)]) := Lib.hid (by rw [HM.out, if_pos hm])
        clear hd hm
        go_wp2_with fail
        refine (wayOf_any x _).mono ?_; rintro e w1 ⟨rfl, hb⟩
        have B1 := Lib.hid (BN.out.trans (hb.mono BN.out.size))
        have O1 := Lib.hid (ownG_keep ON.out hb); clear hb
        obtain ⟨B', d', w', hrn, hown', hb'⟩ := app_ints w.heap.size B k d _ w1 (j : Int) O1.out (by omega) B1.out.size
        have HO2 := Lib.hid hown'
        have HB2 := Lib.hid (B1.out.trans hb')
        clear hown' hb'
        go_wp2_with (at_builtin; refine wpList_append_eq _ rfl (.tmp 23) (.tmp 25) _ _ rfl _ _ rfl rfl hrn ?_)
        go_roundw
        case rel => exact ⟨j + 1, k + 1, B', d', by omega, by omega, rfl, by go_num, by rw [HS.out]; exact HO2.out, HB2.out⟩
        case measure => simp [intOf]; omega
      | false =>
        have hd : decide (x.frm = f ∧ x.dst = t) = false := hm
        rw [hd] at hq
        have HS : Hid (btwTo b f t (j + 1) = btwTo b f t j) := Lib.hid (by rw [HM.out, hm]; rfl)
        clear hd hm
        go_wp2_with fail
        refine (wayOf_any x _).mono ?_; rintro e w1 ⟨rfl, hb⟩
        have B1 := Lib.hid (BN.out.trans (hb.mono BN.out.size))
        have O1 := Lib.hid (ownG_keep ON.out hb); clear hb
        go_wp2
        go_roundw
        case rel => exact ⟨j + 1, k, B, d, by omega, by omega, rfl, by go_num, by rw [HS.out]; exact O1.out, B1.out⟩
        case measure => simp [intOf]; omega
    · obtain rfl : j = n := by omega
      have HF := Lib.hid (btw_full (f := f) (t := t) HL.out)
      go_wp2
      go_ret
      exact ⟨B, k, d, rfl, by rw [← HF.out]; exact ownG_rows intC_len (by omega) HO.out, HB.out⟩
theorem between_ref (A : Option Addr) (n c : Nat) (b : List Msg) (f t : Int) (w : World) (h : Ms w A n c b) (hn : n ≤ 1000) :
    Calls Try.prog 43 #[.slice A n c, .int .i64 f, .int .i64 t] w (IsEnd (btwL b f t) w) := by
  have H := Lib.hid h
  have HL := Lib.hid h.len
  clear h
  go_enter Try.func43, Try.ntmps43
  go_wp2
  go_loopw [7, 8] (fun v i wr => ∃ (j k : Nat) (B : Option Addr) (d : Nat), j ≤ n ∧ k ≤ j ∧ v = .slice B k d ∧ i = .int .i64 j ∧ ownG intC 1 3 wr w.heap.size B k d (btwTo b f t j) ∧ Below w.heap.size w wr) (fun _ i _ => n - (intOf i).toNat)
  case atStart => exact ⟨0, 0, none, 0, Nat.zero_le _, Nat.le_refl _, rfl, rfl, ownG_nil _ _ _ _ _, Below.refl _ _⟩
  case round =>
    obtain ⟨j, k, B, d, hj, hkj, rfl, rfl, hown, hbel⟩ := hrel
    have HO := Lib.hid hown; have HB := Lib.hid hbel
    clear hown hbel
    by_cases hlt : j < n
    · obtain ⟨a, x, rfl, hbl, hx, hc⟩ := (H.out.keep HB.out).at_ hlt
      obtain ⟨c0, c1, c2⟩ := hc
      have HM := Lib.hid (btw_more (f := f) (t := t) hx)
      clear hx hbl
      by_cases h0 : x.frm = f
      · by_cases h1 : x.dst = t
        · have HS : Hid (btwTo b f t (j + 1) = btwTo b f t j ++ [(j : Int)]) := Lib.hid (by rw [HM.out, if_pos (show isM f t x = true from decide_eq_true ⟨h0, h1⟩)])
          obtain ⟨B', d', w', hrn, hown', hb'⟩ := app_ints w.heap.size B k d _ wr (j : Int) HO.out (by omega) HB.out.size
          have HO2 := Lib.hid hown'
          have HB2 := Lib.hid (HB.out.trans hb')
          clear hown' hb'
          go_wp2_with (at_builtin; refine wpList_append_eq _ rfl (.tmp 31) (.tmp 33) _ _ rfl _ _ rfl rfl hrn ?_)
          go_roundw
          case rel => exact ⟨j + 1, k + 1, B', d', by omega, by omega, rfl, by go_num, by rw [HS.out]; exact HO2.out, HB2.out⟩
          case measure => simp [intOf]; omega
        · have HS : Hid (btwTo b f t (j + 1) = btwTo b f t j) := Lib.hid (by rw [HM.out, if_neg (by simp [isM, h1])])
          go_wp2
          go_roundw
          case rel => exact ⟨j + 1, k, B, d, by omega, by omega, rfl, by go_num, by rw [HS.out]; exact HO.out, HB.out⟩
          case measure => simp [intOf]; omega
      · have HS : Hid (btwTo b f t (j + 1) = btwTo b f t j) := Lib.hid (by rw [HM.out, if_neg (by simp [isM, h0])])
        go_wp2
        go_roundw
        case rel => exact ⟨j + 1, k, B, d, by omega, by omega, rfl, by go_num, by rw [HS.out]; exact HO.out, HB.out⟩
        case measure => simp [intOf]; omega
    · obtain rfl : j = n := by omega
      have HF := Lib.hid (btw_full (f := f) (t := t) HL.out)
      go_wp2
      go_ret
      exact ⟨B, k, d, rfl, by rw [← HF.out]; exact ownG_rows intC_len (by omega) HO.out, HB.out⟩
end Go.Proofs.Ytdmhpnobdflkfaa.P
