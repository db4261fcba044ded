/- Layer 11: Rate, Safe, Span; a clock, and one of its ticks; Run: the program's and the document's. -/
import Derived.Test.YtdmhpnobdflkfaaDrPure
import Derived.Test.YtdmhpnobdflkfaaGenInts
import Derived.BigQuiet
import Derived.Lib.QuietBelow
import Derived.Deep.RegionHeld3
import Derived.Laws.EntriesVeiled
import Derived.Lib.BufferWrite
import Derived.Lib.BufferOwn
import Derived.WalkSmall
namespace Go.Proofs.Ytdmhpnobdflkfaa.P
open Go.RowKit Go.Sort
set_option maxHeartbeats 1000000
set_option linter.unusedVariables false
set_option linter.unusedSimpArgs false
set_option maxRecDepth 100000

theorem gb_drew {w w' : World} {row : Option Nat} (h : w.grownBy w' row) : w.grownBy w'.drew row := ⟨h.os, h.tape, h.output, h.size, h.block⟩
theorem rate_any (b : Int) (s : Bool) (w : World) : Calls Try.prog 20 #[.int .i64 b, .bool s] w fun e w' => e = .returned (.int .i64 (rateP b s)) ∧ w = w' := by
  cases s with
  | true =>
    by_cases h0 : b < 15
    · go_enter Try.func20, Try.ntmps20
      go_wp2
      go_ret
      exact ⟨retI (by unfold rateP; simp; omega), rfl⟩
    · by_cases h1 : 17 < b
      · go_enter Try.func20, Try.ntmps20
        go_wp2
        go_ret
        exact ⟨retI (by unfold rateP; simp; omega), rfl⟩
      · go_enter Try.func20, Try.ntmps20
        go_wp2
        go_ret
        exact ⟨retI (by unfold rateP; simp; omega), rfl⟩
  | false =>
    by_cases h0 : b < 0
    · go_enter Try.func20, Try.ntmps20
      go_wp2
      go_ret
      exact ⟨retI (by unfold rateP; simp; omega), rfl⟩
    · by_cases h1 : 64 < b
      · go_enter Try.func20, Try.ntmps20
        go_wp2
        go_ret
        exact ⟨retI (by unfold rateP; simp; omega), rfl⟩
      · go_enter Try.func20, Try.ntmps20
        go_wp2
        go_ret
        exact ⟨retI (by unfold rateP; simp; omega), rfl⟩
theorem rate_ref (b : Int) (s : Bool) (w : World) : Calls Try.prog 21 #[.int .i64 b, .bool s] w fun e w' => e = .returned (.int .i64 (rateP b s)) ∧ w = w' := by
  cases s with
  | true =>
    by_cases h0 : b < 15
    · go_enter Try.func21, Try.ntmps21
      go_wp2
      go_ret
      exact ⟨retI (by unfold rateP; simp; omega), rfl⟩
    · by_cases h1 : 17 < b
      · go_enter Try.func21, Try.ntmps21
        go_wp2
        go_ret
        exact ⟨retI (by unfold rateP; simp; omega), rfl⟩
      · go_enter Try.func21, Try.ntmps21
        go_wp2
        go_ret
        exact ⟨retI (by unfold rateP; simp; omega), rfl⟩
  | false =>
    by_cases h0 : b < 0
    · go_enter Try.func21, Try.ntmps21
      go_wp2
      go_ret
      exact ⟨retI (by unfold rateP; simp; omega), rfl⟩
    · by_cases h1 : 64 < b
      · go_enter Try.func21, Try.ntmps21
        go_wp2
        go_ret
        exact ⟨retI (by unfold rateP; simp; omega), rfl⟩
      · go_enter Try.func21, Try.ntmps21
        go_wp2
        go_ret
        exact ⟨retI (by unfold rateP; simp; omega), rfl⟩
theorem safe_any (t : Int) (w : World) : Calls Try.prog 26 #[.int .i64 t] w fun e w' => e = .returned (.int .i64 (safeP t)) ∧ w = w' := by
  by_cases h0 : t < 1
  · go_enter Try.func26, Try.ntmps26
    go_wp2
    go_ret
    exact ⟨retI (by unfold safeP; rw [if_pos (Or.inl h0)]), rfl⟩
  · by_cases h1 : 1000 < t
    · go_enter Try.func26, Try.ntmps26
      go_wp2
      go_ret
      exact ⟨retI (by unfold safeP; rw [if_pos (Or.inr h1)]), rfl⟩
    · have hs : safeP t = t * 15 / 17 := by unfold safeP; rw [if_neg (by omega)]
      go_enter Try.func26, Try.ntmps26
      go_wp2
      go_ret
      exact ⟨rfl, rfl⟩
theorem safe_ref (t : Int) (w : World) : Calls Try.prog 27 #[.int .i64 t] w fun e w' => e = .returned (.int .i64 (safeP t)) ∧ w = w' := by
  by_cases h0 : t < 1
  · go_enter Try.func27, Try.ntmps27
    go_wp2
    go_ret
    exact ⟨retI (by unfold safeP; rw [if_pos (Or.inl h0)]), rfl⟩
  · by_cases h1 : 1000 < t
    · go_enter Try.func27, Try.ntmps27
      go_wp2
      go_ret
      exact ⟨retI (by unfold safeP; rw [if_pos (Or.inr h1)]), rfl⟩
    · have hs : safeP t = 15 * t / 17 := by unfold safeP; rw [if_neg (by omega), Int.mul_comm]
      go_enter Try.func27, Try.ntmps27
      go_wp2
      go_ret
      exact ⟨rfl, rfl⟩
def spanB (n : Int) : Bool := decide (0 ≤ n ∧ n ≤ 1073741824)
def spanP (k n : Int) : Int := if spanB n = true then k * n else 0
theorem span_in {n : Int} (h : 0 ≤ n) (h1 : n ≤ 1073741824) (k : Int) : spanP k n = k * n := by
  unfold spanP spanB; rw [if_pos (decide_eq_true ⟨h, h1⟩)]
theorem span_out {n : Int} (h : ¬ (0 ≤ n ∧ n ≤ 1073741824)) (k : Int) : spanP k n = 0 := by
  unfold spanP; rw [if_neg (by unfold spanB; simpa using h)]
theorem retT {a b c d : Int} (h : a = c) (k : b = d) : Ending.returned (.tuple #[.int .i64 a, .int .i64 b]) = .returned (.tuple #[.int .i64 c, .int .i64 d]) := by rw [h, k]
theorem span_any (n : Int) (w : World) : Calls Try.prog 24 #[.int .i64 n] w fun e w' => e = .returned (.tuple #[.int .i64 (spanP 15 n), .int .i64 (spanP 17 n)]) ∧ w = w' := by
  by_cases h0 : n < 0
  · have HS := Lib.hid (fun k => span_out (n := n) (by omega) k)
    go_enter Try.func24, Try.ntmps24
    go_wp2
    refine bodyPost_ret (v := .tuple #[.int .i64 0, .int .i64 0]) (by simp [results, Try.results24, go_sem]) rfl ⟨retT (HS.out 15).symm (HS.out 17).symm, rfl⟩
  · by_cases h1 : 1073741824 < n
    · have HS := Lib.hid (fun k => span_out (n := n) (by omega) k)
      go_enter Try.func24, Try.ntmps24
      go_wp2
      refine bodyPost_ret (v := .tuple #[.int .i64 0, .int .i64 0]) (by simp [results, Try.results24, go_sem]) rfl ⟨retT (HS.out 15).symm (HS.out 17).symm, rfl⟩
    · have HS := Lib.hid (fun k => span_in (n := n) (by omega) (by omega) k)
      go_enter Try.func24, Try.ntmps24
      go_wp2
      refine bodyPost_ret (v := .tuple #[.int .i64 (n * 15), .int .i64 (n * 17)]) (by simp [results, Try.results24, go_sem]) rfl ⟨retT (by rw [HS.out]; omega) (by rw [HS.out]; omega), rfl⟩
theorem span_ref (n : Int) (w : World) : Calls Try.prog 25 #[.int .i64 n] w fun e w' => e = .returned (.tuple #[.int .i64 (spanP 15 n), .int .i64 (spanP 17 n)]) ∧ w = w' := by
  by_cases h0 : n < 0
  · have HS := Lib.hid (fun k => span_out (n := n) (by omega) k)
    go_enter Try.func25, Try.ntmps25
    go_wp2
    refine bodyPost_ret (v := .tuple #[.int .i64 0, .int .i64 0]) (by simp [results, Try.results25, go_sem]) rfl ⟨retT (HS.out 15).symm (HS.out 17).symm, rfl⟩
  · by_cases h1 : 1073741824 < n
    · have HS := Lib.hid (fun k => span_out (n := n) (by omega) k)
      go_enter Try.func25, Try.ntmps25
      go_wp2
      refine bodyPost_ret (v := .tuple #[.int .i64 0, .int .i64 0]) (by simp [results, Try.results25, go_sem]) rfl ⟨retT (HS.out 15).symm (HS.out 17).symm, rfl⟩
    · have HS := Lib.hid (fun k => span_in (n := n) (by omega) (by omega) k)
      go_enter Try.func25, Try.ntmps25
      go_wp2
      refine bodyPost_ret (v := .tuple #[.int .i64 (15 * n), .int .i64 (17 * n)]) (by simp [results, Try.results25, go_sem]) rfl ⟨retT (by rw [HS.out]) (by rw [HS.out]), rfl⟩
/-- A clock: its two boxes. -/
theorem clock_any (at_ : Int) (s : Bool) (w : World) : Calls Try.prog 58 #[.int .i64 at_, .bool s] w fun e w' => e = .returned (.func (.func 82) #[] #[.pointer (some ⟨w.heap.size, 0, none⟩), .pointer (some ⟨w.heap.size + 1, 0, none⟩)]) ∧
      Own w' w.heap.size 3 #[.int .i64 at_] ∧ Own w' (w.heap.size + 1) 4 #[.bool s] ∧ w'.heap.size = w.heap.size + 2 ∧ Below w.heap.size w w' := by
  go_enter Try.func58, Try.ntmps58
  go_wp2
  go_ret
  exact ⟨rfl, (own_new w _ _).alloc _, own_new2 w _ _ _, by simp, ((Below.refl _ _).alloc (Nat.le_refl _) _).alloc (by simp) _⟩
/-- A tick of a clock that stands in box p. -/
theorem tick_any (b at_ : Int) (s : Bool) (p q : Nat) (w : World) (hp : Own w p 3 #[.int .i64 at_]) (hq : Own w q 4 #[.bool s]) (h0 : 0 ≤ at_) (h1 : at_ ≤ 1099511627775) :
    Calls Try.prog 82 #[.int .i64 b, .pointer (some ⟨p, 0, none⟩), .pointer (some ⟨q, 0, none⟩)] w fun e w' => e = .returned (.int .i64 (tickP s at_ b)) ∧ Own w' p 3 #[.int .i64 (tickP s at_ b)] ∧ w.grownBy w' (some p) := by
  obtain ⟨hr0, hr1⟩ := rate_range b s
  have c0 : w.cell? ⟨p, 0, none⟩ = some (.int .i64 at_) := hp.cell 0 _ rfl
  have c1 : w.cell? ⟨q, 0, none⟩ = some (.bool s) := hq.cell 0 _ rfl
  have f0 := hp.frozen 0
  have hlt := hp.lt
  have cR := Lib.hid (fun w => rate_any b s w)
  have HT : Hid (∀ v, v = tickP s at_ b → Own ((w.setCell ⟨p, 0, none⟩ (.int .i64 v)).drew) p 3 #[.int .i64 (tickP s at_ b)] ∧ w.grownBy ((w.setCell ⟨p, 0, none⟩ (.int .i64 v)).drew) (some p)) := Lib.hid (fun v hv => by
    subst hv
    exact ⟨(hp.set 0 _).below (new_drew _), gb_drew (Lib.grownBy_setCell w p 0 _)⟩)
  clear hq hp
  have ht : Hid (tickP s at_ b = if 1099511627775 < at_ + rateP b s then 1099511627775 else at_ + rateP b s) := Lib.hid rfl
  generalize rateP b s = r at *
  by_cases hc : 1099511627775 < at_ + r
  · have ht1 : Hid (1099511627775 = tickP s at_ b) := Lib.hid (by rw [ht.out, if_pos hc])
    have hw : IntKind.i64.wrap (at_ + r) = at_ + r := IntWalk.i64_in _ (by omega)
    go_enter Try.func82, Try.ntmps82
    go_wp2
    go_region_with (refine (cR.out _).mono ?_; rintro e w' ⟨rfl, rfl⟩)
    all_goals go_wp2
    all_goals go_ret
    all_goals exact ⟨retI ht1.out, HT.out _ ht1.out⟩
  · have ht1 : Hid (at_ + r = tickP s at_ b) := Lib.hid (by rw [ht.out, if_neg hc])
    have hw : IntKind.i64.wrap (at_ + r) = at_ + r := IntWalk.i64_in _ (by omega)
    go_enter Try.func82, Try.ntmps82
    go_wp2
    go_region_with (refine (cR.out _).mono ?_; rintro e w' ⟨rfl, rfl⟩)
    all_goals go_wp2
    all_goals go_ret
    all_goals exact ⟨retI ht1.out, HT.out _ ht1.out⟩
theorem run_out {f : Int} {l : List Int} {s : Bool} (h : f < 0 ∨ 1099511627775 < f) : runP f l s = f := by unfold runP; rw [if_pos h]
theorem run_in {f : Int} {l : List Int} {s : Bool} (h0 : 0 ≤ f) (h1 : f ≤ 1099511627775) : runP f l s = goP f l s := by unfold runP; rw [if_neg (by omega)]
theorem run_any (A : Option Addr) (n c : Nat) (l : List Int) (f : Int) (s : Bool) (w : World) (h : Is w A n c l) :
    Calls Try.prog 22 #[.int .i64 f, .slice A n c, .bool s] w fun e w' => e = .returned (.int .i64 (runP f l s)) ∧ Below w.heap.size w w' := by
  by_cases h0 : f < 0
  · have HR := Lib.hid (run_out (l := l) (s := s) (Or.inl h0))
    go_enter Try.func22, Try.ntmps22
    go_wp2
    go_ret
    exact ⟨retI HR.out.symm, Below.refl _ _⟩
  · by_cases h1 : 1099511627775 < f
    · have HR := Lib.hid (run_out (l := l) (s := s) (Or.inr h1))
      go_enter Try.func22, Try.ntmps22
      go_wp2
      go_ret
      exact ⟨retI HR.out.symm, Below.refl _ _⟩
    · have HR := Lib.hid (run_in (l := l) (s := s) (f := f) (by omega) (by omega))
      have HG := Lib.hid (fun m : List Int => go_range s m f (by omega) (by omega))
      have HL := Lib.hid h.len
      have H := Lib.hid h
      have hmax := Nat.le_trans h.le h.max
      unfold maxLen at hmax
      clear h
      go_enter Try.func22, Try.ntmps22
      go_wp2_with fail
      refine (clock_any f s w).mono ?_; rintro e w1 ⟨rfl, o1, o2, hsz, hb⟩
      have O1 := Lib.hid o1; have O2 := Lib.hid o2; have B1 := Lib.hid hb; have SZ := Lib.hid hsz
      clear o1 o2 hb hsz
      go_wp2
      go_loopw [7, 24] (fun v i wr => ∃ j : Nat, j ≤ n ∧ v = .int .i64 (goP f (l.take j) s) ∧ i = .int .i64 j ∧ Own wr w.heap.size 3 #[.int .i64 (goP f (l.take j) s)] ∧ Own wr (w.heap.size + 1) 4 #[.bool s] ∧ Below w.heap.size w wr) (fun _ i _ => n - (intOf i).toNat)
      case atStart => exact ⟨0, Nat.zero_le _, rfl, rfl, O1.out, O2.out, B1.out⟩
      case round =>
        obtain ⟨j, hj, rfl, rfl, o1, o2, hbel⟩ := hrel
        have P1 := Lib.hid o1; have P2 := Lib.hid o2; have HB := Lib.hid hbel
        clear o1 o2 hbel
        by_cases hlt : j < n
        · obtain ⟨a, z, rfl, hbl, hz, hc⟩ := Is.at_ (H.out.below HB.out) hlt
          have HS : Hid (goP f (l.take (j + 1)) s = tickP s (goP f (l.take j) s) z) := Lib.hid (by rw [take_snoc' l j z hz, go_snoc])
          have hg := HG.out (l.take j)
          have cT := Lib.hid (tick_any z (goP f (l.take j) s) s w.heap.size (w.heap.size + 1) wr P1.out P2.out hg.1 hg.2)
          clear hz hbl hg
          go_wp2_with fail
          refine cT.out.mono ?_; rintro e w2 ⟨rfl, o1, hgr⟩
          have Q2 := Lib.hid (P2.out.kept hgr (by simp))
          have Q1 := Lib.hid o1
          have HB2 := Lib.hid (HB.out.grown hgr HB.out.size (fun k hk => by cases hk; exact Nat.le_refl _))
          clear o1 hgr
          go_wp2
          go_roundw
          case rel => exact ⟨j + 1, by omega, by rw [HS.out], by go_num, by rw [HS.out]; exact Q1.out, Q2.out, HB2.out⟩
          case measure => simp [intOf]; omega
        · obtain rfl : j = n := by omega
          have HE : Hid (goP f (l.take j) s = runP f l s) := Lib.hid (by rw [HR.out, take_full _ _ HL.out])
          go_wp2
          go_ret
          exact ⟨retI HE.out, HB.out⟩
theorem run_ref (A : Option Addr) (n c : Nat) (l : List Int) (f : Int) (s : Bool) (w : World) (h : Is w A n c l) :
    Calls Try.prog 23 #[.int .i64 f, .slice A n c, .bool s] w fun e w' => e = .returned (.int .i64 (runP f l s)) ∧ w = w' := by
  by_cases h0 : f < 0
  · have HR := Lib.hid (run_out (l := l) (s := s) (Or.inl h0))
    go_enter Try.func23, Try.ntmps23
    go_wp2
    go_ret
    exact ⟨retI HR.out.symm, rfl⟩
  · by_cases h1 : 1099511627775 < f
    · have HR := Lib.hid (run_out (l := l) (s := s) (Or.inr h1))
      go_enter Try.func23, Try.ntmps23
      go_wp2
      go_ret
      exact ⟨retI HR.out.symm, rfl⟩
    · have HR := Lib.hid (run_in (l := l) (s := s) (f := f) (by omega) (by omega))
      have HG := Lib.hid (fun m : List Int => go_range s m f (by omega) (by omega))
      have HL := Lib.hid h.len
      have H := Lib.hid h
      have hmax := Nat.le_trans h.le h.max
      unfold maxLen at hmax
      clear h
      go_enter Try.func23, Try.ntmps23
      go_wp2
      go_loop [0, 7] (fun v i => ∃ j : Nat, j ≤ n ∧ v = .int .i64 (goP f (l.take j) s) ∧ i = .int .i64 j) (fun _ i => n - (intOf i).toNat)
      case atStart => exact ⟨0, Nat.zero_le _, rfl, rfl⟩
      case round =>
        obtain ⟨j, hj, rfl, rfl⟩ := hrel
        by_cases hlt : j < n
        · obtain ⟨a, z, rfl, hbl, hz, hc⟩ := H.out.at_ hlt
          have HS : Hid (goP f (l.take (j + 1)) s = tickP s (goP f (l.take j) s) z) := Lib.hid (by rw [take_snoc' l j z hz, go_snoc])
          have ht : Hid (tickP s (goP f (l.take j) s) z = if 1099511627775 < goP f (l.take j) s + rateP z s then 1099511627775 else goP f (l.take j) s + rateP z s) := Lib.hid rfl
          have cR := Lib.hid (fun w => rate_ref z s w)
          obtain ⟨hg1, hg2⟩ := HG.out (l.take j)
          obtain ⟨hr0, hr1⟩ := rate_range z s
          clear hz hbl
          generalize rateP z s = r at *
          generalize goP f (l.take j) s = x at *
          have hw : IntKind.i64.wrap (x + r) = x + r := IntWalk.i64_in _ (by omega)
          by_cases hc2 : 1099511627775 < x + r
          · have HY : Hid (Value.int .i64 1099511627775 = .int .i64 (goP f (l.take (j + 1)) s)) := Lib.hid (by rw [HS.out, ht.out, if_pos hc2])
            go_wp2_with fail
            refine (cR.out _).mono ?_; rintro e w' ⟨rfl, rfl⟩
            go_wp2
            go_round
            case rel => exact ⟨j + 1, by omega, HY.out, by go_num⟩
            case measure => simp [intOf]; omega
          · have HY : Hid (Value.int .i64 (x + r) = .int .i64 (goP f (l.take (j + 1)) s)) := Lib.hid (by rw [HS.out, ht.out, if_neg hc2])
            go_wp2_with fail
            refine (cR.out _).mono ?_; rintro e w' ⟨rfl, rfl⟩
            go_wp2
            go_round
            case rel => exact ⟨j + 1, by omega, HY.out, by go_num⟩
            case measure => simp [intOf]; omega
        · obtain rfl : j = n := by omega
          have HE : Hid (goP f (l.take j) s = runP f l s) := Lib.hid (by rw [HR.out, take_full _ _ HL.out])
          go_wp2
          go_ret
          exact ⟨retI HE.out, rfl⟩
end Go.Proofs.Ytdmhpnobdflkfaa.P
