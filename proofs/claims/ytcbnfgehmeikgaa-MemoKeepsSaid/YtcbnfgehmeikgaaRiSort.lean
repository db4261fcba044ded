/- Rows of numbers of the call's own, sorted, and without twins; held against each other. -/
import Derived.Test.YtcbnfgehmeikgaaRiPure
import Derived.Test.YtcbnfgehmeikgaaGenInts
import Derived.Test.YtcbnfgehmeikgaaFeShelf
import Derived.Sort.OwnSortedInts
import Derived.Lib.OwnBridge
import Derived.Deep.QuietTactic
import Derived.BigQuiet
namespace Go.Proofs.Ytcbnfgehmeikgaa.P
open Go.RowKit Go.Sort
set_option maxHeartbeats 1000000
set_option linter.unusedVariables false
set_option linter.unusedSimpArgs false
set_option maxRecDepth 100000

abbrev ownI (w : World) (base : Nat) (A : Option Addr) (n c : Nat) (l : List Int) : Prop := ownG intC 1 3 w base A n c l
theorem flat_ints (l : List Int) : flatC intC l = l.map (Value.int .i64) := by
  unfold flatC
  induction l with
  | nil => rfl
  | cons a r ih => rw [List.flatMap_cons, ih]; rfl
theorem ownI_is {w : World} {base n c : Nat} {A : Option Addr} {l : List Int} (h : ownI w base A n c l) : Is w A n c l := ownG_rows intC_len (by omega) h
theorem ownI_len {w : World} {base n c : Nat} {A : Option Addr} {l : List Int} (h : ownI w base A n c l) : l.length = n := ownG_len intC_len (by omega) h
theorem lt_of_blk {w : World} {b : Nat} {o : Obj} (h : w.heap[b]? = some o) : b < w.heap.size := by
  rcases Nat.lt_or_ge b w.heap.size with h' | h'
  · exact h'
  · rw [Array.getElem?_eq_none h'] at h; cases h
/-- What Sort leaves is what Compact asks; what Compact leaves is the row that rises. -/
def RiseEnd (base : Nat) (l : List Int) (w : World) (e : Ending) (w' : World) : Prop := ∃ A c, e = .returned (.slice A (riseL l).length c) ∧ ownI w' base A (riseL l).length c (riseL l) ∧ Below base w w'
theorem ownI_mono {w : World} {B b n c : Nat} {A : Option Addr} {l : List Int} (h : ownI w B A n c l) (hb : b ≤ B) : ownI w b A n c l := by
  rcases h with ⟨h1, h2 | ⟨g, cap, cur, hv, hbg, h3⟩⟩
  · exact ⟨h1, .inl h2⟩
  · exact ⟨h1, .inr ⟨g, cap, cur, hv, Nat.le_trans hb hbg, h3⟩⟩
theorem RiseEnd.mono {B b : Nat} {l m : List Int} {w0 w : World} {e : Ending} {w' : World} (h : RiseEnd B l w e w') (hb : b ≤ B) (h0 : Below b w0 w) (hl : l = m) : RiseEnd b m w0 e w' := by
  subst hl
  obtain ⟨A, c, he, ho, hw⟩ := h
  exact ⟨A, c, he, ownI_mono ho hb, h0.trans (hw.mono hb)⟩
theorem sort_own (base : Nat) (A : Option Addr) (n c : Nat) (l : List Int) (w : World) (hown : ownI w base A n c l) (hb : base ≤ w.heap.size) (hn : n ≤ 1000000) :
    Calls Try.prog 36 #[.slice A n c] w fun e w' => e = .returned (.tuple #[]) ∧ ownI w' base A n c (sortI l) ∧ Below base w w' := by
  have hl := ownI_len hown
  rcases hown.2 with ⟨hv, hn0⟩ | ⟨g, cap, cur, hv, hbg, hg, hnc, hcm, hcs, ht⟩
  · injection hv with e1 e2 e3
    subst e1 e2 e3
    obtain rfl : l = [] := List.eq_nil_of_length_eq_zero hl
    refine (Try.slices_Sort_int_none none 0 w).mono ?_
    rintro e w1 ⟨rfl, rfl⟩
    exact ⟨rfl, by rw [sortI_nil]; exact hown, Below.refl _ _⟩
  · injection hv with e1 e2 e3
    subst e1 e3
    have ht' : cur.toList.take l.length = l.map (Value.int .i64) := by rw [hl]; rw [flat_ints] at ht; simpa using ht
    have hlt := lt_of_blk hg
    have hH := holds_of_blockI hg ht'
    have hsort := Try.slices_Sort_int g 0 c l w hH hlt (by omega)
    rw [hl, show (l.mergeSort fun x y => decide (x ≤ y)) = sortI l from rfl] at hsort
    refine hsort.mono ?_
    rintro e w1 ⟨rfl, q, os, hw1⟩
    have o1 := ownsRow_sortedI (n := q) (os := os) (ts := sortI l) (sort_len l) hbg hg (by omega) hcm hcs
    have g1 : w.grownBy w1 (some g) := by rw [hw1]; exact grownBy_sortedI (sortI l).toArray
    rw [← hw1] at o1
    refine ⟨rfl, ?_, (Below.refl base w).grown g1 hb (fun j hj => by cases hj; exact hbg)⟩
    have := o1
    rw [hl] at this
    show World.ownsRow _ _ _ _ _ _ _
    rw [flat_ints]
    exact this
theorem compact_own (base : Nat) (A : Option Addr) (n c : Nat) (l : List Int) (w : World) (hown : ownI w base A n c (sortI l)) (hn : n ≤ 1000000) :
    Calls Try.prog 37 #[.slice A n c] w (RiseEnd base l w) := by
  have hl := ownI_len hown
  have hl0 : l.length = n := by rw [← hl, sort_len]
  rcases hown.2 with ⟨hv, hn0⟩ | ⟨g, cap, cur, hv, hbg, hg, hnc, hcm, hcs, ht⟩
  · injection hv with e1 e2 e3
    subst e1 e2 e3
    obtain rfl : l = [] := List.eq_nil_of_length_eq_zero hl0
    refine (Try.slices_Compact_int_empty none 0 w).mono ?_
    rintro e w1 ⟨rfl, rfl⟩
    unfold RiseEnd
    rw [rise_nil]
    exact ⟨none, 0, rfl, by rw [sortI_nil] at hown; exact hown, Below.refl _ _⟩
  · injection hv with e1 e2 e3
    subst e1 e3
    have ht' : cur.toList.take (sortI l).length = (sortI l).map (Value.int .i64) := by rw [hl]; rw [flat_ints] at ht; simpa using ht
    have hH := holds_of_blockI hg ht'
    have hmx : c ≤ 9223372036854775807 := by unfold maxLen at hcm; exact hcm
    have hc := Try.slices_Compact_int g 0 c (sortI l) w hH (by omega) (by omega)
    rw [hl] at hc
    refine hc.mono ?_
    rintro e w2 ⟨rfl, q2, rfl⟩
    have o1 : w.ownsRow base 3 1 (.slice (some ⟨g, 0, none⟩) n c) n ((sortI l).map (Value.int .i64)) := by rw [← flat_ints]; exact hown
    have o2 := Lib.ownsRow_putRow (q := q2) (k := (riseL l).length) (ys := riseL l ++ List.replicate (n - (riseL l).length) 0) o1 (by have := rise_len l; simp; omega) (by have := rise_len l; omega)
    rw [List.take_left] at o2
    refine ⟨some ⟨g, 0, none⟩, c, rfl, ?_, Lib.below_putRow (Below.refl _ _) hbg⟩
    show World.ownsRow _ _ _ _ _ _ _
    rw [flat_ints]
    exact o2
theorem indexI_any (A : Option Addr) (n c : Nat) (l : List Int) (z : Int) (w : World) (h : Is w A n c l) (hn : n ≤ 1000000) :
    Calls Try.prog 40 #[.slice A n c, .int .i64 z] w fun e w' => ∃ i : Int, e = .returned (.int .i64 i) ∧ (0 ≤ i ↔ z ∈ l) ∧ Below w.heap.size w w' := by
  have H := Lib.hid h
  have HL := Lib.hid h.len
  clear h
  go_enter Try.func40, Try.ntmps40
  go_wp2
  go_loop [8] (fun i => ∃ j : Nat, j ≤ n ∧ i = .int .i64 j ∧ Hid (z ∉ l.take j)) (fun i => n - (intOf i).toNat)
  case atStart => exact ⟨0, Nat.zero_le _, rfl, Lib.hid (by simp)⟩
  case round =>
    obtain ⟨j, hj, rfl, HN⟩ := hrel
    by_cases hlt : j < n
    · obtain ⟨a, x, rfl, hbl, hx, c0⟩ := Is.at_ H.out hlt
      have i0 : (0 : Int) ≤ (j : Int) := by omega
      have i1 : (j : Int) < (n : Int) := by omega
      have HX := Lib.hid hx
      clear hx hbl
      by_cases hz : z = x
      · have HZ := Lib.hid hz
        subst hz
        have hzz : (z == z) = true := by simp
        go_wp2
        go_ret
        exact ⟨_, rfl, ⟨fun _ => List.mem_of_getElem? HX.out, fun _ => i0⟩, Below.refl _ _⟩
      · have HZ := Lib.hid hz
        have hzz : (z == x) = false := by simpa using hz
        clear hz
        go_wp2
        go_round
        case rel => exact ⟨j + 1, by omega, by go_num, Lib.hid (by rw [List.take_add_one, HX.out]; simp; exact ⟨HN.out, HZ.out⟩)⟩
        case measure => simp [intOf]; omega
    · obtain rfl : j = n := by omega
      have HA : Hid (z ∉ l) := Lib.hid (by have := HN.out; rwa [← HL.out, List.take_length] at this)
      go_wp2
      go_ret
      exact ⟨-1, rfl, ⟨fun h => absurd h (by decide), fun h => absurd h HA.out⟩, Below.refl _ _⟩
theorem contains_any (A : Option Addr) (n c : Nat) (l : List Int) (z : Int) (w : World) (h : Is w A n c l) (hn : n ≤ 1000000) :
    Calls Try.prog 24 #[.slice A n c, .int .i64 z] w fun e w' => e = .returned (.bool (decide (z ∈ l))) ∧ Below w.heap.size w w' := by
  have cI := Lib.hid (indexI_any A n c l z w h hn)
  clear h
  go_enter Try.func24, Try.ntmps24
  go_wp2_with fail
  refine cI.out.mono ?_; rintro e w1 ⟨i, rfl, hi, hb⟩
  have HB := Lib.hid hb
  have HI := Lib.hid hi
  clear hb hi
  go_wp2
  go_ret
  exact ⟨retBo (by by_cases hz : z ∈ l <;> simp [hz, HI.out]), HB.out⟩
end Go.Proofs.Ytcbnfgehmeikgaa.P
