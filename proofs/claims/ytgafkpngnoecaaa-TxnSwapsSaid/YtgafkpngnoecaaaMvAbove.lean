/- Events behind a revision: the closure and the search. -/
import Derived.Test.YtgafkpngnoecaaaMvApply
namespace Go.Proofs.Ytgafkpngnoecaaa.P
open Go.RowKit Go.Sort
set_option maxHeartbeats 1000000
set_option linter.unusedVariables false
set_option linter.unusedSimpArgs false
set_option maxRecDepth 100000

abbrev goneB (t : Int) (e : Ev) : Bool := decide (e.rev ≤ t)
theorem abovef_any (x : Ev) (t : Int) (p : Addr) (w : World) (hp : w.cell? p = some (.int .i64 t)) :
    Calls Try.prog 77 #[x.agg, .pointer (some p)] w fun e w' => e = .returned (.bool (goneB t x)) ∧ Below w.heap.size w w' := by
  have hlt := World.block_lt_of_cell? w p hp
  have hp' := ((new1 w (x.obj 74)).cell (p := p) hlt).trans hp
  have f0 := (own_new w #[.int .i64 x.rev, .bool x.gone, .string x.kv.key, .string x.kv.val, .int .i64 x.kv.cre, .int .i64 x.kv.mod, .int .i64 x.kv.ver, .int .i64 x.kv.lea] 74).cell 0 _ rfl
  go_enter Try.func77, Try.ntmps77
  go_wp2
  go_ret
  exact ⟨by simp [goneB], new1 w _⟩
/-- Where the first lies that goes. -/
def FindEnd (l : List Ev) (t : Int) (w : World) (e : Ending) (w' : World) : Prop :=
  ∃ i : Int, e = .returned (.int .i64 i) ∧ ((i = -1 ∧ AllTo (fun y => !goneB t y) l l.length) ∨ (∃ (j : Nat) (x : Ev), i = j ∧ l[j]? = some x ∧ goneB t x = true ∧ AllTo (fun y => !goneB t y) l j)) ∧ Below w.heap.size w w'
theorem indexE_any (A : Option Addr) (n c : Nat) (l : List Ev) (t : Int) (p : Addr) (w : World) (h : Evs w A n c l) (hn : n ≤ 1000000) (hp : w.cell? p = some (.int .i64 t)) :
    Calls Try.prog 95 #[.slice A n c, .func (.func 77) #[] #[.pointer (some p)]] w (FindEnd l t w) := by
  have hlt0 := World.block_lt_of_cell? w p hp
  have H := Lib.hid h
  have HP := Lib.hid hp
  have HL := Lib.hid hlt0
  clear h hp hlt0
  go_enter Try.func95, Try.ntmps95
  go_wp2
  go_loopw [8] (fun i wr => ∃ j : Nat, j ≤ n ∧ i = .int .i64 j ∧ AllTo (fun y => !goneB t y) l j ∧ Below w.heap.size w wr) (fun i _ => n - (intOf i).toNat)
  case atStart => exact ⟨0, Nat.zero_le _, rfl, rfl, Below.refl _ _⟩
  case round =>
    obtain ⟨j, hj, rfl, hall, hbel⟩ := hrel
    by_cases hlt : j < n
    · obtain ⟨a, x, rfl, hbl, hx, hok, hc⟩ := (H.out.keep hbel).at_ hlt
      obtain ⟨c0, c1, c2, c3, c4, c5, c6, c7⟩ := hc
      have HA := Lib.hid hall
      have HB := Lib.hid hbel
      have HX := Lib.hid hx
      have HC := Lib.hid ((HB.out.cell HL.out).trans HP.out)
      clear hok hall hbel hx hbl
      cases ht : goneB t x with
      | true =>
        have HT := Lib.hid ht
        clear ht
        go_wp2_with fail
        refine (abovef_any x t p wr HC.out).mono ?_; rintro e w1 ⟨rfl, hb⟩
        have HB1 := Lib.hid hb
        clear hb
        rw [HT.out]
        go_wp2
        go_ret
        exact ⟨j, rfl, .inr ⟨j, x, rfl, HX.out, HT.out, HA.out⟩, HB.out.trans (HB1.out.mono HB.out.size)⟩
      | false =>
        have HT := Lib.hid ht
        clear ht
        go_wp2_with fail
        refine (abovef_any x t p wr HC.out).mono ?_; rintro e w1 ⟨rfl, hb⟩
        have HB1 := Lib.hid hb
        clear hb
        rw [HT.out]
        go_wp2
        go_roundw
        case rel => exact ⟨j + 1, by omega, by go_num, by show _ = true; rw [all_take_s l _ j x HX.out, HA.out.out, HT.out]; rfl, HB.out.trans (HB1.out.mono HB.out.size)⟩
        case measure => simp [intOf]; omega
    · have e : j = n := by omega
      subst e
      have HA := Lib.hid hall
      have HB := Lib.hid hbel
      clear hall hbel
      go_wp2
      go_ret
      exact ⟨-1, rfl, .inl ⟨rfl, by rw [H.out.len]; exact HA.out⟩, HB.out⟩
end Go.Proofs.Ytgafkpngnoecaaa.P
