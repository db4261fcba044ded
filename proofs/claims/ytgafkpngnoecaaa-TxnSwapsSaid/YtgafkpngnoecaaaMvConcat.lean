/- Two slices of events, one behind the other, in a row of the call's own. -/
import Derived.Test.YtgafkpngnoecaaaMvGrow
import Derived.Laws.OwnMore
namespace Go.Proofs.Ytgafkpngnoecaaa.P
open Go.RowKit Go.Sort
set_option maxHeartbeats 1000000
set_option linter.unusedVariables false
set_option linter.unusedSimpArgs false
set_option maxRecDepth 100000

theorem app_evs (base : Nat) (v : Value) (n : Nat) (xs : List Ev) (w : World) (hown : w.ownsRow base 74 8 v n (cellsE xs)) (A : Option Addr) (m c : Nat) (l : List Ev) (h : Evs w A m c l) (hn : n + m ≤ 1000000) (hb : base ≤ w.heap.size) (ty : TypeId) :
    ∃ v' w', (Builtin.append_ #[23, 23] ty #[v, .slice A m c]).run Try.prog w = .ok v' w' ∧ w'.ownsRow base 74 8 v' (n + m) (cellsE (xs ++ l)) ∧ Below base w w' := by
  obtain ⟨i0, hi0, hz0, hz1, hz2⟩ := info_parts info_ev
  have hlen := h.len
  rcases A with _ | a
  · have h0 := h.nil rfl
    subst h0
    obtain rfl : m = 0 := by have := h.le; omega
    obtain rfl : l = [] := List.eq_nil_of_length_eq_zero hlen
    refine ⟨v, w, run_append_owned_none (P := Try.prog) (w := w) base 23 ty 74 i0 8 Try.underlying23 hi0 v n _ hown, ?_, Below.refl _ _⟩
    rw [List.append_nil, Nat.add_zero]; exact hown
  · obtain ⟨v', w', hr, h2, h3, h4, h5⟩ := run_append_own_at (P := Try.prog) w base 23 ty 74 i0 zeroEvA 8 80 Try.underlying23 hi0 hz0 hz1 hz2 rfl (by omega) v n _ hown a m c (cellsE l) (by rw [cellsE_len, hlen]) h.cells (fun u hu => cellsE_one' hu) (by unfold maxLen; omega) (by omega) hb
    refine ⟨v', w', hr, by rw [cellsE_app]; exact h2, (Below.refl _ _).grown h3 hb (fun k hk => (hown.lt k hk).1)⟩

/-- What has been taken of two. -/
def upTwo (l0 l1 : List Ev) : Nat → List Ev
  | 0 => []
  | 1 => l0
  | _ => l0 ++ l1
theorem concatE_any (B : Nat) (A0 : Option Addr) (n0 c0 : Nat) (l0 : List Ev) (A1 : Option Addr) (n1 c1 : Nat) (l1 : List Ev) (w : World) (hB : w.heap[B]? = some (.cells #[.slice A0 n0 c0, .slice A1 n1 c1] 23 (0, 0))) (h0 : Evs w A0 n0 c0 l0) (h1 : Evs w A1 n1 c1 l1) (hn : n0 + n1 ≤ 100000) :
    Calls Try.prog 52 #[.slice (some ⟨B, 0, none⟩) 2 2] w (OwnEndE w.heap.size (l0 ++ l1) w) := by
  have hlt : B < w.heap.size := by
    rcases Nat.lt_or_ge B w.heap.size with hlt | hge
    · exact hlt
    · rw [Array.getElem?_eq_none hge] at hB; cases hB
  have p0 : w.cell? ⟨B, 0, none⟩ = some (.slice A0 n0 c0) := by rw [cell_of_row w B 0 _ 23 (0, 0) hB]; rfl
  have p1 : w.cell? ⟨B, 1, none⟩ = some (.slice A1 n1 c1) := by rw [cell_of_row w B 1 _ 23 (0, 0) hB]; rfl
  have H0 := Lib.hid h0; have H1 := Lib.hid h1; have HB := Lib.hid hB
  have L0 := Lib.hid h0.len; have L1 := Lib.hid h1.len
  clear h0 h1 hB
  go_enter Try.func52, Try.ntmps52
  go_wp2
  go_loop [3, 11] (fun z i => ∃ k : Nat, k ≤ 2 ∧ i = .int .i64 k ∧ z = .int .i64 ((if k = 0 then 0 else if k = 1 then n0 else n0 + n1 : Nat) : Int)) (fun _ i => 2 - (intOf i).toNat)
  case atStart => exact ⟨0, by omega, rfl, rfl⟩
  case round =>
    obtain ⟨k, hk, rfl, rfl⟩ := hrel
    match k, hk with
    | 0, _ =>
      go_wp2
      go_round
      case rel => exact ⟨1, by omega, rfl, by simp⟩
      case measure => simp [intOf]
    | 1, _ =>
      go_wp2
      go_round
      case rel => exact ⟨2, by omega, rfl, by simp⟩
      case measure => simp [intOf]
    | 2, _ =>
      go_wp2_with fail
      refine (growE_any (n0 + n1) w (by omega)).mono ?_; rintro e w1 ⟨A, c, rfl, hown, hb⟩
      have O1 := Lib.hid hown; have B1 := Lib.hid hb
      clear hown hb
      go_wp2
      go_loopw [6, 27] (fun v i wr => ∃ (k : Nat), k ≤ 2 ∧ i = .int .i64 k ∧ wr.ownsRow w.heap.size 74 8 v (upTwo l0 l1 k).length (cellsE (upTwo l0 l1 k)) ∧ Below w.heap.size w wr) (fun _ i _ => 2 - (intOf i).toNat)
      case atStart => exact ⟨0, by omega, rfl, O1.out, B1.out⟩
      case round =>
        obtain ⟨k, hk, rfl, hown, hbel⟩ := hrel
        have HO := Lib.hid hown; have HBEL := Lib.hid hbel
        have q0 := (hbel.cell (p := ⟨B, 0, none⟩) hlt).trans p0
        have q1 := (hbel.cell (p := ⟨B, 1, none⟩) hlt).trans p1
        have e0 := H0.out.keep hbel
        have e1 := H1.out.keep hbel
        clear hown hbel
        match k, hk with
        | 0, _ =>
          obtain ⟨A2, c2, rfl⟩ := ownE_shape HO.out
          obtain ⟨v', w', hr, hown', hbel'⟩ := app_evs w.heap.size _ _ (upTwo l0 l1 0) wr HO.out A0 n0 c0 l0 e0 (by show 0 + n0 ≤ 1000000; omega) HBEL.out.size 23
          have HO2 : Hid (w'.ownsRow w.heap.size 74 8 v' (upTwo l0 l1 1).length (cellsE (upTwo l0 l1 1))) := Lib.hid (by
            have t := hown'
            rw [← L0.out] at t
            simpa [upTwo] using t)
          have HB2 := Lib.hid (HBEL.out.trans hbel')
          clear hown' hbel' e0 e1
          go_wp2_with (at_builtin; refine wpList_append_eq _ rfl _ _ _ _ rfl _ _ rfl rfl hr ?_)
          go_roundw
          case rel => exact ⟨1, by omega, rfl, HO2.out, HB2.out⟩
          case measure => simp [intOf]
        | 1, _ =>
          obtain ⟨A2, c2, rfl⟩ := ownE_shape HO.out
          obtain ⟨v', w', hr, hown', hbel'⟩ := app_evs w.heap.size _ _ (upTwo l0 l1 1) wr HO.out A1 n1 c1 l1 e1 (by show l0.length + n1 ≤ 1000000; rw [L0.out]; omega) HBEL.out.size 23
          have HO2 : Hid (w'.ownsRow w.heap.size 74 8 v' (upTwo l0 l1 2).length (cellsE (upTwo l0 l1 2))) := Lib.hid (by
            have t := hown'
            rw [← L1.out] at t
            simpa [upTwo] using t)
          have HB2 := Lib.hid (HBEL.out.trans hbel')
          clear hown' hbel' e0 e1
          go_wp2_with (at_builtin; refine wpList_append_eq _ rfl _ _ _ _ rfl _ _ rfl rfl hr ?_)
          go_roundw
          case rel => exact ⟨2, by omega, rfl, HO2.out, HB2.out⟩
          case measure => simp [intOf]
        | 2, _ =>
          obtain ⟨A2, c2, rfl⟩ := ownE_shape HO.out
          clear e0 e1
          go_wp2
          go_ret
          exact ⟨A2, c2, rfl, HO.out, HBEL.out⟩
end Go.Proofs.Ytgafkpngnoecaaa.P
