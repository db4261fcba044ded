/- Texts of this seat in one: MvClone, MvGrow, MvConcat. -/
import Derived.Test.YtkikfaeigoeogaaMvCome
import Derived.Maps.AppendAt
import Derived.Test.YtkikfaeigoeogaaKvIns
import Derived.Lib.AppendZerosOnto
import Derived.Laws.OwnMore
/- A slice of events copied into a row of the call's own. -/
namespace Go.Proofs.Ytkikfaeigoeogaa.P
open Go.RowKit Go.Sort
set_option maxHeartbeats 1000000
set_option linter.unusedVariables false
set_option linter.unusedSimpArgs false
set_option maxRecDepth 100000

theorem Evs.cells {w : World} {a : Addr} {n c : Nat} {l : List Ev} (h : Evs w (some a) n c l) : ∀ j u, (cellsE l)[j]? = some u → w.cell? (a.add j) = some u := by
  intro j u hu
  have hj : j < (cellsE l).length := (List.getElem?_eq_some_iff.1 hu).1
  rw [cellsE_len] at hj
  have hi : j / 8 < l.length := by omega
  obtain ⟨a', e, _, hx⟩ := h.rd (by rw [← h.len]; omega)
  obtain rfl := Option.some.inj e
  have hc := hx (j / 8) _ (List.getElem?_eq_getElem hi)
  have hu' := cellsE_at l (j / 8) (j % 8) _ (List.getElem?_eq_getElem hi) (by omega)
  rw [show j / 8 * 8 + j % 8 = j by omega, hu] at hu'
  have hd : j = j / 8 * 8 + j % 8 := by omega
  rw [hd]
  generalize j / 8 * 8 = m at *
  have hr : j % 8 < 8 := by omega
  generalize j % 8 = r at *
  match r, hr, hu' with
  | 0, _, hu' => rw [Nat.add_zero]; exact hc.c0.trans hu'.symm
  | 1, _, hu' => rw [add_more _ _ _ (by omega)]; exact hc.c1.trans hu'.symm
  | 2, _, hu' => rw [add_more _ _ _ (by omega)]; exact hc.c2.trans hu'.symm
  | 3, _, hu' => rw [add_more _ _ _ (by omega)]; exact hc.c3.trans hu'.symm
  | 4, _, hu' => rw [add_more _ _ _ (by omega)]; exact hc.c4.trans hu'.symm
  | 5, _, hu' => rw [add_more _ _ _ (by omega)]; exact hc.c5.trans hu'.symm
  | 6, _, hu' => rw [add_more _ _ _ (by omega)]; exact hc.c6.trans hu'.symm
  | 7, _, hu' => rw [add_more _ _ _ (by omega)]; exact hc.c7.trans hu'.symm

/-- The end of a call that makes a row of events of its own. -/
def OwnEndE (base : Nat) (l : List Ev) (w : World) (e : Ending) (w' : World) : Prop := ∃ A c, e = .returned (.slice A l.length c) ∧ w'.ownsRow base 43 8 (.slice A l.length c) l.length (cellsE l) ∧ Below base w w'
theorem OwnEndE.evs {base : Nat} {w : World} {l : List Ev} {e : Ending} {w' : World} (h : OwnEndE base l w e w') (ok : ∀ x ∈ l, x.ok) : ∃ A c, e = .returned (.slice A l.length c) ∧ Evs w' A l.length c l ∧ Below base w w' := by
  obtain ⟨A, c, rfl, hown, hb⟩ := h
  exact ⟨A, c, rfl, evs_of_own hown ok, hb⟩
theorem cloneE_any (A : Option Addr) (n c : Nat) (l : List Ev) (w : World) (h : Evs w A n c l) (hn : n ≤ 1000000) :
    Calls Try.prog 57 #[.slice A n c] w (OwnEndE w.heap.size l w) := by
  obtain rfl := h.len
  rcases A with _ | a
  · have h0 := h.nil rfl
    subst h0
    have hl0 : l.length = 0 := by have := h.le; omega
    have hl : l = [] := List.eq_nil_of_length_eq_zero hl0
    subst hl
    clear h hl0
    have hnil := fun (w : World) => Lib.run_eql_slice_nil (P := Try.prog) w 23 43 none 0 0 0 0 Try.underlying23
    go_enter Try.func57, Try.ntmps57
    go_wp2
    go_ret
    exact ⟨none, 0, rfl, ⟨rfl, .inl ⟨rfl, rfl⟩⟩, Below.refl _ _⟩
  · obtain ⟨i0, hi0, hz0, hz1, hz2⟩ := info_parts info_ev
    have HH := Lib.hid h
    have H := Lib.hid (HH.out.keep (((Below.refl w.heap.size w).alloc (Nat.le_refl _) (.cells #[] 43))))
    clear h
    have hnil := fun (w : World) (n c : Nat) => Lib.run_eql_slice_nil (P := Try.prog) w 23 43 (some a) n c 0 0 Try.underlying23
    go_enter Try.func57, Try.ntmps57
    go_wp2_with (at_builtin; refine wpList_append_own_at _ rfl _ _ 23 rfl w.heap.size 43 i0 zeroEvA 8 80 Try.underlying23 hi0 hz0 hz1 hz2 rfl (by omega) (.slice (some ⟨w.heap.size, 0, none⟩) 0 0) 0 [] rfl (World.ownsRow_made w #[] 0 (Nat.le_refl _) (Nat.zero_le _) rfl) a l.length c (cellsE l) rfl (cellsE_len l) H.out.cells (fun u hu => cellsE_one' hu) (by simp only [maxLen]; omega) (by omega) (by simp) ?_; intro v1 w1 hown1 hg1 hnil1 hat1)
    rw [Nat.zero_add, List.nil_append] at hown1
    obtain ⟨A1, c1, rfl⟩ := ownE_shape hown1
    have HO := Lib.hid hown1
    have HG := Lib.hid hg1
    clear hown1 hg1 hnil1 hat1
    go_wp2
    go_ret
    exact ⟨A1, c1, rfl, HO.out, ((Below.refl _ _).alloc (Nat.le_refl _) _).grown HG.out (by simp) (fun k hk => by simp [Value.ownBlock] at hk; omega)⟩
end Go.Proofs.Ytkikfaeigoeogaa.P
/- Room for events made at one go. -/
namespace Go.Proofs.Ytkikfaeigoeogaa.P
open Go.RowKit Go.Sort
set_option maxHeartbeats 1000000
set_option linter.unusedVariables false
set_option linter.unusedSimpArgs false
set_option maxRecDepth 100000

theorem growE_any (n : Nat) (w : World) (hn : n ≤ 1000000) :
    Calls Try.prog 55 #[.slice none 0 0, .int .i64 n] w fun e w' => ∃ A c, e = .returned (.slice A 0 c) ∧ w'.ownsRow w.heap.size 43 8 (.slice A 0 c) 0 [] ∧ Below w.heap.size w w' := by
  by_cases h0 : n = 0
  · subst h0
    go_enter Try.func55, Try.ntmps55
    go_wp2
    go_ret
    exact ⟨none, 0, rfl, ⟨rfl, .inl ⟨rfl, rfl⟩⟩, Below.refl _ _⟩
  · obtain ⟨i0, hi0, hz0, hz1, hz2⟩ := info_parts info_ev
    have hpos : (0 : Int) < (n : Int) := by omega
    have hneg : ¬ ((n : Int) < 0) := by omega
    have hap := fun ty => Lib.run_append_grow_zeros (P := Try.prog) w 23 3 ty 43 i0 zeroEvA .i64 .i64 Try.underlying23 Try.underlying3 hi0 hz0 none 0 0 [] (run_firstCells_none _ _ _ _ _) n (by omega) (by omega) (by omega) (by omega) (by rw [hz2]; omega) (by rw [hz2]; exact growslice_fits (by omega) (by omega))
    rw [Nat.zero_add] at hap
    obtain ⟨G, hG⟩ : ∃ G, G = grownCap w n 0 43 := ⟨_, rfl⟩
    obtain ⟨ROW, hROW⟩ : ∃ ROW : Array Value, ROW = ([] : List Value).toArray ++ Builtin.zeroCells zeroEvA.cells n ++ Builtin.zeroCells zeroEvA.cells (G - n) := ⟨_, rfl⟩
    rw [← hG, ← hROW] at hap
    have hGn : n ≤ G := by rw [hG]; exact grownCap_ge w _ _ _
    have hGm : G ≤ maxLen := by rw [hG]; exact grownCap_le_maxLen w _ _ _ (by unfold maxLen; omega)
    have hRs : ROW.size = G * 8 := by
      rw [hROW, Array.size_append, Array.size_append, size_zeroCells, size_zeroCells, List.size_toArray]
      show 0 + n * 8 + (G - n) * 8 = G * 8
      omega
    have hfin : Hid ((w.drew.alloc (.cells ROW 43)).ownsRow w.heap.size 43 8 (.slice (some ⟨w.heap.size, 0, none⟩) 0 G) 0 []) :=
      Lib.hid ⟨rfl, .inr ⟨w.heap.size, G, ROW, rfl, Nat.le_refl _, heap_alloc_new w.drew _, Nat.zero_le _, hGm, hRs, by simp⟩⟩
    have hbel : Hid (Below w.heap.size w (w.drew.alloc (.cells ROW 43))) := Lib.hid ((Below.drew (Below.refl _ _)).alloc (Nat.le_refl _) _)
    have hGm' : (G : Int) ≤ 9223372036854775807 := by unfold maxLen at hGm; omega
    have HAP := Lib.hid hap
    clear hap hROW hG hRs hz0 hz2
    have hap' := HAP.out
    go_enter Try.func55, Try.ntmps55
    go_wp2_with (at_builtin; refine wpList_append_eq _ rfl _ _ _ _ rfl _ _ rfl rfl (hap' _) ?_)
    go_wp2
    go_ret
    exact ⟨some ⟨w.heap.size, 0, none⟩, G, rfl, hfin.out, hbel.out⟩
end Go.Proofs.Ytkikfaeigoeogaa.P
/- Two slices of events, one behind the other, in a row of the call's own. -/
namespace Go.Proofs.Ytkikfaeigoeogaa.P
open Go.RowKit Go.Sort
set_option maxHeartbeats 1000000
set_option linter.unusedVariables false
set_option linter.unusedSimpArgs false
set_option maxRecDepth 100000

theorem app_evs (base : Nat) (v : Value) (n : Nat) (xs : List Ev) (w : World) (hown : w.ownsRow base 43 8 v n (cellsE xs)) (A : Option Addr) (m c : Nat) (l : List Ev) (h : Evs w A m c l) (hn : n + m ≤ 1000000) (hb : base ≤ w.heap.size) (ty : TypeId) :
    ∃ v' w', (Builtin.append_ #[23, 23] ty #[v, .slice A m c]).run Try.prog w = .ok v' w' ∧ w'.ownsRow base 43 8 v' (n + m) (cellsE (xs ++ l)) ∧ Below base w w' := by
  obtain ⟨i0, hi0, hz0, hz1, hz2⟩ := info_parts info_ev
  have hlen := h.len
  rcases A with _ | a
  · have h0 := h.nil rfl
    subst h0
    obtain rfl : m = 0 := by have := h.le; omega
    obtain rfl : l = [] := List.eq_nil_of_length_eq_zero hlen
    refine ⟨v, w, run_append_owned_none (P := Try.prog) (w := w) base 23 ty 43 i0 8 Try.underlying23 hi0 v n _ hown, ?_, Below.refl _ _⟩
    rw [List.append_nil, Nat.add_zero]; exact hown
  · obtain ⟨v', w', hr, h2, h3, h4, h5⟩ := run_append_own_at (P := Try.prog) w base 23 ty 43 i0 zeroEvA 8 80 Try.underlying23 hi0 hz0 hz1 hz2 rfl (by omega) v n _ hown a m c (cellsE l) (by rw [cellsE_len, hlen]) h.cells (fun u hu => cellsE_one' hu) (by unfold maxLen; omega) (by omega) hb
    refine ⟨v', w', hr, by rw [cellsE_app]; exact h2, (Below.refl _ _).grown h3 hb (fun k hk => (hown.lt k hk).1)⟩

/-- What has been taken of two. -/
def upTwo (l0 l1 : List Ev) : Nat → List Ev
  | 0 => []
  | 1 => l0
  | _ => l0 ++ l1
theorem concatE_any (B : Nat) (A0 : Option Addr) (n0 c0 : Nat) (l0 : List Ev) (A1 : Option Addr) (n1 c1 : Nat) (l1 : List Ev) (w : World) (hB : w.heap[B]? = some (.cells #[.slice A0 n0 c0, .slice A1 n1 c1] 23 (0, 0))) (h0 : Evs w A0 n0 c0 l0) (h1 : Evs w A1 n1 c1 l1) (hn : n0 + n1 ≤ 100000) :
    Calls Try.prog 39 #[.slice (some ⟨B, 0, none⟩) 2 2] w (OwnEndE w.heap.size (l0 ++ l1) w) := by
  have hlt : B < w.heap.size := by
    rcases Nat.lt_or_ge B w.heap.size with hlt | hge
    · exact hlt
    · rw [Array.getElem?_eq_none hge] at hB; cases hB
  have p0 : w.cell? ⟨B, 0, none⟩ = some (.slice A0 n0 c0) := by rw [cell_of_row w B 0 _ 23 (0, 0) hB]; rfl
  have p1 : w.cell? ⟨B, 1, none⟩ = some (.slice A1 n1 c1) := by rw [cell_of_row w B 1 _ 23 (0, 0) hB]; rfl
  have H0 := Lib.hid h0; have H1 := Lib.hid h1; have HB := Lib.hid hB
  have L0 := Lib.hid h0.len; have L1 := Lib.hid h1.len
  clear h0 h1 hB
  go_enter Try.func39, Try.ntmps39
  go_wp2
  go_loop [3, 11] (fun z i => ∃ k : Nat, k ≤ 2 ∧ i = .int .i64 k ∧ z = .int .i64 ((if k = 0 then 0 else if k = 1 then n0 else n0 + n1 : Nat) : Int)) (fun _ i => 2 - (intOf i).toNat)
  case atStart => exact ⟨0, by omega, rfl, rfl⟩
  case round =>
    obtain ⟨k, hk, rfl, rfl⟩ := hrel
    match k, hk with
    | 0, _ =>
      go_wp2
      go_round
      case rel => exact ⟨1, by omega, rfl, by simp⟩
      case measure => simp [intOf]
    | 1, _ =>
      go_wp2
      go_round
      case rel => exact ⟨2, by omega, rfl, by simp⟩
      case measure => simp [intOf]
    | 2, _ =>
      go_wp2_with fail
      refine (growE_any (n0 + n1) w (by omega)).mono ?_; rintro e w1 ⟨A, c, rfl, hown, hb⟩
      have O1 := Lib.hid hown; have B1 := Lib.hid hb
      clear hown hb
      go_wp2
      go_loopw [6, 27] (fun v i wr => ∃ (k : Nat), k ≤ 2 ∧ i = .int .i64 k ∧ wr.ownsRow w.heap.size 43 8 v (upTwo l0 l1 k).length (cellsE (upTwo l0 l1 k)) ∧ Below w.heap.size w wr) (fun _ i _ => 2 - (intOf i).toNat)
      case atStart => exact ⟨0, by omega, rfl, O1.out, B1.out⟩
      case round =>
        obtain ⟨k, hk, rfl, hown, hbel⟩ := hrel
        have HO := Lib.hid hown; have HBEL := Lib.hid hbel
        have q0 := (hbel.cell (p := ⟨B, 0, none⟩) hlt).trans p0
        have q1 := (hbel.cell (p := ⟨B, 1, none⟩) hlt).trans p1
        have e0 := H0.out.keep hbel
        have e1 := H1.out.keep hbel
        clear hown hbel
        match k, hk with
        | 0, _ =>
          obtain ⟨A2, c2, rfl⟩ := ownE_shape HO.out
          obtain ⟨v', w', hr, hown', hbel'⟩ := app_evs w.heap.size _ _ (upTwo l0 l1 0) wr HO.out A0 n0 c0 l0 e0 (by show 0 + n0 ≤ 1000000; omega) HBEL.out.size 23
          have HO2 : Hid (w'.ownsRow w.heap.size 43 8 v' (upTwo l0 l1 1).length (cellsE (upTwo l0 l1 1))) := Lib.hid (by
            have t := hown'
            rw [← L0.out] at t
            simpa [upTwo] using t)
          have HB2 := Lib.hid (HBEL.out.trans hbel')
          clear hown' hbel' e0 e1
          go_wp2_with (at_builtin; refine wpList_append_eq _ rfl _ _ _ _ rfl _ _ rfl rfl hr ?_)
          go_roundw
          case rel => exact ⟨1, by omega, rfl, HO2.out, HB2.out⟩
          case measure => simp [intOf]
        | 1, _ =>
          obtain ⟨A2, c2, rfl⟩ := ownE_shape HO.out
          obtain ⟨v', w', hr, hown', hbel'⟩ := app_evs w.heap.size _ _ (upTwo l0 l1 1) wr HO.out A1 n1 c1 l1 e1 (by show l0.length + n1 ≤ 1000000; rw [L0.out]; omega) HBEL.out.size 23
          have HO2 : Hid (w'.ownsRow w.heap.size 43 8 v' (upTwo l0 l1 2).length (cellsE (upTwo l0 l1 2))) := Lib.hid (by
            have t := hown'
            rw [← L1.out] at t
            simpa [upTwo] using t)
          have HB2 := Lib.hid (HBEL.out.trans hbel')
          clear hown' hbel' e0 e1
          go_wp2_with (at_builtin; refine wpList_append_eq _ rfl _ _ _ _ rfl _ _ rfl rfl hr ?_)
          go_roundw
          case rel => exact ⟨2, by omega, rfl, HO2.out, HB2.out⟩
          case measure => simp [intOf]
        | 2, _ =>
          obtain ⟨A2, c2, rfl⟩ := ownE_shape HO.out
          clear e0 e1
          go_wp2
          go_ret
          exact ⟨A2, c2, rfl, HO.out, HBEL.out⟩
end Go.Proofs.Ytkikfaeigoeogaa.P
