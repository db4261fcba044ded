/- A slice of events copied into a row of the call's own. -/
import Derived.Test.YtgafkpngnoecaaaMvCome
import Derived.Maps.AppendAt
namespace Go.Proofs.Ytgafkpngnoecaaa.P
open Go.RowKit Go.Sort
set_option maxHeartbeats 1000000
set_option linter.unusedVariables false
set_option linter.unusedSimpArgs false
set_option maxRecDepth 100000

theorem Evs.cells {w : World} {a : Addr} {n c : Nat} {l : List Ev} (h : Evs w (some a) n c l) : ∀ j u, (cellsE l)[j]? = some u → w.cell? (a.add j) = some u := by
  intro j u hu
  have hj : j < (cellsE l).length := (List.getElem?_eq_some_iff.1 hu).1
  rw [cellsE_len] at hj
  have hi : j / 8 < l.length := by omega
  obtain ⟨a', e, _, hx⟩ := h.rd (by rw [← h.len]; omega)
  obtain rfl := Option.some.inj e
  have hc := hx (j / 8) _ (List.getElem?_eq_getElem hi)
  have hu' := cellsE_at l (j / 8) (j % 8) _ (List.getElem?_eq_getElem hi) (by omega)
  rw [show j / 8 * 8 + j % 8 = j by omega, hu] at hu'
  have hd : j = j / 8 * 8 + j % 8 := by omega
  rw [hd]
  generalize j / 8 * 8 = m at *
  have hr : j % 8 < 8 := by omega
  generalize j % 8 = r at *
  match r, hr, hu' with
  | 0, _, hu' => rw [Nat.add_zero]; exact hc.c0.trans hu'.symm
  | 1, _, hu' => rw [add_more _ _ _ (by omega)]; exact hc.c1.trans hu'.symm
  | 2, _, hu' => rw [add_more _ _ _ (by omega)]; exact hc.c2.trans hu'.symm
  | 3, _, hu' => rw [add_more _ _ _ (by omega)]; exact hc.c3.trans hu'.symm
  | 4, _, hu' => rw [add_more _ _ _ (by omega)]; exact hc.c4.trans hu'.symm
  | 5, _, hu' => rw [add_more _ _ _ (by omega)]; exact hc.c5.trans hu'.symm
  | 6, _, hu' => rw [add_more _ _ _ (by omega)]; exact hc.c6.trans hu'.symm
  | 7, _, hu' => rw [add_more _ _ _ (by omega)]; exact hc.c7.trans hu'.symm

/-- The end of a call that makes a row of events of its own. -/
def OwnEndE (base : Nat) (l : List Ev) (w : World) (e : Ending) (w' : World) : Prop := ∃ A c, e = .returned (.slice A l.length c) ∧ w'.ownsRow base 74 8 (.slice A l.length c) l.length (cellsE l) ∧ Below base w w'
theorem OwnEndE.evs {base : Nat} {w : World} {l : List Ev} {e : Ending} {w' : World} (h : OwnEndE base l w e w') (ok : ∀ x ∈ l, x.ok) : ∃ A c, e = .returned (.slice A l.length c) ∧ Evs w' A l.length c l ∧ Below base w w' := by
  obtain ⟨A, c, rfl, hown, hb⟩ := h
  exact ⟨A, c, rfl, evs_of_own hown ok, hb⟩
theorem cloneE_any (A : Option Addr) (n c : Nat) (l : List Ev) (w : World) (h : Evs w A n c l) (hn : n ≤ 1000000) :
    Calls Try.prog 76 #[.slice A n c] w (OwnEndE w.heap.size l w) := by
  obtain rfl := h.len
  rcases A with _ | a
  · have h0 := h.nil rfl
    subst h0
    have hl0 : l.length = 0 := by have := h.le; omega
    have hl : l = [] := List.eq_nil_of_length_eq_zero hl0
    subst hl
    clear h hl0
    have hnil := fun (w : World) => Lib.run_eql_slice_nil (P := Try.prog) w 23 74 none 0 0 0 0 Try.underlying23
    go_enter Try.func76, Try.ntmps76
    go_wp2
    go_ret
    exact ⟨none, 0, rfl, ⟨rfl, .inl ⟨rfl, rfl⟩⟩, Below.refl _ _⟩
  · obtain ⟨i0, hi0, hz0, hz1, hz2⟩ := info_parts info_ev
    have HH := Lib.hid h
    have H := Lib.hid (HH.out.keep (((Below.refl w.heap.size w).alloc (Nat.le_refl _) (.cells #[] 74))))
    clear h
    have hnil := fun (w : World) (n c : Nat) => Lib.run_eql_slice_nil (P := Try.prog) w 23 74 (some a) n c 0 0 Try.underlying23
    go_enter Try.func76, Try.ntmps76
    go_wp2_with (at_builtin; refine wpList_append_own_at _ rfl _ _ 23 rfl w.heap.size 74 i0 zeroEvA 8 80 Try.underlying23 hi0 hz0 hz1 hz2 rfl (by omega) (.slice (some ⟨w.heap.size, 0, none⟩) 0 0) 0 [] rfl (World.ownsRow_made w #[] 0 (Nat.le_refl _) (Nat.zero_le _) rfl) a l.length c (cellsE l) rfl (cellsE_len l) H.out.cells (fun u hu => cellsE_one' hu) (by simp only [maxLen]; omega) (by omega) (by simp) ?_; intro v1 w1 hown1 hg1 hnil1 hat1)
    rw [Nat.zero_add, List.nil_append] at hown1
    obtain ⟨A1, c1, rfl⟩ := ownE_shape hown1
    have HO := Lib.hid hown1
    have HG := Lib.hid hg1
    clear hown1 hg1 hnil1 hat1
    go_wp2
    go_ret
    exact ⟨A1, c1, rfl, HO.out, ((Below.refl _ _).alloc (Nat.le_refl _) _).grown HG.out (by simp) (fun k hk => by simp [Value.ownBlock] at hk; omega)⟩
end Go.Proofs.Ytgafkpngnoecaaa.P
