/- Room for events made at one go. -/
import Derived.Test.YtgafkpngnoecaaaMvClone
import Derived.Test.YtgafkpngnoecaaaKvIns
import Derived.Lib.AppendZerosOnto
namespace Go.Proofs.Ytgafkpngnoecaaa.P
open Go.RowKit Go.Sort
set_option maxHeartbeats 1000000
set_option linter.unusedVariables false
set_option linter.unusedSimpArgs false
set_option maxRecDepth 100000

theorem growE_any (n : Nat) (w : World) (hn : n ≤ 1000000) :
    Calls Try.prog 73 #[.slice none 0 0, .int .i64 n] w fun e w' => ∃ A c, e = .returned (.slice A 0 c) ∧ w'.ownsRow w.heap.size 74 8 (.slice A 0 c) 0 [] ∧ Below w.heap.size w w' := by
  by_cases h0 : n = 0
  · subst h0
    go_enter Try.func73, Try.ntmps73
    go_wp2
    go_ret
    exact ⟨none, 0, rfl, ⟨rfl, .inl ⟨rfl, rfl⟩⟩, Below.refl _ _⟩
  · obtain ⟨i0, hi0, hz0, hz1, hz2⟩ := info_parts info_ev
    have hpos : (0 : Int) < (n : Int) := by omega
    have hneg : ¬ ((n : Int) < 0) := by omega
    have hap := fun ty => Lib.run_append_grow_zeros (P := Try.prog) w 23 3 ty 74 i0 zeroEvA .i64 .i64 Try.underlying23 Try.underlying3 hi0 hz0 none 0 0 [] (run_firstCells_none _ _ _ _ _) n (by omega) (by omega) (by omega) (by omega) (by rw [hz2]; omega) (by rw [hz2]; exact growslice_fits (by omega) (by omega))
    rw [Nat.zero_add] at hap
    obtain ⟨G, hG⟩ : ∃ G, G = grownCap w n 0 74 := ⟨_, rfl⟩
    obtain ⟨ROW, hROW⟩ : ∃ ROW : Array Value, ROW = ([] : List Value).toArray ++ Builtin.zeroCells zeroEvA.cells n ++ Builtin.zeroCells zeroEvA.cells (G - n) := ⟨_, rfl⟩
    rw [← hG, ← hROW] at hap
    have hGn : n ≤ G := by rw [hG]; exact grownCap_ge w _ _ _
    have hGm : G ≤ maxLen := by rw [hG]; exact grownCap_le_maxLen w _ _ _ (by unfold maxLen; omega)
    have hRs : ROW.size = G * 8 := by
      rw [hROW, Array.size_append, Array.size_append, size_zeroCells, size_zeroCells, List.size_toArray]
      show 0 + n * 8 + (G - n) * 8 = G * 8
      omega
    have hfin : Hid ((w.drew.alloc (.cells ROW 74)).ownsRow w.heap.size 74 8 (.slice (some ⟨w.heap.size, 0, none⟩) 0 G) 0 []) :=
      Lib.hid ⟨rfl, .inr ⟨w.heap.size, G, ROW, rfl, Nat.le_refl _, heap_alloc_new w.drew _, Nat.zero_le _, hGm, hRs, by simp⟩⟩
    have hbel : Hid (Below w.heap.size w (w.drew.alloc (.cells ROW 74))) := Lib.hid ((Below.drew (Below.refl _ _)).alloc (Nat.le_refl _) _)
    have hGm' : (G : Int) ≤ 9223372036854775807 := by unfold maxLen at hGm; omega
    have HAP := Lib.hid hap
    clear hap hROW hG hRs hz0 hz2
    have hap' := HAP.out
    go_enter Try.func73, Try.ntmps73
    go_wp2_with (at_builtin; refine wpList_append_eq _ rfl _ _ _ _ rfl _ _ rfl rfl (hap' _) ?_)
    go_wp2
    go_ret
    exact ⟨some ⟨w.heap.size, 0, none⟩, G, rfl, hfin.out, hbel.out⟩
end Go.Proofs.Ytgafkpngnoecaaa.P
