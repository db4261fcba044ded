/- What two that change one thing each by its Mod do, plain. -/
import Derived.Test.YtgafkpngnoecaaaTxPutPure
namespace Go.Proofs.Ytgafkpngnoecaaa.P
open Go.RowKit
set_option linter.unusedVariables false

abbrev modC (k : ByteArray) (md : Int) : Cm := ⟨k, 2, 1, md, ⟨#[]⟩⟩
abbrev swapT (k v : ByteArray) (md : Int) : Tx := ⟨[modC k md], [⟨false, k, v, 0⟩], []⟩
theorem swap_may (k v : ByteArray) (md : Int) : txMayB (swapT k v md) = true := by simp [txMayB, askB]
theorem mod_holds (l : List KV) (k : ByteArray) (md : Int) : allB l [modC k md] = decide ((thingL l k).mod = md) := by simp [allB, holdsB, holdsX, numB]
theorem swap_first {s : St} (h : MaySt s) {k v : ByteArray} {md : Int} (hm : (thingL (nowL s) k).mod = md) (he : doE s (swapT k v md) = 0) :
    doY s (swapT k v md) = true ∧ (thingL (nowL (doS s (swapT k v md))) k).val = v ∧ (thingL (nowL (doS s (swapT k v md))) k).mod = s.rev + 1 ∧ (findL (nowL (doS s (swapT k v md))) k).isSome = true := by
  have hA : allB (nowL s) [modC k md] = true := by rw [mod_holds]; exact decide_eq_true hm
  obtain ⟨p1, p2, p3⟩ := do_pick (swap_may k v md) hA
  have hE : applyE s [⟨false, k, v, 0⟩] = 0 := by rw [← p1]; exact he
  have hi := find_apply_in h hE (m := ⟨false, k, v, 0⟩) (by simp)
  have hi2 : findL (nowL (doS s (swapT k v md))) k = some (laid (nowL s) ⟨false, k, v, 0⟩ (s.rev + 1)) := by rw [p2]; exact hi
  have hl : (laid (nowL s) ⟨false, k, v, 0⟩ (s.rev + 1)).val = v ∧ (laid (nowL s) ⟨false, k, v, 0⟩ (s.rev + 1)).mod = s.rev + 1 := by
    unfold laid
    cases hf : findL (nowL s) (Mu.key ⟨false, k, v, 0⟩) with
    | none => exact ⟨rfl, rfl⟩
    | some y => exact ⟨rfl, rfl⟩
  refine ⟨by rw [p3]; exact decide_eq_true hE, ?_, ?_, by rw [hi2]; rfl⟩
  · unfold thingL; rw [hi2]; exact hl.1
  · unfold thingL; rw [hi2]; exact hl.2
theorem thing_mod {s : St} (h : MaySt s) (k : ByteArray) : (thingL (nowL s) k).mod ≤ s.rev := by
  cases hf : findL (nowL s) k with
  | none =>
    unfold thingL; rw [hf]
    show (0 : Int) ≤ s.rev
    have := h.low; have := h.le; omega
  | some x =>
    have := thing_cre h k x hf
    unfold thingL; rw [hf]
    exact this.2.2
theorem thing_low {s : St} (h : MaySt s) (k : ByteArray) : 0 ≤ (thingL (nowL s) k).mod := by
  cases hf : findL (nowL s) k with
  | none =>
    unfold thingL; rw [hf]
    exact Int.le_refl 0
  | some x =>
    have := thing_cre h k x hf
    unfold thingL; rw [hf]
    show 0 ≤ x.mod
    omega
theorem rev_top {s : St} (h : MaySt s) : s.rev ≤ 1099511627774 := h.max
theorem swap_second {s : St} (h : MaySt s) {k v v2 : ByteArray} {md : Int} (hm : (thingL (nowL s) k).mod = md) (he : doE s (swapT k v md) = 0) :
    doE (doS s (swapT k v md)) (swapT k v2 md) = 0 ∧ doS (doS s (swapT k v md)) (swapT k v2 md) = doS s (swapT k v md) ∧ doV (doS s (swapT k v md)) (swapT k v2 md) = [] ∧ doY (doS s (swapT k v md)) (swapT k v2 md) = false :=
  do_idle (swap_may k v2 md) (by
    show allB _ [modC k md] = false
    rw [mod_holds, (swap_first h hm he).2.2.1]
    have := thing_mod h k
    exact decide_eq_false (by omega)) rfl
end Go.Proofs.Ytgafkpngnoecaaa.P
