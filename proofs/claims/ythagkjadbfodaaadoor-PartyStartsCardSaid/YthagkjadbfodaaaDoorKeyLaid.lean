/- What the row's list gives: the table of letters lies in memory as its initialiser laid it. -/
import Derived.Test.YthagkjadbfodaaaDoorCards
import Derived.Test.YthagkjadbfodaaaDoorTie
import Derived.Test.YthagkjadbfodaaaDoorKeyId
import Derived.ProofKit
import Derived.OpenShut
import Derived.ShutString
import Derived.LaidMore
import Derived.Stop.Joined
namespace Go.Proofs.YthagkjadbfodaaaDoor.P
open Go.ChangeShapes Go.WideShapes Go.ChangeAt Go.RowKit
set_option maxRecDepth 100000

def laidK : List (String × DataW Unit) := [("baton/key.letters", Rows.laid_baton_key_letters)]
theorem own : ownKnob Tryd.prog.godebug = none := by kernel_rfl
theorem gLetters : Tryd.prog.globalNamed "baton/key.letters" = some 0 := by kernel_rfl
theorem tLetters : (Tryd.prog.globals[0]?).map (·.type) = some 76 := by kernel_rfl
theorem laidK_plain : (laidK.all fun x => x.2.handleName?.isNone) = true := by kernel_rfl

/-- The door's own heap meets the condition. -/
theorem door_met (os : Os) (args : Array Value) : laidMetH Tryd.prog laidK ((World.doorLaid Tryd.prog 400 os).forCall (fun _ _ => 0) ⟨#[], args, []⟩).memory :=
  laidMetH_of_parts3 (fuel := 8) (laidMet_of_run' 8 (by kernel_rfl) (by kernel_rfl)) (by kernel_rfl) (by kernel_rfl)

theorem cells_tab : Tryd.prog.cellsOf 76 = 9 := by kernel_rfl
theorem cells_str : Tryd.prog.cellsOf 9 = 1 := by kernel_rfl

theorem lit_inj {H : Type} {l m : List UInt8} (h : (some (DataW.lit (.string l)) : Option (DataW H)) = some (.lit (.string m))) : m = l := by
  injection h with h
  injection h with h
  injection h with h
  exact h.symm

theorem letters_of_laid {W : World} (h : laidMetH Tryd.prog laidK W) : Letters W := by
  rw [MakeChecks.laidMetH_plain _ _ _ laidK_plain] at h
  obtain ⟨ps, ⟨g0, t0, cs0, f0, p0, q0, hg0, ht0, hv0, hd0, _⟩, _⟩ := h
  obtain rfl := Option.some.inj (gLetters.symm.trans hg0)
  obtain rfl := Option.some.inj (tLetters.symm.trans ht0)
  obtain ⟨xs, m1, rfl, hx1, hlen, hn, hel⟩ := DataW.trod_array Tryd.underlying76 hd0
  simp only [Prod.mk.injEq, Rows.laid_baton_key_letters, DataW.agg.injEq] at hx1
  have key : ∀ k, k < 9 → ∃ s : ByteArray, W.cell? ⟨0, k, none⟩ = some (.string s) ∧ s.data.toList = (letterB k).data.toList := by
    intro k hk
    have hk' := hel k hk
    rw [cells_str] at hk'
    obtain ⟨x, hx⟩ : ∃ x, xs[k]? = some x := ⟨_, List.getElem?_eq_getElem (by omega)⟩
    rw [hx] at hk'
    obtain ⟨s, hs1, hs2, _⟩ := DataW.trod_string Tryd.underlying9 hk'
    have hc : cs0[k]? = some (.string s) := by
      have h1 : ((cs0.toList.drop (k * 1)).take 1)[0]? = some (.string s) := by rw [hs1]; rfl
      rw [List.getElem?_take_of_lt (by omega), List.getElem?_drop] at h1
      simpa using h1
    refine ⟨s, ?_, ?_⟩
    · exact (World.var?_cell gLetters hv0 k).trans hc
    · have h2 : (xs.map (·.1))[k]? = some (.lit (.string s.data.toList)) := by rw [List.getElem?_map, hx, hs2]; rfl
      rw [← hx1.1] at h2
      match k, hk, h2 with
      | 0, _, h2 => exact lit_inj h2
      | 1, _, h2 => exact lit_inj h2
      | 2, _, h2 => exact lit_inj h2
      | 3, _, h2 => exact lit_inj h2
      | 4, _, h2 => exact lit_inj h2
      | 5, _, h2 => exact lit_inj h2
      | 6, _, h2 => exact lit_inj h2
      | 7, _, h2 => exact lit_inj h2
      | 8, _, h2 => exact lit_inj h2
  refine ⟨?_, fun k hk => ?_⟩
  · obtain ⟨s, hc, _⟩ := key 0 (by omega)
    rcases Nat.lt_or_ge 0 W.heap.size with hlt | hge
    · exact hlt
    · have : W.cell? ⟨0, 0, none⟩ = none := by
        unfold World.cell?
        rw [Array.getElem?_eq_none hge]
      rw [this] at hc
      cases hc
  · obtain ⟨s, hc, hs⟩ := key k hk
    rw [hc, ext_list hs]
end Go.Proofs.YthagkjadbfodaaaDoor.P
