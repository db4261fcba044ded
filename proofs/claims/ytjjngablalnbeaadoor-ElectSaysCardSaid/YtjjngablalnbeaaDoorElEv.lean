/- Parts of slices of events. -/
import Derived.Test.YtjjngablalnbeaaDoorEvBase
import Derived.Test.YtjjngablalnbeaaDoorGenApp
namespace Go.Proofs.YtjjngablalnbeaaDoor.P
open Go.RowKit Go.Sort
set_option linter.unusedVariables false

theorem Evs.take {w : World} {A : Option Addr} {n c i : Nat} {l : List Ev} (h : Evs w A n c l) (hi : i ≤ n) : Evs w A i c (l.take i) :=
  ⟨by rw [List.length_take, h.len]; omega, Nat.le_trans hi h.le, h.max, fun x hx => h.ok x (List.mem_of_mem_take hx), fun h0 => by
    obtain ⟨a, e, hlt, hx⟩ := h.rd (by omega)
    exact ⟨a, e, hlt, fun k x hk => hx k x (by
      rw [List.getElem?_take] at hk
      split at hk
      · exact hk
      · cases hk)⟩, h.nil⟩
theorem Evs.drop {w : World} {a : Addr} {n c i : Nat} {l : List Ev} (h : Evs w (some a) n c l) (hi : i ≤ n) : Evs w (if c = i then some a else some (a.add (i * 8))) (n - i) (c - i) (l.drop i) :=
  ⟨by rw [List.length_drop, h.len], by have := h.le; omega, by have := h.max; omega, fun x hx => h.ok x (List.mem_of_mem_drop hx), fun h0 => by
    obtain ⟨a', e, hlt, hx⟩ := h.rd (by omega)
    obtain rfl := Option.some.inj e
    have hci : ¬ c = i := by have := h.le; omega
    rw [if_neg hci]
    refine ⟨_, rfl, by rw [block_add]; exact hlt, fun k x hk => ?_⟩
    rw [List.getElem?_drop] at hk
    rw [add_add', ← Nat.add_mul]
    exact hx _ x hk, fun h0 => by split at h0 <;> cases h0⟩
end Go.Proofs.YtjjngablalnbeaaDoor.P
