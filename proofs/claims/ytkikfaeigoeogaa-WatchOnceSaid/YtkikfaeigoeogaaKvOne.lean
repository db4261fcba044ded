/- Which things may be, and which lists of them: hist's questions, and the document's. -/
import Derived.Test.YtkikfaeigoeogaaKvRead
import Derived.Test.YtkikfaeigoeogaaKeyStr
namespace Go.Proofs.Ytkikfaeigoeogaa.P
open Go.RowKit
set_option maxHeartbeats 400000
set_option linter.unusedVariables false
set_option maxRecDepth 100000

def OneP (x : KV) : Prop := x.val.size ≤ 20 ∧ 1 ≤ x.cre ∧ x.cre ≤ x.mod ∧ x.mod ≤ 1099511627775 ∧ 1 ≤ x.ver ∧ x.ver ≤ x.mod - x.cre + 1 ∧ 0 ≤ x.lea ∧ x.lea ≤ 1099511627775
instance (x : KV) : Decidable (OneP x) := by unfold OneP; infer_instance
def oneB (x : KV) : Bool := checkL x.key.data.toList && decide (OneP x)

theorem one_not {x : KV} (h : ¬ OneP x) : oneB x = false := by simp [oneB, h]
theorem one_last {x : KV} {p : Prop} [Decidable p] (hc : checkL x.key.data.toList = true) (h : p ↔ OneP x) : decide p = oneB x := by
  rw [oneB, hc, Bool.true_and]; exact decide_eq_decide.2 h


theorem one_any (x : KV) (w : World) (hx : x.ok) :
    Calls Try.prog 59 #[x.agg] w fun e w' => e = .returned (.bool (oneB x)) ∧ Below w.heap.size w w' := by
  obtain ⟨z1, z2, ⟨a1, b1⟩, ⟨a2, b2⟩, ⟨a3, b3⟩, ⟨a4, b4⟩⟩ := hx
  have Z1 := Lib.hid z1
  unfold maxLen at z1 z2
  by_cases hck : checkL x.key.data.toList = true
  · have HC := Lib.hid hck
    clear hck
    go_enter Try.func59, Try.ntmps59
    go_wp2_with fail
    refine (check_ref _ _ Z1.out).mono ?_; rintro e w1 ⟨rfl, rfl⟩
    rw [HC.out]
    go_wp2
    all_goals go_ret
    all_goals exact ⟨retB (by first | exact one_last HC.out (by unfold OneP; omega) | exact (one_not (by unfold OneP; omega)).symm), (Below.refl _ _).alloc (Nat.le_refl _) _⟩
  · have HC := Lib.hid (show checkL x.key.data.toList = false by simpa using hck)
    clear hck
    go_enter Try.func59, Try.ntmps59
    go_wp2_with fail
    refine (check_ref _ _ Z1.out).mono ?_; rintro e w1 ⟨rfl, rfl⟩
    rw [HC.out]
    go_wp2
    go_ret
    exact ⟨retB (by rw [oneB, HC.out]; rfl), (Below.refl _ _).alloc (Nat.le_refl _) _⟩
end Go.Proofs.Ytkikfaeigoeogaa.P
