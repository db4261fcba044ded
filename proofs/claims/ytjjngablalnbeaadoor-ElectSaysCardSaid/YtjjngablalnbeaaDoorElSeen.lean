/- Whoever is seen is in order. -/
import Derived.Test.YtjjngablalnbeaaDoorElPure
namespace Go.Proofs.YtjjngablalnbeaaDoor.P
open Go.RowKit Go.Sort
set_option linter.unusedVariables false
theorem newB_mem {a b : Option KV} {x : KV} (h : x ∈ newB a b) : b = some x := by
  unfold newB at h
  cases b with
  | none => simp at h
  | some y =>
    cases a with
    | none => simp at h; rw [h]
    | some z =>
      simp only at h
      split at h
      · simp at h
      · simp at h; rw [h]
theorem seenL_ok : ∀ (f : Nat) (l : List KV) (es : List Ev), (∀ x ∈ l, x.ok) → (∀ e ∈ es, e.ok) → ∀ x ∈ seenL f l es, x.ok
  | 0, _, _, _, _, x, hx => by simp [seenL] at hx
  | f + 1, l, es, hl, he, x, hx => by
    have hv := view_ok hl (es.take (runL es)) (fun e h => he e (List.mem_of_mem_take h))
    rw [seenL_succ] at hx
    split at hx
    · simp at hx
    · rw [List.mem_append] at hx
      rcases hx with h | h
      · exact hv x (headL_mem (newB_mem h))
      · exact seenL_ok f _ _ hv (fun e h => he e (List.mem_of_mem_drop h)) x h
theorem seen_ok {l : List KV} {es : List Ev} (hl : ∀ x ∈ l, x.ok) (he : ∀ e ∈ es, e.ok) : ∀ x ∈ seen l es, x.ok := seenL_ok _ l es hl he
theorem parts_mid (l0 : List KV) (l1 : List Ev) (k1 k : Nat) (x y : Ev) (hk : k1 + 1 = k) (hx : l1[k1]? = some x) (hy : l1[k]? = some y) (hr : ¬ x.rev = y.rev) : seen l0 (l1.take k) ++ seen (viewL l0 (l1.take k)) (l1.drop k) = seen l0 l1 := by
  have := seen_parts _ l0 (l1.take k) (l1.drop k) (Nat.le_refl _) (fun x' y' h1 h2 => by
    rw [List.head?_drop, hy] at h2
    obtain rfl := Option.some.inj h2
    rw [← hk, take_succ l1 k1 x hx, List.getLast?_append] at h1
    simp at h1
    rw [← h1]; exact hr)
  rw [List.take_append_drop] at this
  exact this.symm
theorem parts_end (l0 : List KV) (l1 : List Ev) (k : Nat) (h : k = 0 ∨ k = l1.length) : seen l0 (l1.take k) ++ seen (viewL l0 (l1.take k)) (l1.drop k) = seen l0 l1 := by
  have := seen_parts _ l0 (l1.take k) (l1.drop k) (Nat.le_refl _) (fun x' y' h1 h2 => by
    rcases h with rfl | rfl
    · simp at h1
    · simp at h2)
  rw [List.take_append_drop] at this
  exact this.symm
theorem parts_len {a b c : List KV} (h : a ++ b = c) : a.length + b.length = c.length := by rw [← h, List.length_append]
end Go.Proofs.YtjjngablalnbeaaDoor.P
