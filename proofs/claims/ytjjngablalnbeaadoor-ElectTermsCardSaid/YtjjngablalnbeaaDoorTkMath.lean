/- Tickets, plain: the order, where no function of ticket but Order is at hand. -/
import Derived.Test.YtjjngablalnbeaaDoorTkCmp
namespace Go.Proofs.YtjjngablalnbeaaDoor.P
open Go.RowKit Go.Sort
set_option linter.unusedVariables false
set_option linter.unusedSimpArgs false

theorem ord_mem_iff (z : KV) (l : List KV) : z ∈ ordL befB l ↔ z ∈ l := by
  have : ∀ (l acc : List KV), z ∈ l.foldl (fun o x => insL befB x o) acc ↔ z ∈ acc ∨ z ∈ l := by
    intro l
    induction l with
    | nil => intro acc; simp
    | cons x r ih =>
      intro acc
      rw [List.foldl_cons, ih, insL_mem, List.mem_cons]
      constructor
      · rintro ((h | h) | h)
        · exact .inr (.inl h)
        · exact .inl h
        · exact .inr (.inr h)
      · rintro (h | h | h)
        · exact .inl (.inr h)
        · exact .inl (.inl h)
        · exact .inr h
  have h := this l []
  simpa [ordL] using h
theorem insL_perm (x : KV) : ∀ o : List KV, (insL befB x o).Perm (x :: o)
  | [] => List.Perm.refl _
  | y :: r => by
    unfold insL
    split
    · exact List.Perm.refl _
    · exact ((insL_perm x r).cons y).trans (List.Perm.swap x y r)
theorem ordL_perm (l : List KV) : (ordL befB l).Perm l := by
  have : ∀ (l acc : List KV), (l.foldl (fun o x => insL befB x o) acc).Perm (acc ++ l) := by
    intro l
    induction l with
    | nil => intro acc; simp
    | cons x r ih =>
      intro acc
      rw [List.foldl_cons]
      refine (ih _).trans ?_
      refine ((insL_perm x acc).append_right r).trans ?_
      simpa using (List.perm_middle (a := x) (l₁ := acc) (l₂ := r)).symm
  simpa [ordL] using this l []
theorem teq_comm (a b : ByteArray) : teq a b = teq b a := by
  cases h : teq a b with
  | true => rw [teq_iff.1 h, teq_self]
  | false =>
    cases k : teq b a with
    | true => rw [teq_iff.1 k, teq_self] at h; cases h
    | false => rfl
theorem ordL_part (p : KV → Bool) (l : List KV) : ordL befB (l.filter p) = (ordL befB l).filter p := by
  refine one_list befB_swo _ _ (ordL_sort befB_swo _) (List.Pairwise.filter p (ordL_sort befB_swo l)) fun c => ?_
  rw [Go.Proofs.YtjjngablalnbeaaDoor.P.ordL_filter befB_swo, List.filter_filter, List.filter_filter]
  have e : ∀ m : List KV, m.filter (fun a => eqvB befB c a && p a) = (m.filter (eqvB befB c)).filter p := fun m => by
    rw [List.filter_filter]
    exact List.filter_congr fun x _ => Bool.and_comm _ _
  rw [e l, e (ordL befB l), Go.Proofs.YtjjngablalnbeaaDoor.P.ordL_filter befB_swo]
theorem bef_total {x z : KV} (h : befB x z = false) (k : teq z.key x.key = false) : befB z x = true := by
  unfold befB at h ⊢
  rw [Bool.or_eq_false_iff] at h
  obtain ⟨h1, h2⟩ := h
  have h1 := of_decide_eq_false h1
  by_cases e : x.cre = z.cre
  · rw [e] at h2
    simp at h2
    rw [Bool.or_eq_true]
    refine .inr ?_
    rw [e]
    simp
    exact tlt_total h2 (by rw [teq_comm]; exact k)
  · rw [Bool.or_eq_true]
    exact .inl (decide_eq_true (by omega))
/-- The first one of the order has the least Create. -/
theorem first_least (l : List KV) (x : KV) (r : List KV) (ho : ordL befB l = x :: r) (y : KV) (hy : y ∈ l) : x.cre ≤ y.cre := by
  have hs := ordL_sort befB_swo l
  unfold SortL at hs
  rw [ho, List.pairwise_cons] at hs
  have hm := (ord_mem_iff y l).2 hy
  rw [ho] at hm
  rcases List.mem_cons.1 hm with rfl | hm
  · exact Int.le_refl _
  · have := hs.1 y hm
    unfold befB at this
    rw [Bool.or_eq_false_iff] at this
    have := of_decide_eq_false this.1
    omega
/-- Neighbours of the order stand as they should. -/
theorem ord_near (l : List KV) (i : Nat) (x y : KV) (hx : (ordL befB l)[i]? = some x) (hy : (ordL befB l)[i + 1]? = some y) : ¬ y.cre < x.cre ∧ (x.cre = y.cre → tlt y.key x.key = false) := by
  have hs := ordL_sort befB_swo l
  unfold SortL at hs
  rw [List.pairwise_iff_getElem] at hs
  obtain ⟨h1, e1⟩ := List.getElem?_eq_some_iff.1 hx
  obtain ⟨h2, e2⟩ := List.getElem?_eq_some_iff.1 hy
  have := hs i (i + 1) h1 h2 (by omega)
  rw [e1, e2] at this
  unfold befB at this
  rw [Bool.or_eq_false_iff] at this
  refine ⟨of_decide_eq_false this.1, fun e => ?_⟩
  have h3 := this.2
  rw [e] at h3
  simpa using h3
theorem any_perm {a b : List KV} (h : a.Perm b) (p : KV → Bool) : a.any p = b.any p := by
  rw [Bool.eq_iff_iff, List.any_eq_true, List.any_eq_true]
  exact ⟨fun ⟨x, hx, hp⟩ => ⟨x, h.mem_iff.1 hx, hp⟩, fun ⟨x, hx, hp⟩ => ⟨x, h.mem_iff.2 hx, hp⟩⟩
end Go.Proofs.YtjjngablalnbeaaDoor.P
