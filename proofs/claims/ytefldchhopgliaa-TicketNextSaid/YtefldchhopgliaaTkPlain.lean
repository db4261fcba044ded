/- Tickets, plain: the order is a permutation; who holds where keys are unlike. -/
import Derived.Test.YtefldchhopgliaaTkUn
namespace Go.Proofs.Ytefldchhopgliaa.P
open Go.RowKit Go.Sort
set_option linter.unusedVariables false
set_option linter.unusedSimpArgs false

theorem insL_perm (x : KV) : ∀ o : List KV, (insL befB x o).Perm (x :: o)
  | [] => List.Perm.refl _
  | y :: r => by
    unfold insL
    split
    · exact List.Perm.refl _
    · exact ((insL_perm x r).cons y).trans (List.Perm.swap x y r)
theorem ordL_perm (l : List KV) : (ordL befB l).Perm l := by
  have : ∀ (l acc : List KV), (l.foldl (fun o x => insL befB x o) acc).Perm (acc ++ l) := by
    intro l
    induction l with
    | nil => intro acc; simp
    | cons x r ih =>
      intro acc
      rw [List.foldl_cons]
      refine (ih _).trans ?_
      refine ((insL_perm x acc).append_right r).trans ?_
      simpa using (List.perm_middle (a := x) (l₁ := acc) (l₂ := r)).symm
  simpa [ordL] using this l []
theorem teq_comm (a b : ByteArray) : teq a b = teq b a := by
  cases h : teq a b with
  | true => rw [teq_iff.1 h, teq_self]
  | false =>
    cases k : teq b a with
    | true => rw [teq_iff.1 k, teq_self] at h; cases h
    | false => rfl
theorem unB_pair (l : List KV) : unB l = true ↔ l.Pairwise fun x y => teq x.key y.key = false := by
  constructor
  · intro h
    rw [List.pairwise_iff_getElem]
    intro i j hi hj hij
    have := (met_iff _ _).1 (unB_at h j l[j] (List.getElem?_eq_getElem hj)) l[i] (List.mem_of_getElem? (i := i) (by rw [List.getElem?_take_of_lt hij]; exact List.getElem?_eq_getElem hi))
    exact this
  · intro h
    rw [List.pairwise_iff_getElem] at h
    have : ∀ j, j ≤ l.length → unTo l j = true := by
      intro j
      induction j with
      | zero => intro _; rfl
      | succ j ih =>
        intro hj
        have hx : l[j]? = some l[j] := List.getElem?_eq_getElem (by omega)
        rw [unTo_next l j _ hx, ih (by omega), Bool.true_and]
        have : metB (l.take j) l[j].key = false := by
          rw [met_iff]
          intro y hy
          obtain ⟨i, hi⟩ := List.mem_iff_getElem?.1 hy
          have hij : i < j := by
            have := (List.getElem?_eq_some_iff.1 hi).1
            rw [List.length_take] at this
            omega
          rw [List.getElem?_take_of_lt hij] at hi
          obtain ⟨hil, he⟩ := List.getElem?_eq_some_iff.1 hi
          rw [← he]
          exact h i j hil (by omega) hij
        rw [this]
        rfl
    exact this _ (Nat.le_refl _)
theorem unB_ord {l : List KV} (h : unB l = true) : unB (ordL befB l) = true := by
  rw [unB_pair] at h ⊢
  exact ((ordL_perm l).pairwise_iff (fun {x y} hxy => by rw [teq_comm]; exact hxy)).2 h
/-- One holds, the first one. -/
theorem hold_one (kind m : Int) (hk : kind = 1 ∨ kind = 3 ∨ kind = 5) (ol : List KV) : ∀ j, holdTo kind m ol j = (ol.take (min j 1)).map KV.key
  | 0 => by simp [holdTo]
  | j + 1 => by
    unfold holdTo
    rw [hold_one kind m hk ol j]
    cases hx : ol[j]? with
    | none =>
      have hl : ol.length ≤ j := List.getElem?_eq_none_iff.1 hx
      by_cases hj : j = 0
      · subst hj
        obtain rfl := List.eq_nil_of_length_eq_zero (Nat.le_zero.1 hl)
        simp
      · rw [show min j 1 = 1 by omega, show min (j + 1) 1 = 1 by omega]; simp
    | some x =>
      unfold letsB
      rw [if_pos hk]
      by_cases hj : j = 0
      · subst hj
        cases ol with
        | nil => cases hx
        | cons y r =>
          simp at hx
          subst hx
          simp [metB]
      · rw [show min j 1 = 1 by omega, show min (j + 1) 1 = 1 by omega]
        have : ¬ ((j : Int) = 0) := by omega
        simp [hj]
/-- Of permits the first n hold. -/
theorem hold_permit (n : Int) (ol : List KV) (h : unB ol = true) : ∀ j, holdTo 4 n ol j = (ol.take (min j n.toNat)).map KV.key
  | 0 => by simp [holdTo]
  | j + 1 => by
    unfold holdTo
    rw [hold_permit n ol h j]
    cases hx : ol[j]? with
    | none =>
      have hl : ol.length ≤ j := List.getElem?_eq_none_iff.1 hx
      by_cases hj : j < n.toNat
      · rw [show min j n.toNat = j by omega, show min (j + 1) n.toNat = j + 1 by omega, List.take_of_length_le hl, List.take_of_length_le (by omega)]; simp
      · rw [show min j n.toNat = n.toNat by omega, show min (j + 1) n.toNat = n.toNat by omega]; simp
    | some x =>
      have hm := unB_at h j x hx
      unfold letsB
      rw [if_neg (by omega), if_neg (by omega), if_pos rfl]
      by_cases hj : j < n.toNat
      · have hjn : (j : Int) < n := by omega
        rw [show min j n.toNat = j by omega, show min (j + 1) n.toNat = j + 1 by omega, take_succ ol j x hx]
        simp [hm, hjn]
      · have hjn : ¬ ((j : Int) < n) := by omega
        rw [show min j n.toNat = n.toNat by omega, show min (j + 1) n.toNat = n.toNat by omega]
        simp [hjn]
theorem holders_one (kind m : Int) (hk : kind = 1 ∨ kind = 3 ∨ kind = 5) (l : List KV) : holdersL kind m l = ((ordL befB l).take 1).map KV.key := by
  unfold holdersL
  rw [hold_one kind m hk]
  by_cases h : l.length = 0
  · obtain rfl := List.eq_nil_of_length_eq_zero h
    rfl
  · rw [show min l.length 1 = 1 by omega]
theorem holders_permit (n : Int) (l : List KV) (h : unB l = true) : holdersL 4 n l = ((ordL befB l).take n.toNat).map KV.key := by
  unfold holdersL
  rw [hold_permit n _ (unB_ord h)]
  by_cases hn : n.toNat ≤ l.length
  · rw [show min l.length n.toNat = n.toNat by omega]
  · rw [show min l.length n.toNat = l.length by omega, List.take_of_length_le (by rw [ordL_len]; omega), List.take_of_length_le (by rw [ordL_len]; omega)]
end Go.Proofs.Ytefldchhopgliaa.P
