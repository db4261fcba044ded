/- Plain: numbers in their order, with twins and without; no program in sight. -/
import Derived.Test.YtkikfaeigoeogaaKvPure
import Derived.Lib.SlicesCompact
namespace Go.Proofs.Ytkikfaeigoeogaa.P
open Go
set_option linter.unusedVariables false
set_option linter.unusedSimpArgs false
/-! Numbers that rise, each once. -/
theorem rise_ext : ∀ (l m : List Int), l.Pairwise (· < ·) → m.Pairwise (· < ·) → (∀ x, x ∈ l ↔ x ∈ m) → l = m
  | [], [], _, _, _ => rfl
  | [], b :: m, _, _, h => by have := (h b).2 (List.mem_cons_self ..); cases this
  | a :: l, [], _, _, h => by have := (h a).1 (List.mem_cons_self ..); cases this
  | a :: l, b :: m, hl, hm, h => by
    rw [List.pairwise_cons] at hl hm
    have hab : a = b := by
      have h1 := (h a).1 (List.mem_cons_self ..)
      have h2 := (h b).2 (List.mem_cons_self ..)
      rcases List.mem_cons.1 h1 with h1 | h1
      · exact h1
      · rcases List.mem_cons.1 h2 with h2 | h2
        · exact h2.symm
        · have := hm.1 _ h1
          have := hl.1 _ h2
          omega
    subst hab
    congr 1
    refine rise_ext l m hl.2 hm.2 fun x => ?_
    constructor
    · intro hx
      rcases List.mem_cons.1 ((h x).1 (List.mem_cons_of_mem _ hx)) with h1 | h1
      · have := hl.1 x hx; omega
      · exact h1
    · intro hx
      rcases List.mem_cons.1 ((h x).2 (List.mem_cons_of_mem _ hx)) with h1 | h1
      · have := hm.1 x hx; omega
      · exact h1
def sortI (l : List Int) : List Int := l.mergeSort fun x y => decide (x ≤ y)
def riseL (l : List Int) : List Int := Lib.compact (sortI l)
theorem sortI_perm (l : List Int) : (sortI l).Perm l := List.mergeSort_perm l _
theorem sortI_le (l : List Int) : (sortI l).Pairwise (· ≤ ·) := by
  have := List.pairwise_mergeSort (le := fun x y : Int => decide (x ≤ y)) (fun a b c h1 h2 => by simp at *; omega) (fun a b => by simp; omega) l
  exact this.imp (by simp)
theorem comp_up (d : Array Int) (hd : ∀ i j, i ≤ j → j < d.size → d[i]! ≤ d[j]!) : ∀ m, m ≤ d.size → (Lib.compactUpTo d m).Pairwise (· < ·) ∧ (∀ x, x ∈ Lib.compactUpTo d m ↔ ∃ j, j < m ∧ d[j]! = x)
  | 0, _ => ⟨List.Pairwise.nil, fun x => Iff.intro (fun h => by simp [Lib.compactUpTo] at h) (fun ⟨j, h, _⟩ => absurd h (Nat.not_lt_zero j))⟩
  | m + 1, hm => by
    obtain ⟨h1, h2⟩ := comp_up d hd m (by omega)
    rw [Lib.compactUpTo_succ]
    cases hk : Lib.keeps d m with
    | true =>
      rw [if_pos rfl]
      unfold Lib.keeps at hk
      rw [decide_eq_true_iff] at hk
      constructor
      · rw [List.pairwise_append]
        refine ⟨h1, List.pairwise_singleton _ _, fun a ha b hb => ?_⟩
        rw [List.mem_singleton] at hb
        subst hb
        obtain ⟨j, hj, rfl⟩ := (h2 a).1 ha
        have hp := hd j (m - 1) (by omega) (by omega)
        have hq := hd (m - 1) m (by omega) (by omega)
        rcases hk with hk | hk
        · omega
        · omega
      · intro x
        rw [List.mem_append, h2, List.mem_singleton]
        constructor
        · rintro (⟨j, hj, hx⟩ | hx)
          · exact ⟨j, by omega, hx⟩
          · exact ⟨m, by omega, hx.symm⟩
        · rintro ⟨j, hj, hx⟩
          by_cases hjm : j = m
          · subst hjm; exact .inr hx.symm
          · exact .inl ⟨j, by omega, hx⟩
    | false =>
      rw [if_neg (by simp)]
      rw [List.append_nil]
      unfold Lib.keeps at hk
      rw [decide_eq_false_iff_not] at hk
      refine ⟨h1, fun x => ?_⟩
      rw [h2]
      constructor
      · rintro ⟨j, hj, hx⟩; exact ⟨j, by omega, hx⟩
      · rintro ⟨j, hj, hx⟩
        by_cases hjm : j = m
        · subst hjm
          have hj0 : ¬ j = 0 := fun h => hk (.inl h)
          refine ⟨j - 1, by omega, ?_⟩
          rw [← hx]
          exact (Classical.byContradiction fun h => hk (.inr h)).symm
        · exact ⟨j, by omega, hx⟩
theorem rise_up (l : List Int) : (riseL l).Pairwise (· < ·) ∧ ∀ x, x ∈ riseL l ↔ x ∈ l := by
  have hs := sortI_le l
  have hp := sortI_perm l
  have hd : ∀ i j, i ≤ j → j < (sortI l).toArray.size → (sortI l).toArray[i]! ≤ (sortI l).toArray[j]! := by
    intro i j hij hj
    have hj' : j < (sortI l).length := by simpa using hj
    have hi' : i < (sortI l).length := by omega
    have e : ∀ k (hk : k < (sortI l).length), (sortI l).toArray[k]! = (sortI l)[k] := fun k hk => by simp [getElem!_pos, hk]
    rw [e i hi', e j hj']
    by_cases h : i = j
    · subst h; omega
    · exact List.pairwise_iff_getElem.1 hs i j hi' hj' (by omega)
  obtain ⟨h1, h2⟩ := comp_up (sortI l).toArray hd (sortI l).length (by simp)
  refine ⟨h1, fun x => ?_⟩
  show x ∈ Lib.compactUpTo (sortI l).toArray (sortI l).length ↔ _
  rw [h2, ← hp.mem_iff, List.mem_iff_getElem]
  constructor
  · rintro ⟨j, hj, hx⟩
    refine ⟨j, hj, ?_⟩
    rw [← hx]; simp [getElem!_pos, hj]
  · rintro ⟨j, hj, hx⟩
    refine ⟨j, hj, ?_⟩
    rw [← hx]; simp [getElem!_pos, hj]
/-- The document's way: a number into a list that rises. -/
def lowTo (l : List Int) (z : Int) : Nat := (l.takeWhile fun x => decide (x < z)).length
def putI (l : List Int) (z : Int) : List Int := if l[lowTo l z]? = some z then l else l.take (lowTo l z) ++ z :: l.drop (lowTo l z)
theorem lowTo_le (l : List Int) (z : Int) : lowTo l z ≤ l.length := by
  unfold lowTo; exact (List.takeWhile_sublist _).length_le
theorem low_split : ∀ (l : List Int) (z : Int), l.Pairwise (· < ·) → (∀ x ∈ l.take (lowTo l z), x < z) ∧ (∀ x ∈ l.drop (lowTo l z), z ≤ x)
  | [], z, _ => ⟨fun x h => by simp at h, fun x h => by simp at h⟩
  | a :: l, z, h => by
    rw [List.pairwise_cons] at h
    by_cases ha : a < z
    · have e : lowTo (a :: l) z = lowTo l z + 1 := by unfold lowTo; simp [ha]
      rw [e]
      obtain ⟨h1, h2⟩ := low_split l z h.2
      refine ⟨fun x hx => ?_, fun x hx => ?_⟩
      · rw [List.take_succ_cons] at hx
        rcases List.mem_cons.1 hx with rfl | hx
        · exact ha
        · exact h1 x hx
      · rw [List.drop_succ_cons] at hx
        exact h2 x hx
    · have e : lowTo (a :: l) z = 0 := by unfold lowTo; simp [ha]
      rw [e]
      refine ⟨fun x hx => by simp at hx, fun x hx => ?_⟩
      rw [List.drop_zero] at hx
      rcases List.mem_cons.1 hx with rfl | hx
      · omega
      · have := h.1 x hx; omega
theorem putI_up {l : List Int} (z : Int) (h : l.Pairwise (· < ·)) : (putI l z).Pairwise (· < ·) ∧ ∀ x, x ∈ putI l z ↔ (x ∈ l ∨ x = z) := by
  obtain ⟨h1, h2⟩ := low_split l z h
  unfold putI
  by_cases hz : l[lowTo l z]? = some z
  · rw [if_pos hz]
    refine ⟨h, fun x => ⟨fun hx => .inl hx, ?_⟩⟩
    rintro (hx | rfl)
    · exact hx
    · exact List.mem_of_getElem? hz
  · rw [if_neg hz]
    have hsp := List.take_append_drop (lowTo l z) l
    have hpw : (l.take (lowTo l z)).Pairwise (· < ·) ∧ (l.drop (lowTo l z)).Pairwise (· < ·) := ⟨h.sublist (List.take_sublist _ _), h.sublist (List.drop_sublist _ _)⟩
    have h3 : ∀ x ∈ l.drop (lowTo l z), z < x := by
      intro x hx
      have hle := h2 x hx
      rcases Int.lt_or_eq_of_le hle with h4 | h4
      · exact h4
      · exfalso
        subst h4
        cases hd : l.drop (lowTo l z) with
        | nil => rw [hd] at hx; cases hx
        | cons a r =>
          have ha : l[lowTo l z]? = some a := by
            have := List.getElem?_drop (xs := l) (i := lowTo l z) (j := 0)
            rw [hd, Nat.add_zero] at this
            simpa using this.symm
          rw [hd] at hx
          rcases List.mem_cons.1 hx with rfl | hx'
          · exact hz ha
          · have := hpw.2
            rw [hd, List.pairwise_cons] at this
            have h5 := this.1 _ hx'
            have h6 := h2 a (by rw [hd]; exact List.mem_cons_self ..)
            omega
    constructor
    · rw [List.pairwise_append, List.pairwise_cons]
      refine ⟨hpw.1, ⟨h3, hpw.2⟩, fun a ha b hb => ?_⟩
      rcases List.mem_cons.1 hb with rfl | hb
      · exact h1 a ha
      · have := h1 a ha; have := h3 b hb; omega
    · intro x
      rw [List.mem_append, List.mem_cons]
      have : x ∈ l ↔ (x ∈ l.take (lowTo l z) ∨ x ∈ l.drop (lowTo l z)) := by
        conv => lhs; rw [← hsp]
        exact List.mem_append
      rw [this]
      constructor
      · rintro (h | rfl | h)
        · exact .inl (.inl h)
        · exact .inr rfl
        · exact .inl (.inr h)
      · rintro ((h | h) | rfl)
        · exact .inl h
        · exact .inr (.inr h)
        · exact .inr (.inl rfl)
theorem putI_len (l : List Int) (z : Int) : (putI l z).length ≤ l.length + 1 := by
  unfold putI
  have := lowTo_le l z
  split
  · omega
  · rw [List.length_append, List.length_cons, List.length_take, List.length_drop]; omega
def rputL (l : List Int) : List Int := l.foldl putI []
theorem rput_up (l : List Int) : (rputL l).Pairwise (· < ·) ∧ ∀ x, x ∈ rputL l ↔ x ∈ l := by
  have key : ∀ (l m : List Int), m.Pairwise (· < ·) → (l.foldl putI m).Pairwise (· < ·) ∧ ∀ x, x ∈ l.foldl putI m ↔ (x ∈ m ∨ x ∈ l) := by
    intro l
    induction l with
    | nil => intro m hm; exact ⟨hm, fun x => by simp⟩
    | cons z l ih =>
      intro m hm
      obtain ⟨h1, h2⟩ := putI_up z hm
      obtain ⟨h3, h4⟩ := ih (putI m z) h1
      refine ⟨h3, fun x => ?_⟩
      rw [List.foldl_cons, h4, h2, List.mem_cons]
      constructor
      · rintro ((h | h) | h)
        · exact .inl h
        · exact .inr (.inl h)
        · exact .inr (.inr h)
      · rintro (h | h | h)
        · exact .inl (.inl h)
        · exact .inl (.inr h)
        · exact .inr h
  have := key l [] List.Pairwise.nil
  exact ⟨this.1, fun x => by rw [show rputL l = l.foldl putI [] from rfl, this.2]; simp⟩
theorem rput_rise (l : List Int) : rputL l = riseL l := rise_ext _ _ (rput_up l).1 (rise_up l).1 fun x => by rw [(rput_up l).2, (rise_up l).2]
theorem rput_snoc (l : List Int) (z : Int) : rputL (l ++ [z]) = putI (rputL l) z := by unfold rputL; rw [List.foldl_append]; rfl
theorem rise_len (l : List Int) : (riseL l).length ≤ l.length := by
  have h : ∀ d : Array Int, ∀ m, (Lib.compactUpTo d m).length ≤ m := fun d m => by
    unfold Lib.compactUpTo
    rw [List.length_map]
    exact Nat.le_trans (List.length_filter_le _ _) (by simp)
  have h1 := h (sortI l).toArray (sortI l).length
  have h2 := (sortI_perm l).length_eq
  show (Lib.compactUpTo (sortI l).toArray (sortI l).length).length ≤ l.length
  omega
/-! Numbers in their order, with twins: the document's way is the sorted list. -/
theorem low_split' : ∀ (l : List Int) (z : Int), l.Pairwise (· ≤ ·) → (∀ x ∈ l.take (lowTo l z), x < z) ∧ (∀ x ∈ l.drop (lowTo l z), z ≤ x)
  | [], z, _ => ⟨fun x h => by simp at h, fun x h => by simp at h⟩
  | a :: l, z, h => by
    rw [List.pairwise_cons] at h
    by_cases ha : a < z
    · have e : lowTo (a :: l) z = lowTo l z + 1 := by unfold lowTo; simp [ha]
      rw [e]
      obtain ⟨h1, h2⟩ := low_split' l z h.2
      refine ⟨fun x hx => ?_, fun x hx => ?_⟩
      · rw [List.take_succ_cons] at hx
        rcases List.mem_cons.1 hx with rfl | hx
        · exact ha
        · exact h1 x hx
      · rw [List.drop_succ_cons] at hx
        exact h2 x hx
    · have e : lowTo (a :: l) z = 0 := by unfold lowTo; simp [ha]
      rw [e]
      refine ⟨fun x hx => by simp at hx, fun x hx => ?_⟩
      rw [List.drop_zero] at hx
      rcases List.mem_cons.1 hx with rfl | hx
      · omega
      · have := h.1 x hx; omega
def putW (l : List Int) (z : Int) : List Int := l.take (lowTo l z) ++ z :: l.drop (lowTo l z)
theorem putW_perm (l : List Int) (z : Int) : (putW l z).Perm (z :: l) := by
  unfold putW
  have h := List.perm_middle (a := z) (l₁ := l.take (lowTo l z)) (l₂ := l.drop (lowTo l z))
  rwa [List.take_append_drop] at h
theorem putW_le {l : List Int} (z : Int) (h : l.Pairwise (· ≤ ·)) : (putW l z).Pairwise (· ≤ ·) := by
  obtain ⟨h1, h2⟩ := low_split' l z h
  unfold putW
  rw [List.pairwise_append, List.pairwise_cons]
  refine ⟨h.sublist (List.take_sublist _ _), ⟨h2, h.sublist (List.drop_sublist _ _)⟩, fun a ha b hb => ?_⟩
  rcases List.mem_cons.1 hb with rfl | hb
  · have := h1 a ha; omega
  · have := h1 a ha; have := h2 b hb; omega
theorem le_ext : ∀ (l m : List Int), l.Pairwise (· ≤ ·) → m.Pairwise (· ≤ ·) → l.Perm m → l = m
  | [], m, _, _, h => h.nil_eq
  | a :: l, [], _, _, h => by have := h.length_eq; simp at this
  | a :: l, b :: m, hl, hm, h => by
    rw [List.pairwise_cons] at hl hm
    have hab : a = b := by
      have h1 := h.mem_iff.1 (List.mem_cons_self (a := a) (l := l))
      have h2 := h.mem_iff.2 (List.mem_cons_self (a := b) (l := m))
      rcases List.mem_cons.1 h1 with h1 | h1
      · exact h1
      · rcases List.mem_cons.1 h2 with h2 | h2
        · exact h2.symm
        · have := hm.1 _ h1
          have := hl.1 _ h2
          omega
    subst hab
    congr 1
    exact le_ext l m hl.2 hm.2 (List.Perm.cons_inv h)
theorem sort_snoc (l : List Int) (z : Int) : sortI (l ++ [z]) = putW (sortI l) z :=
  le_ext _ _ (sortI_le _) (putW_le z (sortI_le l)) ((sortI_perm _).trans ((List.perm_append_comm (l₁ := l) (l₂ := [z])).trans (((sortI_perm l).cons z).symm.trans (putW_perm (sortI l) z).symm)))
theorem sortI_nil : sortI [] = [] := List.eq_nil_of_length_eq_zero (sortI_perm []).length_eq
theorem sort_len (l : List Int) : (sortI l).length = l.length := (sortI_perm l).length_eq
theorem rise_nil : riseL [] = [] := List.eq_nil_of_length_eq_zero (Nat.le_zero.1 (rise_len []))
theorem rise_snoc (l : List Int) (z : Int) : riseL (l ++ [z]) = putI (riseL l) z := by rw [← rput_rise, ← rput_rise, rput_snoc]
end Go.Proofs.Ytkikfaeigoeogaa.P
