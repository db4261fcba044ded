/- What the law ElectSays wants, plain: the head of what was laid of unlike things; when it is laid again, or taken away; when another one is. -/
import Derived.Test.YtjjngablalnbeaaDoorElSeen
namespace Go.Proofs.YtjjngablalnbeaaDoor.P
open Go.RowKit Go.Sort
set_option maxHeartbeats 1000000
set_option linter.unusedVariables false

/-- All things of l, laid one after another. -/
def layTo (l : List KV) (k : Nat) : List KV := (l.take k).foldl layL []
theorem layTo_succ {l : List KV} {k : Nat} {x : KV} (h : l[k]? = some x) : layTo l (k + 1) = layL (layTo l k) x := by
  unfold layTo
  rw [take_succ l k x h, List.foldl_append]
  rfl
theorem layTo_len (l : List KV) : ∀ k, (layTo l k).length ≤ k
  | 0 => Nat.le_refl _
  | k + 1 => by
    have ih := layTo_len l k
    cases h : l[k]? with
    | none =>
      have : l.take (k + 1) = l.take k := by rw [List.take_of_length_le (by have := List.getElem?_eq_none_iff.1 h; omega), List.take_of_length_le (by have := List.getElem?_eq_none_iff.1 h; omega)]
      unfold layTo at *
      rw [this]
      omega
    | some x =>
      rw [layTo_succ h]
      have := layL_len (layTo l k) x
      omega
theorem layTo_ok {l : List KV} (hl : ∀ x ∈ l, x.ok) : ∀ k, ∀ x ∈ layTo l k, x.ok
  | 0, x, hx => by cases hx
  | k + 1, x, hx => by
    cases h : l[k]? with
    | none =>
      have e : l.take (k + 1) = l.take k := by rw [List.take_of_length_le (by have := List.getElem?_eq_none_iff.1 h; omega), List.take_of_length_le (by have := List.getElem?_eq_none_iff.1 h; omega)]
      unfold layTo at hx
      rw [e] at hx
      exact layTo_ok hl k x hx
    | some z =>
      rw [layTo_succ h] at hx
      rcases layL_mem _ _ _ hx with rfl | hx
      · exact hl _ (List.mem_of_getElem? h)
      · exact layTo_ok hl k x hx
/-- The keys, and the Creates, are unlike: of the first k, each with those ahead of it. -/
def Unl (l : List KV) (k : Nat) : Prop := ∀ i j x y, i < k → j < i → l[i]? = some x → l[j]? = some y → teq x.key y.key = false ∧ ¬ x.cre = y.cre
theorem Unl.two {l : List KV} {k i j : Nat} {x y : KV} (h : Unl l k) (hi : i < k) (hj : j < k) (hij : i ≠ j) (hx : l[i]? = some x) (hy : l[j]? = some y) : teq x.key y.key = false ∧ ¬ x.cre = y.cre := by
  rcases Nat.lt_or_gt_of_ne hij with h1 | h1
  · obtain ⟨a, b⟩ := h j i y x hj h1 hy hx
    exact ⟨by rw [teq_ne] at a ⊢; exact fun e => a e.symm, fun e => b e.symm⟩
  · exact h i j x y hi h1 hx hy
theorem Unl.mem {l : List KV} (h : Unl l l.length) {x y : KV} (hx : x ∈ l) (hy : y ∈ l) : x = y ∨ (teq x.key y.key = false ∧ ¬ x.cre = y.cre) := by
  obtain ⟨i, hi⟩ := List.getElem?_of_mem hx
  obtain ⟨j, hj⟩ := List.getElem?_of_mem hy
  by_cases e : i = j
  · subst e; rw [hi] at hj; exact .inl (Option.some.inj hj)
  · exact .inr (h.two (List.getElem?_eq_some_iff.1 hi).1 (List.getElem?_eq_some_iff.1 hj).1 e hi hj)
theorem layTo_rises (l : List KV) : ∀ k, rises (layTo l k) = true
  | 0 => rfl
  | k + 1 => by
    cases h : l[k]? with
    | none =>
      have e : l.take (k + 1) = l.take k := by rw [List.take_of_length_le (by have := List.getElem?_eq_none_iff.1 h; omega), List.take_of_length_le (by have := List.getElem?_eq_none_iff.1 h; omega)]
      unfold layTo
      rw [e]
      exact layTo_rises l k
    | some z => rw [layTo_succ h]; exact rises_lay _ _ (layTo_rises l k)
theorem layTo_find {l : List KV} (h : Unl l l.length) : ∀ k, k ≤ l.length → ∀ i x, i < k → l[i]? = some x → findL (layTo l k) x.key = some x
  | 0, _, i, x, hi, _ => by omega
  | k + 1, hk, i, x, hi, hx => by
    obtain ⟨z, hz⟩ : ∃ z, l[k]? = some z := ⟨_, List.getElem?_eq_getElem (by omega)⟩
    rw [layTo_succ hz]
    by_cases e : i = k
    · subst e
      rw [hx] at hz
      obtain rfl := Option.some.inj hz
      exact find_lay_same _ _
    · rw [find_lay_other _ _ _ (h.two (by omega) (by omega) (fun q => e q.symm) hz hx).1]
      exact layTo_find h k (by omega) i x (by omega) hx
theorem layTo_mem (l : List KV) : ∀ k z, z ∈ layTo l k → z ∈ l
  | 0, z, h => by cases h
  | k + 1, z, h => by
    cases hk : l[k]? with
    | none =>
      have e : l.take (k + 1) = l.take k := by rw [List.take_of_length_le (by have := List.getElem?_eq_none_iff.1 hk; omega), List.take_of_length_le (by have := List.getElem?_eq_none_iff.1 hk; omega)]
      unfold layTo at h
      rw [e] at h
      exact layTo_mem l k z h
    | some x =>
      rw [layTo_succ hk] at h
      rcases layL_mem _ _ _ h with rfl | h
      · exact List.mem_of_getElem? hk
      · exact layTo_mem l k z h
theorem find_in {l : List KV} {x : KV} (h : Unl l l.length) (hx : x ∈ l) : findL (layTo l l.length) x.key = some x := by
  obtain ⟨i, hi⟩ := List.getElem?_of_mem hx
  exact layTo_find h _ (Nat.le_refl _) i x (List.getElem?_eq_some_iff.1 hi).1 hi
/-- The head is the one of the least Create. -/
theorem head_is {l : List KV} {x : KV} (hx : x ∈ l) (h : ∀ y ∈ l, y ≠ x → x.cre < y.cre) : headL l = some x := by
  have h0 := headL_some l
  cases hh : headL l with
  | none =>
    rw [hh] at h0
    cases l with
    | nil => cases hx
    | cons a r => cases h0
  | some z =>
    by_cases e : z = x
    · rw [e]
    · have h1 := headL_least hh x hx
      have h2 := h z (headL_mem hh) e
      omega
theorem key_once' : ∀ (l : List KV), rises l = true → ∀ x ∈ l, findL l x.key = some x
  | [], _, x, hx => by simp at hx
  | y :: r, h, x, hx => by
    unfold findL
    rcases List.mem_cons.1 hx with rfl | hx
    · rw [if_pos (teq_self _)]
    · rw [if_neg (by rw [tlt_ne (rises_all y r h x hx)]; simp), key_once' r (rises_tail h) x hx]
/-- What the law asks of unlike things, their head, and another one. -/
structure SaysIs (l : List KV) (x said other : KV) (rev : Int) : Prop where
  laid : headL (layTo l l.length) = some x
  again : seen (layTo l l.length) [⟨rev, false, said⟩] = if kvEq said x = true then [] else [said]
  gone : ∃ z, seen (layTo l l.length) [⟨rev, true, x⟩] = [z] ∧ x.cre < z.cre
  other : seen (layTo l l.length) [⟨rev, true, other⟩] = [] ∧ headL (takeL (layTo l l.length) other.key) = some x
theorem seen_one (l : List KV) (e : Ev) : seen l [e] = newB (headL l) (headL (evL l e)) := by
  rw [seen_step l [e] (by simp)]
  have h1 : runL [e] = 1 := rfl
  rw [h1]
  show newB (headL l) (headL (viewL l [e])) ++ seen _ [] = _
  rw [seen_nil, List.append_nil]
  rfl
theorem newB_same (x : KV) : newB (some x) (some x) = [] := by
  unfold newB
  simp only
  rw [if_pos (kvEq_iff.2 rfl)]
theorem says_is {l : List KV} {x said other : KV} (rev : Int) (h : Unl l l.length) (hx : headL l = some x) (hk : said.key = x.key) (hc : said.cre = x.cre) (ho : other ∈ l) (hox : teq other.key x.key = false) : SaysIs l x said other rev := by
  have xm := headL_mem hx
  have lt : ∀ y ∈ l, y ≠ x → x.cre < y.cre := fun y hy hne => by
    have h1 := headL_least hx y hy
    rcases h.mem hy xm with e | ⟨_, e⟩
    · exact absurd e hne
    · omega
  have hxa : x ∈ layTo l l.length := (findL_mem _ _ _ (find_in h xm)).1
  have ha : headL (layTo l l.length) = some x := head_is hxa fun y hy => lt y (layTo_mem l _ y hy)
  have hr := layTo_rises l l.length
  refine ⟨ha, ?_, ?_, ?_⟩
  · rw [seen_one, ha]
    have e1 : evL (layTo l l.length) ⟨rev, false, said⟩ = layL (layTo l l.length) said := rfl
    have e2 : headL (layL (layTo l l.length) said) = some said := by
      have hs := find_lay_same (layTo l l.length) said
      refine head_is (findL_mem _ _ _ hs).1 fun y hy hne => ?_
      have hyf := key_once' _ (rises_lay _ said hr) y hy
      rcases layL_mem _ _ _ hy with e | hy'
      · exact absurd e hne
      · rw [hc]
        refine lt y (layTo_mem l _ y hy') fun e => hne ?_
        rw [e, ← hk, hs] at hyf
        rw [e]
        exact (Option.some.inj hyf).symm
    rw [e1, e2]
    rfl
  · rw [seen_one, ha]
    have e1 : evL (layTo l l.length) ⟨rev, true, x⟩ = takeL (layTo l l.length) x.key := rfl
    rw [e1]
    have hof : findL (takeL (layTo l l.length) x.key) other.key = some other := by
      rw [find_take_other _ _ _ (by rw [teq_ne] at hox ⊢; exact fun e => hox e.symm)]
      exact find_in h ho
    have hom := (findL_mem _ _ _ hof).1
    have h0 := headL_some (takeL (layTo l l.length) x.key)
    cases hh : headL (takeL (layTo l l.length) x.key) with
    | none =>
      rw [hh] at h0
      cases hq : takeL (layTo l l.length) x.key with
      | nil => rw [hq] at hom; cases hom
      | cons a r => rw [hq] at h0; cases h0
    | some z =>
      have zm := headL_mem hh
      have hne : z ≠ x := fun e => by
        have h1 := key_once' _ (rises_take _ x.key hr) z zm
        rw [e, find_take_same _ _ hr] at h1
        cases h1
      refine ⟨z, ?_, lt z (layTo_mem l _ z (takeL_mem _ _ _ zm)) hne⟩
      unfold newB
      simp only
      rw [if_neg (fun e => hne (kvEq_iff.1 e))]
  · have e2 : headL (takeL (layTo l l.length) other.key) = some x := by
      have hf : findL (takeL (layTo l l.length) other.key) x.key = some x := by
        rw [find_take_other _ _ _ hox]
        exact find_in h xm
      exact head_is (findL_mem _ _ _ hf).1 fun y hy => lt y (layTo_mem l _ y (takeL_mem _ _ _ hy))
    refine ⟨?_, e2⟩
    rw [seen_one, ha]
    have e1 : evL (layTo l l.length) ⟨rev, true, other⟩ = takeL (layTo l l.length) other.key := rfl
    rw [e1, e2]
    exact newB_same x
/-- The last thing of the first k whose key is not x's. -/
def otherTo (z0 : KV) (l : List KV) (x : KV) (k : Nat) : KV := (l.take k).foldl (fun o y => if teq y.key x.key = true then o else y) z0
theorem otherTo_succ {z0 x y : KV} {l : List KV} {k : Nat} (h : l[k]? = some y) : otherTo z0 l x (k + 1) = if teq y.key x.key = true then otherTo z0 l x k else y := by
  unfold otherTo
  rw [take_succ l k y h, List.foldl_append]
  rfl
theorem otherTo_is (z0 x : KV) (l : List KV) : ∀ k, k ≤ l.length → (∃ y ∈ l.take k, teq y.key x.key = false) → otherTo z0 l x k ∈ l ∧ teq (otherTo z0 l x k).key x.key = false
  | 0, _, ⟨y, hy, _⟩ => by cases hy
  | k + 1, hk, ⟨y, hy, hn⟩ => by
    obtain ⟨z, hz⟩ : ∃ z, l[k]? = some z := ⟨_, List.getElem?_eq_getElem (by omega)⟩
    rw [otherTo_succ hz]
    cases ht : teq z.key x.key with
    | false => exact ⟨List.mem_of_getElem? hz, ht⟩
    | true =>
      rw [if_pos rfl]
      refine otherTo_is z0 x l k (by omega) ⟨y, ?_, hn⟩
      rw [take_succ l k z hz, List.mem_append] at hy
      rcases hy with hy | hy
      · exact hy
      · obtain rfl : y = z := by simpa using hy
        rw [ht] at hn
        cases hn
theorem other_there {l : List KV} {x : KV} (h : Unl l l.length) (h2 : 2 ≤ l.length) : ∃ y ∈ l, teq y.key x.key = false := by
  obtain ⟨a, ha⟩ : ∃ z, l[0]? = some z := ⟨_, List.getElem?_eq_getElem (by omega)⟩
  obtain ⟨b, hb⟩ : ∃ z, l[1]? = some z := ⟨_, List.getElem?_eq_getElem (by omega)⟩
  have hab := (h.two (show 1 < l.length by omega) (show 0 < l.length by omega) (by omega) hb ha).1
  cases ht : teq a.key x.key with
  | false => exact ⟨a, List.mem_of_getElem? ha, ht⟩
  | true =>
    refine ⟨b, List.mem_of_getElem? hb, ?_⟩
    rw [teq_ne] at hab ⊢
    rw [teq_iff] at ht
    rw [← ht]
    exact hab
end Go.Proofs.YtjjngablalnbeaaDoor.P
