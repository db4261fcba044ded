/- Tickets, plain: the order of a part of a list; what is ahead of a ticket; who is ready stays so. -/
import Derived.Test.YtefldchhopgliaaTkPlain
namespace Go.Proofs.Ytefldchhopgliaa.P
open Go.RowKit Go.Sort
set_option linter.unusedVariables false
set_option linter.unusedSimpArgs false

theorem ordL_part (p : KV → Bool) (l : List KV) : ordL befB (l.filter p) = (ordL befB l).filter p := by
  refine one_list befB_swo _ _ (ordL_sort befB_swo _) (List.Pairwise.filter p (ordL_sort befB_swo l)) fun c => ?_
  rw [Go.Proofs.Ytefldchhopgliaa.P.ordL_filter befB_swo, List.filter_filter, List.filter_filter]
  have e : ∀ m : List KV, m.filter (fun a => eqvB befB c a && p a) = (m.filter (eqvB befB c)).filter p := fun m => by
    rw [List.filter_filter]
    exact List.filter_congr fun x _ => Bool.and_comm _ _
  rw [e l, e (ordL befB l), Go.Proofs.Ytefldchhopgliaa.P.ordL_filter befB_swo]
theorem bef_total {x z : KV} (h : befB x z = false) (k : teq z.key x.key = false) : befB z x = true := by
  unfold befB at h ⊢
  rw [Bool.or_eq_false_iff] at h
  obtain ⟨h1, h2⟩ := h
  have h1 := of_decide_eq_false h1
  by_cases e : x.cre = z.cre
  · rw [e] at h2
    simp at h2
    rw [Bool.or_eq_true]
    refine .inr ?_
    rw [e]
    simp
    exact tlt_total h2 (by rw [teq_comm]; exact k)
  · rw [Bool.or_eq_true]
    exact .inl (decide_eq_true (by omega))
theorem take_filter (o : List KV) (x : KV) (hs : SortL befB o) (hx : x ∈ o) (hu : ∀ y ∈ o, teq y.key x.key = true → y = x) : o.take (idxL x.key o).toNat = o.filter fun y => befB y x := by
  rcases idxL_is x.key o with ⟨e, h⟩ | ⟨p, y, e, hy, ht, h⟩
  · have := h x hx
    rw [teq_self] at this
    cases this
  · obtain rfl := hu y (List.mem_of_getElem? hy) ht
    rw [e]
    rw [show ((p : Int)).toNat = p by omega]
    have hsp := split_at o p y hy
    have hs2 := hs
    unfold SortL at hs2
    rw [hsp, List.pairwise_append] at hs2
    obtain ⟨_, hs3, hs4⟩ := hs2
    rw [List.pairwise_cons] at hs3
    conv => rhs; rw [hsp]
    rw [List.filter_append]
    have e1 : (o.take p).filter (fun z => befB z y) = o.take p := by
      rw [List.filter_eq_self]
      intro z hz
      exact bef_total (hs4 z hz y (List.mem_cons_self ..)) (h z hz)
    have e2 : (y :: o.drop (p + 1)).filter (fun z => befB z y) = [] := by
      rw [List.filter_eq_nil_iff]
      intro z hz
      rcases List.mem_cons.1 hz with rfl | hz
      · rw [befB_swo.irrefl]; simp
      · rw [hs3.1 z hz]; simp
    rw [e1, e2, List.append_nil]
theorem any_perm {a b : List KV} (h : a.Perm b) (p : KV → Bool) : a.any p = b.any p := by
  rw [Bool.eq_iff_iff, List.any_eq_true, List.any_eq_true]
  exact ⟨fun ⟨x, hx, hp⟩ => ⟨x, h.mem_iff.1 hx, hp⟩, fun ⟨x, hx, hp⟩ => ⟨x, h.mem_iff.2 hx, hp⟩⟩
theorem ready_is (kind n : Int) (l : List KV) (x : KV) (hx : x ∈ l) (hu : ∀ y ∈ l, teq y.key x.key = true → y = x) :
    readyB kind n l x.key = letsB kind n ((l.filter fun y => befB y x).length : Int) ((l.filter fun y => befB y x).any writesB) := by
  have hf : (findL l x.key).isSome = true := by
    rw [find_any_iff]
    exact List.any_eq_true.2 ⟨x, hx, teq_self _⟩
  unfold readyB aheadL
  rw [hf, Bool.true_and, take_filter _ x (ordL_sort befB_swo l) ((ord_mem_iff x l).2 hx) fun y hy => hu y ((ord_mem_iff y l).1 hy)]
  have hp : ((ordL befB l).filter fun y => befB y x).Perm (l.filter fun y => befB y x) := (ordL_perm l).filter _
  rw [hp.length_eq, any_perm hp]
theorem lets_mono (kind n : Int) (a b : Nat) (c d : Bool) (hab : b ≤ a) (hcd : d = true → c = true) (h : letsB kind n (a : Int) c = true) : letsB kind n (b : Int) d = true := by
  unfold letsB at h ⊢
  split
  · rename_i hk
    rw [if_pos hk] at h
    have := of_decide_eq_true h
    exact decide_eq_true (by omega)
  · rename_i hk
    rw [if_neg hk] at h
    split
    · rename_i h2
      rw [if_pos h2] at h
      cases d with
      | false => rfl
      | true => rw [hcd rfl] at h; cases h
    · rename_i h2
      rw [if_neg h2] at h
      split
      · rename_i h4
        rw [if_pos h4] at h
        have := of_decide_eq_true h
        exact decide_eq_true (by omega)
      · rename_i h4
        rw [if_neg h4] at h
        cases h
theorem un_same {l : List KV} (h : unB l = true) {x y : KV} (hx : x ∈ l) (hy : y ∈ l) (ht : teq y.key x.key = true) : y = x := by
  rw [unB_pair, List.pairwise_iff_getElem] at h
  obtain ⟨i, hi, ei⟩ := List.mem_iff_getElem.1 hx
  obtain ⟨j, hj, ej⟩ := List.mem_iff_getElem.1 hy
  rcases Nat.lt_trichotomy i j with hlt | rfl | hlt
  · have := h i j hi hj hlt
    rw [ei, ej, teq_comm, ht] at this
    cases this
  · rw [← ei, ← ej]
  · have := h j i hj hi hlt
    rw [ei, ej, ht] at this
    cases this
/-- Those of the first j things that f takes, by place and thing. -/
def pick (f : Nat → KV → Bool) (l : List KV) : Nat → List KV
  | 0 => []
  | j + 1 => pick f l j ++ (match l[j]? with | some x => if f j x = true then [x] else [] | none => [])
theorem pick_yes (f : Nat → KV → Bool) (l : List KV) (j : Nat) (x : KV) (hx : l[j]? = some x) (hf : f j x = true) : pick f l (j + 1) = pick f l j ++ [x] := by
  show pick f l j ++ (match l[j]? with | some x => if f j x = true then [x] else [] | none => []) = _
  rw [hx]; simp only [if_pos hf]
theorem pick_no (f : Nat → KV → Bool) (l : List KV) (j : Nat) (x : KV) (hx : l[j]? = some x) (hf : f j x = false) : pick f l (j + 1) = pick f l j := by
  show pick f l j ++ (match l[j]? with | some x => if f j x = true then [x] else [] | none => []) = _
  rw [hx]; simp only [hf]; simp
theorem pick_sub (f : Nat → KV → Bool) (l : List KV) : ∀ j, (pick f l j).Sublist (l.take j)
  | 0 => by simp [pick]
  | j + 1 => by
    cases hx : l[j]? with
    | none =>
      have : pick f l (j + 1) = pick f l j := by
        show pick f l j ++ (match l[j]? with | some x => if f j x = true then [x] else [] | none => []) = _
        rw [hx]; simp
      rw [this]
      have hl : l.length ≤ j := List.getElem?_eq_none_iff.1 hx
      rw [List.take_of_length_le (by omega)]
      have ih := pick_sub f l j
      rwa [List.take_of_length_le (by omega)] at ih
    | some x =>
      rw [take_succ l j x hx]
      cases hf : f j x with
      | true => rw [pick_yes f l j x hx hf]; exact (pick_sub f l j).append (List.Sublist.refl _)
      | false => rw [pick_no f l j x hx hf]; exact (pick_sub f l j).trans (List.sublist_append_left _ _)
theorem pick_len (f : Nat → KV → Bool) (l : List KV) (j : Nat) : (pick f l j).length ≤ j := by
  have := (pick_sub f l j).length_le
  rw [List.length_take] at this
  omega
theorem pick_mem (f : Nat → KV → Bool) (l : List KV) (i : Nat) (x : KV) (hx : l[i]? = some x) (hf : f i x = true) : ∀ j, i < j → x ∈ pick f l j
  | 0, h => by omega
  | j + 1, h => by
    by_cases e : i = j
    · subst e
      rw [pick_yes f l i x hx hf]
      simp
    · have := pick_mem f l i x hx hf j (by omega)
      unfold pick
      exact List.mem_append_left _ this
theorem pick_all (f : Nat → KV → Bool) (l : List KV) : ∀ (j : Nat) (x : KV), x ∈ pick f l j → ∃ i, f i x = true ∧ l[i]? = some x
  | 0, x, h => by simp [pick] at h
  | j + 1, x, h => by
    unfold pick at h
    rcases List.mem_append.1 h with h | h
    · exact pick_all f l j x h
    · cases hx : l[j]? with
      | none => rw [hx] at h; simp at h
      | some y =>
        rw [hx] at h
        by_cases hf : f j y = true
        · simp only [if_pos hf] at h
          simp at h
          subst h
          exact ⟨j, hf, hx⟩
        · simp only [if_neg hf] at h
          simp at h
/-- Who is ready stays so. -/
theorem stays (kind n : Int) (l more : List KV) (hun : unB l = true) (i gone : Nat) (x : KV) (hx : l[i]? = some x) (most : Int) (hmost : ∀ y ∈ l, y.cre ≤ most) (f g : Nat → KV → Bool)
    (hf : f i x = true) (hg : ∀ k y, g k y = true → most < y.cre ∧ teq y.key x.key = false) (h : readyB kind n l x.key = true) (j m : Nat) (hj : i < j) : readyB kind n (pick f l j ++ pick g more m) x.key = true := by
  have hxl : x ∈ l := List.mem_of_getElem? hx
  rw [ready_is kind n l x hxl fun y hy => un_same hun hxl hy] at h
  have hxm : x ∈ pick f l j ++ pick g more m := List.mem_append_left _ (pick_mem f l i x hx hf j hj)
  rw [ready_is kind n _ x hxm fun y hy ht => by
    rcases List.mem_append.1 hy with hy | hy
    · exact un_same hun hxl (List.mem_of_mem_take ((pick_sub f l j).subset hy)) ht
    · obtain ⟨k, hk, _⟩ := pick_all g more m y hy
      rw [(hg k y hk).2] at ht
      cases ht]
  have e : (pick g more m).filter (fun y => befB y x) = [] := by
    rw [List.filter_eq_nil_iff]
    intro y hy
    obtain ⟨k, hk, _⟩ := pick_all g more m y hy
    have h1 := (hg k y hk).1
    have h2 := hmost x hxl
    unfold befB
    have h3 : ¬ y.cre < x.cre := by omega
    have h4 : ¬ y.cre = x.cre := by omega
    simp [h3, h4]
  rw [List.filter_append, e, List.append_nil]
  have hsub : ((pick f l j).filter fun y => befB y x).Sublist (l.filter fun y => befB y x) := ((pick_sub f l j).trans (List.take_sublist j l)).filter _
  refine lets_mono kind n _ _ _ _ hsub.length_le (fun hd => ?_) h
  obtain ⟨y, hy, hp⟩ := List.any_eq_true.1 hd
  exact List.any_eq_true.2 ⟨y, hsub.subset hy, hp⟩
/-- The list without its first one of the order. -/
theorem next_tail (l : List KV) (hun : unB l = true) (x : KV) (r : List KV) (ho : ordL befB l = x :: r) : ordL befB (l.filter fun y => !teq y.key x.key) = r := by
  rw [ordL_part, ho]
  have hu := unB_ord hun
  rw [ho, unB_pair, List.pairwise_cons] at hu
  rw [List.filter_cons]
  rw [teq_self]
  simp only [Bool.not_true, if_neg (by simp : ¬ (false = true))]
  rw [List.filter_eq_self]
  intro y hy
  rw [teq_comm, hu.1 y hy]
  rfl
/-- No reader holds beside a writer. -/
theorem no_both (l : List KV) (hun : unB l = true) (x y : KV) (hx : x ∈ l) (hy : y ∈ l) (vx : teq x.val ⟨#[114]⟩ = true) (vy : teq y.val ⟨#[119]⟩ = true) (rx : readyB 2 0 l x.key = true) (ry : readyB 3 0 l y.key = true) : False := by
  rw [ready_is 2 0 l x hx fun z hz => un_same hun hx hz] at rx
  rw [ready_is 3 0 l y hy fun z hz => un_same hun hy hz] at ry
  have hne : x ≠ y := by
    rintro rfl
    rw [teq_iff.1 vx] at vy
    have := teq_iff.1 vy
    revert this
    decide
  have hk : teq y.key x.key = false := by
    cases h : teq y.key x.key with
    | false => rfl
    | true => exact absurd (un_same hun hx hy h).symm hne
  unfold letsB at rx ry
  simp at ry
  have h0 : befB x y = false := by simpa using ry x hx
  have h1 := bef_total h0 hk
  simp at rx
  have h2 := rx y hy h1
  unfold writesB at h2
  rw [vy] at h2
  cases h2
/-- The first one of the order has the least Create. -/
theorem first_least (l : List KV) (x : KV) (r : List KV) (ho : ordL befB l = x :: r) (y : KV) (hy : y ∈ l) : x.cre ≤ y.cre := by
  have hs := ordL_sort befB_swo l
  unfold SortL at hs
  rw [ho, List.pairwise_cons] at hs
  have hm := (ord_mem_iff y l).2 hy
  rw [ho] at hm
  rcases List.mem_cons.1 hm with rfl | hm
  · exact Int.le_refl _
  · have := hs.1 y hm
    unfold befB at this
    rw [Bool.or_eq_false_iff] at this
    have := of_decide_eq_false this.1
    omega
/-- Neighbours of the order stand as they should. -/
theorem ord_near (l : List KV) (i : Nat) (x y : KV) (hx : (ordL befB l)[i]? = some x) (hy : (ordL befB l)[i + 1]? = some y) : ¬ y.cre < x.cre ∧ (x.cre = y.cre → tlt y.key x.key = false) := by
  have hs := ordL_sort befB_swo l
  unfold SortL at hs
  rw [List.pairwise_iff_getElem] at hs
  obtain ⟨h1, e1⟩ := List.getElem?_eq_some_iff.1 hx
  obtain ⟨h2, e2⟩ := List.getElem?_eq_some_iff.1 hy
  have := hs i (i + 1) h1 h2 (by omega)
  rw [e1, e2] at this
  unfold befB at this
  rw [Bool.or_eq_false_iff] at this
  refine ⟨of_decide_eq_false this.1, fun e => ?_⟩
  have h3 := this.2
  rw [e] at h3
  simpa using h3
/-- How often a thing is among the first j. -/
def cntL (p : KV → Bool) (l : List KV) (j : Nat) : Int := ((l.take j).filter p).length
theorem cntL_next (p : KV → Bool) (l : List KV) (j : Nat) (x : KV) (hx : l[j]? = some x) : cntL p l (j + 1) = cntL p l j + (if p x = true then 1 else 0) := by
  unfold cntL
  rw [take_succ l j x hx, List.filter_append, List.length_append]
  cases h : p x <;> simp [h]
theorem cntL_same (p : KV → Bool) (l : List KV) (n : Nat) (h : l.length = n) : cntL p l n = cntL p (ordL befB l) n := by
  unfold cntL
  rw [List.take_of_length_le (by omega), List.take_of_length_le (by rw [ordL_len]; omega), ((ordL_perm l).filter p).length_eq]
theorem cntL_range (p : KV → Bool) (l : List KV) (j : Nat) : 0 ≤ cntL p l j ∧ cntL p l j ≤ j := by
  unfold cntL
  have h1 := List.length_filter_le p (l.take j)
  rw [List.length_take] at h1
  omega
end Go.Proofs.Ytefldchhopgliaa.P
