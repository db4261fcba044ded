/- Layer 20, plain: writes and what comes of them; numbers that rise, each once; no program in sight. -/
import Derived.Test.YtimbklggifbibaaGreatDoorKvPure
import Derived.Lib.SlicesCompact
namespace Go.Proofs.YtimbklggifbibaaGreatDoor.P
open Go
set_option linter.unusedVariables false
set_option linter.unusedSimpArgs false

structure Ac where
  who : Int
  tok : Int
  val : ByteArray
instance : Inhabited Ac := ⟨⟨0, 0, ⟨#[]⟩⟩⟩
theorem ac_ext {a b : Ac} (h0 : a.who = b.who) (h1 : a.tok = b.tok) (h2 : a.val = b.val) : a = b := by cases a; cases b; simp_all
def acEq (a b : Ac) : Bool := decide (a.who = b.who) && (decide (a.tok = b.tok) && decide (a.val.toList = b.val.toList))
theorem acEq_iff {a b : Ac} : acEq a b = true ↔ a = b := by
  unfold acEq
  simp only [Bool.and_eq_true, decide_eq_true_eq]
  constructor
  · rintro ⟨h0, h1, h2⟩; exact ac_ext h0 h1 (bytes_ext h2)
  · rintro rfl; exact ⟨rfl, rfl, rfl⟩
instance : DecidableEq Ac := fun a b => if h : acEq a b = true then isTrue (acEq_iff.1 h) else isFalse (fun e => h (acEq_iff.2 e))
theorem acEq_self (a : Ac) : acEq a a = true := acEq_iff.2 rfl
structure Rs where
  high : Int
  val : ByteArray
  log : List Ac
abbrev zeroRs : Rs := ⟨0, ⟨#[]⟩, []⟩
def sameR (a b : Rs) : Bool := decide (a.high = b.high ∧ a.val = b.val ∧ a.log = b.log)
theorem sameR_iff {a b : Rs} : sameR a b = true ↔ a = b := by
  unfold sameR
  rw [decide_eq_true_iff]
  constructor
  · rintro ⟨h0, h1, h2⟩; cases a; cases b; simp_all
  · rintro rfl; exact ⟨rfl, rfl, rfl⟩
theorem sameR_self (a : Rs) : sameR a a = true := sameR_iff.2 rfl
def oneB (x : Ac) : Bool := decide (1 ≤ x.tok ∧ x.tok ≤ 1099511627775 ∧ 0 ≤ x.who ∧ x.who ≤ 1099511627775 ∧ x.val.size ≤ 20)
theorem oneB_iff {x : Ac} : oneB x = true ↔ (1 ≤ x.tok ∧ x.tok ≤ 1099511627775 ∧ 0 ≤ x.who ∧ x.who ≤ 1099511627775 ∧ x.val.size ≤ 20) := decide_eq_true_iff
/-- The number of what is wrong with a write; what comes of it. -/
def wrE (r : Rs) (x : Ac) : Int := if oneB x = true then (if x.tok < r.high then 10 else if 40 ≤ r.log.length then 4 else 0) else 1
def wrR (r : Rs) (x : Ac) : Rs := if wrE r x = 0 then ⟨x.tok, x.val, r.log ++ [x]⟩ else r
theorem wr_ok {r : Rs} {x : Ac} (h : wrE r x = 0) : wrR r x = ⟨x.tok, x.val, r.log ++ [x]⟩ := if_pos h
theorem wr_err {r : Rs} {x : Ac} (h : wrE r x ≠ 0) : wrR r x = r := if_neg h
theorem wrE_zero {r : Rs} {x : Ac} : wrE r x = 0 ↔ (oneB x = true ∧ ¬ x.tok < r.high ∧ r.log.length < 40) := by
  unfold wrE
  by_cases h : oneB x = true
  · rw [if_pos h]
    by_cases h1 : x.tok < r.high
    · rw [if_pos h1]; simp [h1]
    · rw [if_neg h1]
      by_cases h2 : 40 ≤ r.log.length
      · rw [if_pos h2]; simp; omega
      · rw [if_neg h2]; simp [h]; omega
  · rw [if_neg h]; simp [h]
theorem wrE_one {r : Rs} {x : Ac} (h : oneB x = false) : wrE r x = 1 := by unfold wrE; rw [h]; rfl
theorem wrE_stale {r : Rs} {x : Ac} (h : oneB x = true) (h1 : x.tok < r.high) : wrE r x = 10 := by unfold wrE; rw [if_pos h, if_pos h1]
theorem wrE_full {r : Rs} {x : Ac} (h : oneB x = true) (h1 : ¬ x.tok < r.high) (h2 : 40 ≤ r.log.length) : wrE r x = 4 := by unfold wrE; rw [if_pos h, if_neg h1, if_pos h2]
/-- What comes of writes, if each is taken. -/
def goR (r : Rs) : List Ac → Option Rs
  | [] => some r
  | x :: l => if wrE r x = 0 then goR (wrR r x) l else none
def mayR (r : Rs) : Bool := match goR zeroRs r.log with
  | none => false
  | some a => decide (r.high = a.high) && decide (r.val = a.val)
theorem goR_snoc : ∀ (l : List Ac) (r : Rs) (x : Ac), goR r (l ++ [x]) = (goR r l).bind fun s => if wrE s x = 0 then some (wrR s x) else none
  | [], r, x => rfl
  | y :: l, r, x => by
    show (if wrE r y = 0 then goR (wrR r y) (l ++ [x]) else none) = (if wrE r y = 0 then goR (wrR r y) l else none).bind _
    split
    · exact goR_snoc l _ x
    · rfl
theorem goR_none {l m : List Ac} {r : Rs} (h : goR r l = none) : goR r (l ++ m) = none := by
  induction m generalizing l with
  | nil => rwa [List.append_nil]
  | cons x m ih =>
    rw [show l ++ x :: m = (l ++ [x]) ++ m by simp]
    exact ih (by rw [goR_snoc, h]; rfl)
theorem goR_log : ∀ (l : List Ac) (r s : Rs), goR r l = some s → s.log = r.log ++ l
  | [], r, s, h => by
    have : r = s := Option.some.inj h
    subst this; simp
  | x :: l, r, s, h => by
    unfold goR at h
    split at h
    · rename_i h0
      rw [goR_log l _ s h, wr_ok h0]; simp
    · cases h
/-- The program's way through a log: the first k writes have been taken, what came of them is s. -/
structure GoTo (l : List Ac) (k : Nat) (s : Rs) : Prop where
  eq : goR zeroRs (l.take k) = some s
theorem GoTo.zero (l : List Ac) : GoTo l 0 zeroRs := ⟨rfl⟩
theorem take_snoc' {α : Type} (l : List α) (k : Nat) (x : α) (h : l[k]? = some x) : l.take (k + 1) = l.take k ++ [x] := by
  rw [List.take_add_one, h]; rfl
theorem GoTo.more {l : List Ac} {k : Nat} {s : Rs} {x : Ac} (h : GoTo l k s) (hx : l[k]? = some x) (he : wrE s x = 0) : GoTo l (k + 1) (wrR s x) := ⟨by
  rw [take_snoc' l k x hx, goR_snoc, h.eq]; simp [he]⟩
theorem GoTo.bad {l : List Ac} {k : Nat} {s r : Rs} {x : Ac} (h : GoTo l k s) (hx : l[k]? = some x) (he : wrE s x ≠ 0) (hr : r.log = l) : mayR r = false := by
  have h1 : goR zeroRs (l.take (k + 1)) = none := by rw [take_snoc' l k x hx, goR_snoc, h.eq]; simp [he]
  have h2 : goR zeroRs l = none := by
    have := goR_none (m := l.drop (k + 1)) h1
    rwa [List.take_append_drop] at this
  unfold mayR
  rw [hr, h2]
theorem GoTo.done {l : List Ac} {s r : Rs} (h : GoTo l l.length s) (hr : r.log = l) : mayR r = (decide (r.high = s.high) && decide (r.val = s.val)) := by
  have h1 := h.eq
  rw [List.take_length] at h1
  unfold mayR
  rw [hr, h1]
theorem GoTo.log {l : List Ac} {k : Nat} {s : Rs} (h : GoTo l k s) : s.log = l.take k := by
  have := goR_log _ _ _ h.eq
  simpa using this
theorem GoTo.len {l : List Ac} {k : Nat} {s : Rs} (h : GoTo l k s) : s.log.length ≤ k := by
  rw [h.log, List.length_take]; omega
/-- The document's way: each of the first k may be, and none falls. -/
structure UpTo (l : List Ac) (k : Nat) : Prop where
  one : ∀ i x, i < k → l[i]? = some x → oneB x = true
  up : ∀ i x y, i + 1 < k → l[i]? = some x → l[i + 1]? = some y → x.tok ≤ y.tok
theorem UpTo.zero (l : List Ac) : UpTo l 0 := ⟨fun i x h => by omega, fun i x y h => by omega⟩
theorem goR_up (l : List Ac) (hl : l.length ≤ 40) : ∀ k, k ≤ l.length → UpTo l k → ∃ s, GoTo l k s ∧ (k = 0 → s = zeroRs) ∧ (∀ i x, k = i + 1 → l[i]? = some x → s.high = x.tok ∧ s.val = x.val)
  | 0, _, _ => ⟨zeroRs, GoTo.zero l, fun _ => rfl, fun i x h => by omega⟩
  | k + 1, hk, hu => by
    obtain ⟨s, hs, h0, h1⟩ := goR_up l hl k (by omega) ⟨fun i x h => hu.one i x (by omega), fun i x y h => hu.up i x y (by omega)⟩
    have hx : l[k]? = some l[k] := List.getElem?_eq_getElem (by omega)
    have hhi : ¬ l[k].tok < s.high := by
      cases k with
      | zero =>
        rw [h0 rfl]
        have := oneB_iff.1 (hu.one 0 _ (by omega) hx)
        show ¬ l[0].tok < 0
        omega
      | succ j =>
        have hy : l[j]? = some l[j] := List.getElem?_eq_getElem (by omega)
        rw [(h1 j _ rfl hy).1]
        have := hu.up j _ _ (by omega) hy hx
        omega
    have he : wrE s l[k] = 0 := wrE_zero.2 ⟨hu.one k _ (by omega) hx, hhi, by have := hs.len; omega⟩
    refine ⟨wrR s l[k], hs.more hx he, fun h => by omega, fun i x h hi => ?_⟩
    obtain rfl : k = i := by omega
    rw [hx] at hi
    have := Option.some.inj hi
    subst this
    rw [wr_ok he]
    exact ⟨rfl, rfl⟩
theorem goR_high : ∀ (l : List Ac) (k : Nat) (s : Rs), k ≤ l.length → GoTo l k s → (s.high = 0 ∧ k = 0) ∨ ∃ i x, k = i + 1 ∧ l[i]? = some x ∧ s.high = x.tok ∧ s.val = x.val ∧ oneB x = true ∧ i < 40 ∧ (∀ j y, i = j + 1 → l[j]? = some y → y.tok ≤ x.tok)
  | l, 0, s, _, h => .inl ⟨by have := h.eq; rw [List.take_zero] at this; have := Option.some.inj this; rw [← this], rfl⟩
  | l, k + 1, s, hk, h => by
    have hx : l[k]? = some l[k] := List.getElem?_eq_getElem (by omega)
    have h1 := h.eq
    rw [take_snoc' l k _ hx, goR_snoc] at h1
    cases hg : goR zeroRs (l.take k) with
    | none => rw [hg] at h1; cases h1
    | some t =>
      rw [hg] at h1
      have ht : GoTo l k t := ⟨hg⟩
      by_cases he : wrE t l[k] = 0
      · simp only [Option.bind_some, if_pos he] at h1
        have := Option.some.inj h1
        subst this
        have hz := wrE_zero.1 he
        have hlen : t.log.length = k := by rw [ht.log, List.length_take]; omega
        refine .inr ⟨k, l[k], rfl, hx, ?_, ?_, hz.1, by omega, fun j y hj hy => ?_⟩
        · rw [wr_ok he]
        · rw [wr_ok he]
        · rcases goR_high l k t (by omega) ht with ⟨_, h2⟩ | ⟨i, z, h2, h3, h4, _⟩
          · omega
          · obtain rfl : i = j := by omega
            rw [h3] at hy
            have := Option.some.inj hy
            subst this
            have := hz.2.1
            omega
      · simp only [Option.bind_some, if_neg he] at h1; cases h1
theorem mayR_long {r : Rs} (h : 40 < r.log.length) : mayR r = false := by
  unfold mayR
  cases hg : goR zeroRs r.log with
  | none => rfl
  | some s =>
    have hs : GoTo r.log r.log.length s := ⟨by rw [List.take_length]; exact hg⟩
    rcases goR_high _ _ _ (Nat.le_refl _) hs with ⟨_, h2⟩ | ⟨i, x, h2, _, _, _, _, h3, _⟩
    · omega
    · omega
theorem mayR_empty {r : Rs} (h : r.log = []) : mayR r = (decide (r.high = 0) && decide (r.val = ⟨#[]⟩)) := by
  unfold mayR; rw [h]; rfl
theorem mayR_bad1 {r : Rs} {i : Nat} {x : Ac} (hx : r.log[i]? = some x) (h : oneB x = false) : mayR r = false := by
  unfold mayR
  cases hg : goR zeroRs r.log with
  | none => rfl
  | some s =>
    exfalso
    have hi : i < r.log.length := (List.getElem?_eq_some_iff.1 hx).1
    have hk : ∃ t, goR zeroRs (r.log.take (i + 1)) = some t := by
      cases hg2 : goR zeroRs (r.log.take (i + 1)) with
      | none =>
        have := goR_none (m := r.log.drop (i + 1)) hg2
        rw [List.take_append_drop, hg] at this; cases this
      | some t => exact ⟨t, rfl⟩
    obtain ⟨t, ht⟩ := hk
    rcases goR_high r.log (i + 1) t (by omega) ⟨ht⟩ with ⟨_, h2⟩ | ⟨j, y, h2, h3, _, _, h4, _⟩
    · omega
    · obtain rfl : i = j := by omega
      rw [hx] at h3
      have := Option.some.inj h3
      subst this
      rw [h] at h4; cases h4
theorem mayR_bad2 {r : Rs} {i : Nat} {x y : Ac} (hx : r.log[i]? = some x) (hy : r.log[i + 1]? = some y) (h : y.tok < x.tok) : mayR r = false := by
  unfold mayR
  cases hg : goR zeroRs r.log with
  | none => rfl
  | some s =>
    exfalso
    have hi : i + 1 < r.log.length := (List.getElem?_eq_some_iff.1 hy).1
    have hk : ∃ t, goR zeroRs (r.log.take (i + 2)) = some t := by
      cases hg2 : goR zeroRs (r.log.take (i + 2)) with
      | none =>
        have := goR_none (m := r.log.drop (i + 2)) hg2
        rw [List.take_append_drop, hg] at this; cases this
      | some t => exact ⟨t, rfl⟩
    obtain ⟨t, ht⟩ := hk
    rcases goR_high r.log (i + 2) t (by omega) ⟨ht⟩ with ⟨_, h2⟩ | ⟨j, z, h2, h3, _, _, _, _, h4⟩
    · omega
    · obtain rfl : i + 1 = j := by omega
      rw [hy] at h3
      have := Option.some.inj h3
      subst this
      have := h4 i x rfl hx
      omega
theorem mayR_last {r : Rs} {i : Nat} {x : Ac} (hl : r.log.length = i + 1) (h40 : r.log.length ≤ 40) (hu : UpTo r.log r.log.length) (hx : r.log[i]? = some x) : mayR r = (decide (r.high = x.tok) && decide (r.val = x.val)) := by
  obtain ⟨s, hs, _, h1⟩ := goR_up r.log h40 _ (Nat.le_refl _) hu
  rw [hs.done rfl, (h1 i x hl hx).1, (h1 i x hl hx).2]
theorem mayR_up {r : Rs} (h : mayR r = true) : UpTo r.log r.log.length ∧ r.log.length ≤ 40 ∧ (r.log = [] → r.high = 0) ∧ ∀ i x, r.log.length = i + 1 → r.log[i]? = some x → r.high = x.tok ∧ r.val = x.val := by
  have h40 : r.log.length ≤ 40 := by
    rcases Nat.lt_or_ge 40 r.log.length with h1 | h1
    · rw [mayR_long h1] at h; cases h
    · exact h1
  have hu : UpTo r.log r.log.length := by
    constructor
    · intro i x hi hx
      cases h1 : oneB x with
      | true => rfl
      | false => rw [mayR_bad1 hx h1] at h; cases h
    · intro i x y hi hx hy
      rcases Int.lt_or_le y.tok x.tok with h1 | h1
      · rw [mayR_bad2 hx hy h1] at h; cases h
      · exact h1
  refine ⟨hu, h40, fun h1 => ?_, fun i x hi hx => ?_⟩
  · rw [mayR_empty h1, Bool.and_eq_true, decide_eq_true_iff] at h; exact h.1
  · rw [mayR_last hi h40 hu hx, Bool.and_eq_true, decide_eq_true_iff, decide_eq_true_iff] at h; exact h
/-! Numbers that rise, each once. -/
theorem rise_ext : ∀ (l m : List Int), l.Pairwise (· < ·) → m.Pairwise (· < ·) → (∀ x, x ∈ l ↔ x ∈ m) → l = m
  | [], [], _, _, _ => rfl
  | [], b :: m, _, _, h => by have := (h b).2 (List.mem_cons_self ..); cases this
  | a :: l, [], _, _, h => by have := (h a).1 (List.mem_cons_self ..); cases this
  | a :: l, b :: m, hl, hm, h => by
    rw [List.pairwise_cons] at hl hm
    have hab : a = b := by
      have h1 := (h a).1 (List.mem_cons_self ..)
      have h2 := (h b).2 (List.mem_cons_self ..)
      rcases List.mem_cons.1 h1 with h1 | h1
      · exact h1
      · rcases List.mem_cons.1 h2 with h2 | h2
        · exact h2.symm
        · have := hm.1 _ h1
          have := hl.1 _ h2
          omega
    subst hab
    congr 1
    refine rise_ext l m hl.2 hm.2 fun x => ?_
    constructor
    · intro hx
      rcases List.mem_cons.1 ((h x).1 (List.mem_cons_of_mem _ hx)) with h1 | h1
      · have := hl.1 x hx; omega
      · exact h1
    · intro hx
      rcases List.mem_cons.1 ((h x).2 (List.mem_cons_of_mem _ hx)) with h1 | h1
      · have := hm.1 x hx; omega
      · exact h1
def sortI (l : List Int) : List Int := l.mergeSort fun x y => decide (x ≤ y)
def riseL (l : List Int) : List Int := Lib.compact (sortI l)
theorem sortI_perm (l : List Int) : (sortI l).Perm l := List.mergeSort_perm l _
theorem sortI_le (l : List Int) : (sortI l).Pairwise (· ≤ ·) := by
  have := List.pairwise_mergeSort (le := fun x y : Int => decide (x ≤ y)) (fun a b c h1 h2 => by simp at *; omega) (fun a b => by simp; omega) l
  exact this.imp (by simp)
theorem comp_up (d : Array Int) (hd : ∀ i j, i ≤ j → j < d.size → d[i]! ≤ d[j]!) : ∀ m, m ≤ d.size → (Lib.compactUpTo d m).Pairwise (· < ·) ∧ (∀ x, x ∈ Lib.compactUpTo d m ↔ ∃ j, j < m ∧ d[j]! = x)
  | 0, _ => ⟨List.Pairwise.nil, fun x => Iff.intro (fun h => by simp [Lib.compactUpTo] at h) (fun ⟨j, h, _⟩ => absurd h (Nat.not_lt_zero j))⟩
  | m + 1, hm => by
    obtain ⟨h1, h2⟩ := comp_up d hd m (by omega)
    rw [Lib.compactUpTo_succ]
    cases hk : Lib.keeps d m with
    | true =>
      rw [if_pos rfl]
      unfold Lib.keeps at hk
      rw [decide_eq_true_iff] at hk
      constructor
      · rw [List.pairwise_append]
        refine ⟨h1, List.pairwise_singleton _ _, fun a ha b hb => ?_⟩
        rw [List.mem_singleton] at hb
        subst hb
        obtain ⟨j, hj, rfl⟩ := (h2 a).1 ha
        have hp := hd j (m - 1) (by omega) (by omega)
        have hq := hd (m - 1) m (by omega) (by omega)
        rcases hk with hk | hk
        · omega
        · omega
      · intro x
        rw [List.mem_append, h2, List.mem_singleton]
        constructor
        · rintro (⟨j, hj, hx⟩ | hx)
          · exact ⟨j, by omega, hx⟩
          · exact ⟨m, by omega, hx.symm⟩
        · rintro ⟨j, hj, hx⟩
          by_cases hjm : j = m
          · subst hjm; exact .inr hx.symm
          · exact .inl ⟨j, by omega, hx⟩
    | false =>
      rw [if_neg (by simp)]
      rw [List.append_nil]
      unfold Lib.keeps at hk
      rw [decide_eq_false_iff_not] at hk
      refine ⟨h1, fun x => ?_⟩
      rw [h2]
      constructor
      · rintro ⟨j, hj, hx⟩; exact ⟨j, by omega, hx⟩
      · rintro ⟨j, hj, hx⟩
        by_cases hjm : j = m
        · subst hjm
          have hj0 : ¬ j = 0 := fun h => hk (.inl h)
          refine ⟨j - 1, by omega, ?_⟩
          rw [← hx]
          exact (Classical.byContradiction fun h => hk (.inr h)).symm
        · exact ⟨j, by omega, hx⟩
theorem rise_up (l : List Int) : (riseL l).Pairwise (· < ·) ∧ ∀ x, x ∈ riseL l ↔ x ∈ l := by
  have hs := sortI_le l
  have hp := sortI_perm l
  have hd : ∀ i j, i ≤ j → j < (sortI l).toArray.size → (sortI l).toArray[i]! ≤ (sortI l).toArray[j]! := by
    intro i j hij hj
    have hj' : j < (sortI l).length := by simpa using hj
    have hi' : i < (sortI l).length := by omega
    have e : ∀ k (hk : k < (sortI l).length), (sortI l).toArray[k]! = (sortI l)[k] := fun k hk => by simp [getElem!_pos, hk]
    rw [e i hi', e j hj']
    by_cases h : i = j
    · subst h; omega
    · exact List.pairwise_iff_getElem.1 hs i j hi' hj' (by omega)
  obtain ⟨h1, h2⟩ := comp_up (sortI l).toArray hd (sortI l).length (by simp)
  refine ⟨h1, fun x => ?_⟩
  show x ∈ Lib.compactUpTo (sortI l).toArray (sortI l).length ↔ _
  rw [h2, ← hp.mem_iff, List.mem_iff_getElem]
  constructor
  · rintro ⟨j, hj, hx⟩
    refine ⟨j, hj, ?_⟩
    rw [← hx]; simp [getElem!_pos, hj]
  · rintro ⟨j, hj, hx⟩
    refine ⟨j, hj, ?_⟩
    rw [← hx]; simp [getElem!_pos, hj]
/-- The document's way: a number into a list that rises. -/
def lowTo (l : List Int) (z : Int) : Nat := (l.takeWhile fun x => decide (x < z)).length
def putI (l : List Int) (z : Int) : List Int := if l[lowTo l z]? = some z then l else l.take (lowTo l z) ++ z :: l.drop (lowTo l z)
theorem lowTo_le (l : List Int) (z : Int) : lowTo l z ≤ l.length := by
  unfold lowTo; exact (List.takeWhile_sublist _).length_le
theorem low_split : ∀ (l : List Int) (z : Int), l.Pairwise (· < ·) → (∀ x ∈ l.take (lowTo l z), x < z) ∧ (∀ x ∈ l.drop (lowTo l z), z ≤ x)
  | [], z, _ => ⟨fun x h => by simp at h, fun x h => by simp at h⟩
  | a :: l, z, h => by
    rw [List.pairwise_cons] at h
    by_cases ha : a < z
    · have e : lowTo (a :: l) z = lowTo l z + 1 := by unfold lowTo; simp [ha]
      rw [e]
      obtain ⟨h1, h2⟩ := low_split l z h.2
      refine ⟨fun x hx => ?_, fun x hx => ?_⟩
      · rw [List.take_succ_cons] at hx
        rcases List.mem_cons.1 hx with rfl | hx
        · exact ha
        · exact h1 x hx
      · rw [List.drop_succ_cons] at hx
        exact h2 x hx
    · have e : lowTo (a :: l) z = 0 := by unfold lowTo; simp [ha]
      rw [e]
      refine ⟨fun x hx => by simp at hx, fun x hx => ?_⟩
      rw [List.drop_zero] at hx
      rcases List.mem_cons.1 hx with rfl | hx
      · omega
      · have := h.1 x hx; omega
theorem putI_up {l : List Int} (z : Int) (h : l.Pairwise (· < ·)) : (putI l z).Pairwise (· < ·) ∧ ∀ x, x ∈ putI l z ↔ (x ∈ l ∨ x = z) := by
  obtain ⟨h1, h2⟩ := low_split l z h
  unfold putI
  by_cases hz : l[lowTo l z]? = some z
  · rw [if_pos hz]
    refine ⟨h, fun x => ⟨fun hx => .inl hx, ?_⟩⟩
    rintro (hx | rfl)
    · exact hx
    · exact List.mem_of_getElem? hz
  · rw [if_neg hz]
    have hsp := List.take_append_drop (lowTo l z) l
    have hpw : (l.take (lowTo l z)).Pairwise (· < ·) ∧ (l.drop (lowTo l z)).Pairwise (· < ·) := ⟨h.sublist (List.take_sublist _ _), h.sublist (List.drop_sublist _ _)⟩
    have h3 : ∀ x ∈ l.drop (lowTo l z), z < x := by
      intro x hx
      have hle := h2 x hx
      rcases Int.lt_or_eq_of_le hle with h4 | h4
      · exact h4
      · exfalso
        subst h4
        cases hd : l.drop (lowTo l z) with
        | nil => rw [hd] at hx; cases hx
        | cons a r =>
          have ha : l[lowTo l z]? = some a := by
            have := List.getElem?_drop (xs := l) (i := lowTo l z) (j := 0)
            rw [hd, Nat.add_zero] at this
            simpa using this.symm
          rw [hd] at hx
          rcases List.mem_cons.1 hx with rfl | hx'
          · exact hz ha
          · have := hpw.2
            rw [hd, List.pairwise_cons] at this
            have h5 := this.1 _ hx'
            have h6 := h2 a (by rw [hd]; exact List.mem_cons_self ..)
            omega
    constructor
    · rw [List.pairwise_append, List.pairwise_cons]
      refine ⟨hpw.1, ⟨h3, hpw.2⟩, fun a ha b hb => ?_⟩
      rcases List.mem_cons.1 hb with rfl | hb
      · exact h1 a ha
      · have := h1 a ha; have := h3 b hb; omega
    · intro x
      rw [List.mem_append, List.mem_cons]
      have : x ∈ l ↔ (x ∈ l.take (lowTo l z) ∨ x ∈ l.drop (lowTo l z)) := by
        conv => lhs; rw [← hsp]
        exact List.mem_append
      rw [this]
      constructor
      · rintro (h | rfl | h)
        · exact .inl (.inl h)
        · exact .inr rfl
        · exact .inl (.inr h)
      · rintro ((h | h) | rfl)
        · exact .inl h
        · exact .inr (.inr h)
        · exact .inr (.inl rfl)
theorem putI_len (l : List Int) (z : Int) : (putI l z).length ≤ l.length + 1 := by
  unfold putI
  have := lowTo_le l z
  split
  · omega
  · rw [List.length_append, List.length_cons, List.length_take, List.length_drop]; omega
def rputL (l : List Int) : List Int := l.foldl putI []
theorem rput_up (l : List Int) : (rputL l).Pairwise (· < ·) ∧ ∀ x, x ∈ rputL l ↔ x ∈ l := by
  have key : ∀ (l m : List Int), m.Pairwise (· < ·) → (l.foldl putI m).Pairwise (· < ·) ∧ ∀ x, x ∈ l.foldl putI m ↔ (x ∈ m ∨ x ∈ l) := by
    intro l
    induction l with
    | nil => intro m hm; exact ⟨hm, fun x => by simp⟩
    | cons z l ih =>
      intro m hm
      obtain ⟨h1, h2⟩ := putI_up z hm
      obtain ⟨h3, h4⟩ := ih (putI m z) h1
      refine ⟨h3, fun x => ?_⟩
      rw [List.foldl_cons, h4, h2, List.mem_cons]
      constructor
      · rintro ((h | h) | h)
        · exact .inl h
        · exact .inr (.inl h)
        · exact .inr (.inr h)
      · rintro (h | h | h)
        · exact .inl (.inl h)
        · exact .inl (.inr h)
        · exact .inr h
  have := key l [] List.Pairwise.nil
  exact ⟨this.1, fun x => by rw [show rputL l = l.foldl putI [] from rfl, this.2]; simp⟩
theorem rput_rise (l : List Int) : rputL l = riseL l := rise_ext _ _ (rput_up l).1 (rise_up l).1 fun x => by rw [(rput_up l).2, (rise_up l).2]
theorem rput_snoc (l : List Int) (z : Int) : rputL (l ++ [z]) = putI (rputL l) z := by unfold rputL; rw [List.foldl_append]; rfl
theorem rise_len (l : List Int) : (riseL l).length ≤ l.length := by
  have h : ∀ d : Array Int, ∀ m, (Lib.compactUpTo d m).length ≤ m := fun d m => by
    unfold Lib.compactUpTo
    rw [List.length_map]
    exact Nat.le_trans (List.length_filter_le _ _) (by simp)
  have h1 := h (sortI l).toArray (sortI l).length
  have h2 := (sortI_perm l).length_eq
  show (Lib.compactUpTo (sortI l).toArray (sortI l).length).length ≤ l.length
  omega
def toksL (l : List Ac) : List Int := l.map (·.tok)
def ownsL (l : List Ac) (t : Int) : List Int := (l.filter fun x => decide (x.tok = t)).map (·.who)
theorem toks_snoc (l : List Ac) (x : Ac) : toksL (l ++ [x]) = toksL l ++ [x.tok] := by simp [toksL]
theorem owns_yes {l : List Ac} {x : Ac} {t : Int} (h : x.tok = t) : ownsL (l ++ [x]) t = ownsL l t ++ [x.who] := by simp [ownsL, h]
theorem owns_no {l : List Ac} {x : Ac} {t : Int} (h : x.tok ≠ t) : ownsL (l ++ [x]) t = ownsL l t := by simp [ownsL, h]
theorem owns_len (l : List Ac) (t : Int) : (ownsL l t).length ≤ l.length := by
  unfold ownsL; rw [List.length_map]; exact List.length_filter_le _ _
theorem toks_len (l : List Ac) : (toksL l).length = l.length := by simp [toksL]
end Go.Proofs.YtimbklggifbibaaGreatDoor.P
