/- Lists of things with keys, as plain mathematics: laid, taken, found, folded; what follows where they rise. -/
import Derived.Laws.Strings
namespace Go.Proofs.Ytkikfaeigoeogaa.P
open Go
set_option linter.unusedVariables false

structure KV where
  key : ByteArray
  val : ByteArray
  cre : Int
  mod : Int
  ver : Int
  lea : Int

/-- Two texts are the same; the first is below the second. -/
def teq (a b : ByteArray) : Bool := a.toList == b.toList
def tlt (a b : ByteArray) : Bool := Op.bytesLess a.toList b.toList

theorem less_self : ∀ l : List UInt8, Op.bytesLess l l = false
  | [] => rfl
  | a :: r => by simp [Op.bytesLess, less_self r, UInt8.lt_irrefl]
theorem less_tri : ∀ l m : List UInt8, Op.bytesLess l m = false → Op.bytesLess m l = false → l = m
  | [], [], _, _ => rfl
  | [], _ :: _, h, _ => by simp [Op.bytesLess] at h
  | _ :: _, [], _, h => by simp [Op.bytesLess] at h
  | a :: r, b :: s, h, k => by
    simp only [Op.bytesLess, Bool.or_eq_false_iff, Bool.and_eq_false_iff, decide_eq_false_iff_not] at h k
    have hab : a = b := by
      apply UInt8.toNat_inj.1
      have h1 := h.1; have k1 := k.1
      rw [UInt8.lt_iff_toNat_lt] at h1 k1
      omega
    subst hab
    simp only [beq_self_eq_true, Bool.true_eq_false, false_or] at h k
    rw [less_tri r s h.2 k.2]
theorem less_trans : ∀ l m n : List UInt8, Op.bytesLess l m = true → Op.bytesLess m n = true → Op.bytesLess l n = true
  | _, [], _, h, _ => by simp [Op.bytesLess] at h
  | _, _ :: _, [], _, h => by simp [Op.bytesLess] at h
  | [], b :: s, c :: t, _, _ => rfl
  | a :: r, b :: s, c :: t, h, k => by
    simp only [Op.bytesLess, Bool.or_eq_true, Bool.and_eq_true, decide_eq_true_eq, beq_iff_eq] at h k ⊢
    rw [UInt8.lt_iff_toNat_lt] at h k ⊢
    rcases h with h | ⟨rfl, h⟩
    · rcases k with k | ⟨rfl, k⟩
      · exact .inl (by omega)
      · exact .inl h
    · rcases k with k | ⟨rfl, k⟩
      · exact .inl k
      · exact .inr ⟨rfl, less_trans r s t h k⟩

theorem bytes_ext {a b : ByteArray} (h : a.toList = b.toList) : a = b := by
  rw [ByteArray.toList_eq, ByteArray.toList_eq] at h
  cases a; cases b
  congr 1
  exact Array.toList_inj.1 h
theorem teq_iff {a b : ByteArray} : teq a b = true ↔ a = b := by
  unfold teq
  rw [beq_iff_eq]
  exact ⟨bytes_ext, fun h => by rw [h]⟩
theorem teq_self (a : ByteArray) : teq a a = true := teq_iff.2 rfl
theorem teq_ne {a b : ByteArray} : teq a b = false ↔ a ≠ b := by
  rw [← Bool.not_eq_true, teq_iff]
theorem tlt_self (a : ByteArray) : tlt a a = false := less_self _
theorem tlt_tri {a b : ByteArray} (h : tlt a b = false) (k : tlt b a = false) : a = b := bytes_ext (less_tri _ _ h k)
theorem tlt_trans {a b c : ByteArray} (h : tlt a b = true) (k : tlt b c = true) : tlt a c = true := less_trans _ _ _ h k
theorem tlt_asym {a b : ByteArray} (h : tlt a b = true) : tlt b a = false := by
  cases hb : tlt b a
  · rfl
  · have := tlt_trans h hb; rw [tlt_self] at this; cases this
theorem tlt_ne {a b : ByteArray} (h : tlt a b = true) : teq a b = false := by
  rw [teq_ne]; rintro rfl; rw [tlt_self] at h; cases h
theorem tlt_ne' {a b : ByteArray} (h : tlt a b = true) : teq b a = false := by
  rw [teq_ne]; rintro rfl; rw [tlt_self] at h; cases h

/-- Laid, taken, found, those of a prefix. -/
def layL : List KV → KV → List KV
  | [], x => [x]
  | y :: r, x => if tlt y.key x.key then y :: layL r x else if teq y.key x.key then x :: r else x :: y :: r
def takeL : List KV → ByteArray → List KV
  | [], _ => []
  | y :: r, k => if teq y.key k then r else y :: takeL r k
def findL : List KV → ByteArray → Option KV
  | [], _ => none
  | y :: r, k => if teq y.key k then some y else findL r k
def begins (p k : ByteArray) : Bool := p.toList.isPrefixOf k.toList
def fromL (l : List KV) (p : ByteArray) : List KV := l.filter fun y => begins p y.key

structure Ev where
  rev : Int
  gone : Bool
  kv : KV
def stepL (rev : Int) (l : List KV) (e : Ev) : List KV := if rev < e.rev then l else if e.gone then takeL l e.kv.key else layL l e.kv
def foldL (l : List KV) (log : List Ev) (rev : Int) : List KV := log.foldl (stepL rev) l

/-- The keys rise. -/
def rises : List KV → Bool
  | [] => true
  | x :: r => (match r with | [] => true | y :: _ => tlt x.key y.key) && rises r

theorem layL_pre : ∀ (a b : List KV) (x : KV), (∀ y ∈ a, tlt y.key x.key = true) → layL (a ++ b) x = a ++ layL b x
  | [], _, _, _ => rfl
  | y :: r, b, x, h => by
    have hy := h y (by simp)
    simp only [List.cons_append, layL, hy, if_true]
    rw [layL_pre r b x fun z hz => h z (List.mem_cons_of_mem _ hz)]
theorem takeL_pre : ∀ (a b : List KV) (k : ByteArray), (∀ y ∈ a, teq y.key k = false) → takeL (a ++ b) k = a ++ takeL b k
  | [], _, _, _ => rfl
  | y :: r, b, k, h => by
    have hy := h y (by simp)
    simp only [List.cons_append, takeL, hy]
    rw [takeL_pre r b k fun z hz => h z (List.mem_cons_of_mem _ hz)]
    simp
theorem findL_pre : ∀ (a b : List KV) (k : ByteArray), (∀ y ∈ a, teq y.key k = false) → findL (a ++ b) k = findL b k
  | [], _, _, _ => rfl
  | y :: r, b, k, h => by
    have hy := h y (by simp)
    simp only [List.cons_append, findL, hy]
    rw [findL_pre r b k fun z hz => h z (List.mem_cons_of_mem _ hz)]
    simp
theorem layL_len : ∀ (l : List KV) (x : KV), (layL l x).length ≤ l.length + 1
  | [], _ => by simp [layL]
  | y :: r, x => by
    simp only [layL]
    have := layL_len r x
    split
    · simp; omega
    · split <;> simp
theorem layL_pos (l : List KV) (x : KV) : 0 < (layL l x).length := by
  cases l with
  | nil => simp [layL]
  | cons y r => simp only [layL]; split; · simp
                split <;> simp
theorem takeL_len : ∀ (l : List KV) (k : ByteArray), (takeL l k).length ≤ l.length
  | [], _ => by simp [takeL]
  | y :: r, k => by
    simp only [takeL]
    have := takeL_len r k
    split <;> simp <;> omega
theorem layL_mem : ∀ (l : List KV) (x z : KV), z ∈ layL l x → z = x ∨ z ∈ l
  | [], x, z, h => by simp [layL] at h; exact .inl h
  | y :: r, x, z, h => by
    simp only [layL] at h
    split at h
    · rcases List.mem_cons.1 h with h | h
      · exact .inr (by simp [h])
      · rcases layL_mem r x z h with h | h
        · exact .inl h
        · exact .inr (List.mem_cons_of_mem _ h)
    · split at h
      · rcases List.mem_cons.1 h with h | h
        · exact .inl h
        · exact .inr (List.mem_cons_of_mem _ h)
      · rcases List.mem_cons.1 h with h | h
        · exact .inl h
        · exact .inr h
theorem takeL_mem : ∀ (l : List KV) (k : ByteArray) (z : KV), z ∈ takeL l k → z ∈ l
  | [], _, _, h => by simp [takeL] at h
  | y :: r, k, z, h => by
    simp only [takeL] at h
    split at h
    · exact List.mem_cons_of_mem _ h
    · rcases List.mem_cons.1 h with h | h
      · simp [h]
      · exact List.mem_cons_of_mem _ (takeL_mem r k z h)
theorem findL_mem : ∀ (l : List KV) (k : ByteArray) (z : KV), findL l k = some z → z ∈ l ∧ z.key = k
  | [], _, _, h => by simp [findL] at h
  | y :: r, k, z, h => by
    simp only [findL] at h
    split at h
    · rename_i hk
      injection h with h
      subst h
      exact ⟨by simp, teq_iff.1 hk⟩
    · exact ⟨List.mem_cons_of_mem _ (findL_mem r k z h).1, (findL_mem r k z h).2⟩

theorem rises_cons {x : KV} {r : List KV} : rises (x :: r) = true ↔ (∀ y, r.head? = some y → tlt x.key y.key = true) ∧ rises r = true := by
  cases r with
  | nil => simp [rises]
  | cons y s => simp [rises]
theorem rises_all : ∀ (x : KV) (r : List KV), rises (x :: r) = true → ∀ y ∈ r, tlt x.key y.key = true
  | _, [], _, _, h => by simp at h
  | x, y :: s, h, z, hz => by
    obtain ⟨h1, h2⟩ := rises_cons.1 h
    have hxy := h1 y rfl
    rcases List.mem_cons.1 hz with rfl | hz
    · exact hxy
    · exact tlt_trans hxy (rises_all y s h2 z hz)
theorem rises_tail {x : KV} {r : List KV} (h : rises (x :: r) = true) : rises r = true := (rises_cons.1 h).2
theorem rises_mk {x : KV} {r : List KV} (h : ∀ y ∈ r, tlt x.key y.key = true) (k : rises r = true) : rises (x :: r) = true :=
  rises_cons.2 ⟨fun y hy => h y (List.mem_of_mem_head? hy), k⟩

theorem rises_lay : ∀ (l : List KV) (x : KV), rises l = true → rises (layL l x) = true
  | [], x, _ => by simp [layL, rises]
  | y :: r, x, h => by
    have ha := rises_all y r h
    have hr := rises_tail h
    simp only [layL]
    split
    · rename_i hyx
      exact rises_mk (fun z hz => by rcases layL_mem r x z hz with rfl | hz; exact hyx; exact ha z hz) (rises_lay r x hr)
    · split
      · rename_i hk
        exact rises_mk (fun z hz => by rw [← teq_iff.1 hk]; exact ha z hz) hr
      · rename_i hlt hk
        have hxy : tlt x.key y.key = true := by
          cases hb : tlt x.key y.key
          · exact absurd (teq_iff.2 (tlt_tri (by simpa using hlt) hb)) hk
          · rfl
        exact rises_mk (fun z hz => by rcases List.mem_cons.1 hz with rfl | hz; exact hxy; exact tlt_trans hxy (ha z hz)) h
theorem rises_take : ∀ (l : List KV) (k : ByteArray), rises l = true → rises (takeL l k) = true
  | [], _, _ => rfl
  | y :: r, k, h => by
    have ha := rises_all y r h
    have hr := rises_tail h
    simp only [takeL]
    split
    · exact hr
    · exact rises_mk (fun z hz => ha z (takeL_mem r k z hz)) (rises_take r k hr)
theorem rises_from (l : List KV) (p : ByteArray) (h : rises l = true) : rises (fromL l p) = true := by
  induction l with
  | nil => rfl
  | cons y r ih =>
    have ha := rises_all y r h
    have hr := ih (rises_tail h)
    unfold fromL at hr ⊢
    rw [List.filter_cons]
    split
    · exact rises_mk (fun z hz => ha z (List.mem_filter.1 hz).1) hr
    · exact hr

/-- A key that is below all keys of the list is nowhere. -/
theorem find_above (l : List KV) (k : ByteArray) (h : ∀ y ∈ l, tlt k y.key = true) : findL l k = none := by
  have := findL_pre l [] k (fun y hy => tlt_ne' (h y hy))
  rw [List.append_nil] at this
  rw [this]; rfl
theorem take_above (l : List KV) (k : ByteArray) (h : ∀ y ∈ l, tlt k y.key = true) : takeL l k = l := by
  have := takeL_pre l [] k (fun y hy => tlt_ne' (h y hy))
  rw [List.append_nil] at this
  rw [this]; simp [takeL]
theorem lay_above (l : List KV) (x : KV) (h : ∀ y ∈ l, tlt x.key y.key = true) : layL l x = x :: l := by
  cases l with
  | nil => rfl
  | cons y r =>
    have hy := h y (by simp)
    simp [layL, tlt_asym hy, tlt_ne' hy]

theorem find_lay_same : ∀ (l : List KV) (x : KV), findL (layL l x) x.key = some x
  | [], x => by simp [layL, findL, teq_self]
  | y :: r, x => by
    simp only [layL]
    split
    · rename_i h
      simp only [findL, tlt_ne h]
      simpa using find_lay_same r x
    · split <;> simp [findL, teq_self]
theorem find_lay_other : ∀ (l : List KV) (x : KV) (k : ByteArray), teq x.key k = false → findL (layL l x) k = findL l k
  | [], x, k, h => by simp [layL, findL, h]
  | y :: r, x, k, h => by
    simp only [layL]
    split
    · simp only [findL, find_lay_other r x k h]
    · split
      · rename_i hk
        have : teq y.key k = false := by rw [teq_iff.1 hk]; exact h
        simp [findL, h, this]
      · simp [findL, h]
theorem find_take_same : ∀ (l : List KV) (k : ByteArray), rises l = true → findL (takeL l k) k = none
  | [], _, _ => rfl
  | y :: r, k, h => by
    have ha := rises_all y r h
    simp only [takeL]
    split
    · rename_i hk
      rw [teq_iff] at hk
      subst hk
      exact find_above r _ ha
    · rename_i hk
      simp only [findL, hk]
      simpa using find_take_same r k (rises_tail h)
theorem find_take_other : ∀ (l : List KV) (j k : ByteArray), teq j k = false → findL (takeL l j) k = findL l k
  | [], _, _, _ => rfl
  | y :: r, j, k, h => by
    simp only [takeL]
    split
    · rename_i hk
      rw [teq_iff] at hk
      subst hk
      simp [findL, h]
    · simp only [findL, find_take_other r j k h]

theorem len_lay : ∀ (l : List KV) (x : KV), rises l = true → (layL l x).length = l.length + (if (findL l x.key).isSome then 0 else 1)
  | [], x, _ => by simp [layL, findL]
  | y :: r, x, h => by
    have ha := rises_all y r h
    simp only [layL, findL]
    split
    · rename_i hyx
      have := len_lay r x (rises_tail h)
      simp only [tlt_ne hyx, List.length_cons, this]
      simp; omega
    · rename_i hlt
      split
      · simp
      · rename_i hk
        have hxy : tlt x.key y.key = true := by
          cases hb : tlt x.key y.key
          · exact absurd (teq_iff.2 (tlt_tri (by simpa using hlt) hb)) hk
          · rfl
        rw [find_above r x.key fun z hz => tlt_trans hxy (ha z hz)]
        simp
theorem len_take : ∀ (l : List KV) (k : ByteArray), (takeL l k).length = l.length - (if (findL l k).isSome then 1 else 0)
  | [], _ => by simp [takeL, findL]
  | y :: r, k => by
    simp only [takeL, findL]
    split
    · simp
    · have := len_take r k
      simp only [List.length_cons, this]
      cases hf : findL r k with
      | none => simp
      | some z =>
        have : 0 < r.length := by
          cases r with
          | nil => simp [findL] at hf
          | cons _ _ => simp
        simp; omega

theorem lay_lay_same : ∀ (l : List KV) (x y : KV), x.key = y.key → layL (layL l x) y = layL l y
  | [], x, y, h => by simp [layL, h, tlt_self, teq_self]
  | z :: r, x, y, h => by
    simp only [layL]
    by_cases h1 : tlt z.key x.key = true
    · have h2 : tlt z.key y.key = true := by rw [← h]; exact h1
      simp only [h1, h2, if_true, layL, lay_lay_same r x y h]
    · have h2 : ¬ tlt z.key y.key = true := by rw [← h]; exact h1
      by_cases h3 : teq z.key x.key = true
      · have h4 : teq z.key y.key = true := by rw [← h]; exact h3
        simp only [h1, h2, h3, h4, if_true, layL, Bool.false_eq_true, if_false]
        simp [h, tlt_self, teq_self]
      · have h4 : ¬ teq z.key y.key = true := by rw [← h]; exact h3
        simp only [h1, h2, h3, h4, layL, Bool.false_eq_true, if_false]
        simp [h, tlt_self, teq_self]
theorem take_lay_same : ∀ (l : List KV) (x : KV), rises l = true → takeL (layL l x) x.key = takeL l x.key
  | [], x, _ => by simp [layL, takeL, teq_self]
  | y :: r, x, h => by
    have ha := rises_all y r h
    simp only [layL]
    split
    · rename_i hyx
      simp only [takeL, tlt_ne hyx]
      simp [take_lay_same r x (rises_tail h)]
    · rename_i hlt
      split
      · rename_i hk
        simp [takeL, teq_self, hk]
      · rename_i hk
        have hxy : tlt x.key y.key = true := by
          cases hb : tlt x.key y.key
          · exact absurd (teq_iff.2 (tlt_tri (by simpa using hlt) hb)) hk
          · rfl
        rw [take_above (y :: r) x.key fun z hz => by rcases List.mem_cons.1 hz with rfl | hz; exact hxy; exact tlt_trans hxy (ha z hz)]
        simp [takeL, teq_self]
theorem tlt_total {a b : ByteArray} (h : tlt a b = false) (k : teq a b = false) : tlt b a = true := by
  cases hb : tlt b a
  · rw [tlt_tri h hb, teq_self] at k; cases k
  · rfl
/-- Two lists that rise, with the same things to be found, are the same. -/
theorem rises_ext : ∀ (l m : List KV), rises l = true → rises m = true → (∀ k, findL l k = findL m k) → l = m
  | [], [], _, _, _ => rfl
  | [], y :: s, _, _, h => by have := h y.key; simp [findL, teq_self] at this
  | x :: r, [], _, _, h => by have := h x.key; simp [findL, teq_self] at this
  | x :: r, y :: s, hl, hm, h => by
    have hax := rises_all x r hl
    have hay := rises_all y s hm
    have hxy : x.key = y.key := by
      cases h1 : tlt x.key y.key
      · cases h2 : tlt y.key x.key
        · exact tlt_tri h1 h2
        · have := h y.key
          rw [find_above (x :: r) y.key (fun z hz => by rcases List.mem_cons.1 hz with rfl | hz; exact h2; exact tlt_trans h2 (hax z hz))] at this
          simp [findL, teq_self] at this
      · have := h x.key
        rw [find_above (y :: s) x.key (fun z hz => by rcases List.mem_cons.1 hz with rfl | hz; exact h1; exact tlt_trans h1 (hay z hz))] at this
        simp [findL, teq_self] at this
    have hx := h x.key
    simp only [findL, teq_self, hxy, if_true, Option.some.injEq] at hx
    subst hx
    rw [rises_ext r s (rises_tail hl) (rises_tail hm) fun k => ?_]
    by_cases hk : teq x.key k = true
    · have := teq_iff.1 hk
      subst this
      rw [find_above r _ hax, find_above s _ hay]
    · have := h k
      simpa [findL, hk] using this
theorem lay_swap (l : List KV) (x y : KV) (hl : rises l = true) (h : teq x.key y.key = false) : layL (layL l x) y = layL (layL l y) x := by
  refine rises_ext _ _ (rises_lay _ _ (rises_lay _ _ hl)) (rises_lay _ _ (rises_lay _ _ hl)) fun k => ?_
  by_cases hx : teq x.key k = true
  · have := teq_iff.1 hx; subst this
    rw [find_lay_same, find_lay_other _ y _ (by rw [teq_ne] at h ⊢; exact fun e => h e.symm), find_lay_same]
  · by_cases hy : teq y.key k = true
    · have := teq_iff.1 hy; subst this
      rw [find_lay_same, find_lay_other _ x _ h, find_lay_same]
    · rw [find_lay_other _ y k (by simpa using hy), find_lay_other _ x k (by simpa using hx), find_lay_other _ x k (by simpa using hx), find_lay_other _ y k (by simpa using hy)]

theorem foldL_app (l : List KV) (a b : List Ev) (rev : Int) : foldL l (a ++ b) rev = foldL (foldL l a rev) b rev := by
  unfold foldL; rw [List.foldl_append]
theorem foldL_snoc (l : List KV) (a : List Ev) (e : Ev) (rev : Int) : foldL l (a ++ [e]) rev = stepL rev (foldL l a rev) e := by
  rw [foldL_app]; rfl
theorem foldL_low (log : List Ev) (rev : Int) : ∀ l, foldL l (log.filter fun e => decide (e.rev ≤ rev)) rev = foldL l log rev := by
  induction log with
  | nil => intro l; rfl
  | cons e r ih =>
    intro l
    rw [List.filter_cons]
    by_cases h : e.rev ≤ rev
    · simp only [h, decide_true, if_true]
      show foldL (stepL rev l e) _ rev = foldL (stepL rev l e) r rev
      exact ih _
    · simp only [h, decide_false, Bool.false_eq_true, if_false]
      show _ = foldL (stepL rev l e) r rev
      rw [show stepL rev l e = l from if_pos (by omega)]
      exact ih _
theorem stepL_len (rev : Int) (l : List KV) (e : Ev) : (stepL rev l e).length ≤ l.length + 1 := by
  unfold stepL
  have h1 := layL_len l e.kv
  have h2 := takeL_len l e.kv.key
  split
  · omega
  · split <;> omega
theorem foldL_len (log : List Ev) (rev : Int) : ∀ l, (foldL l log rev).length ≤ l.length + log.length := by
  induction log with
  | nil => intro l; exact Nat.le_refl _
  | cons e r ih =>
    intro l
    have h1 := ih (stepL rev l e)
    have h2 := stepL_len rev l e
    show (foldL (stepL rev l e) r rev).length ≤ _
    simp only [List.length_cons]; omega
theorem stepL_mem (rev : Int) (l : List KV) (e : Ev) (z : KV) (h : z ∈ stepL rev l e) : z = e.kv ∨ z ∈ l := by
  unfold stepL at h
  split at h
  · exact .inr h
  · split at h
    · exact .inr (takeL_mem _ _ _ h)
    · exact layL_mem _ _ _ h
theorem foldL_mem (log : List Ev) (rev : Int) : ∀ l z, z ∈ foldL l log rev → z ∈ l ∨ ∃ e ∈ log, z = e.kv := by
  induction log with
  | nil => intro l z h; exact .inl h
  | cons e r ih =>
    intro l z h
    rcases ih _ _ h with h | ⟨e', he, rfl⟩
    · rcases stepL_mem _ _ _ _ h with rfl | h
      · exact .inr ⟨e, by simp, rfl⟩
      · exact .inl h
    · exact .inr ⟨e', List.mem_cons_of_mem _ he, rfl⟩
theorem fromL_nil (l : List KV) (p : ByteArray) (hp : p.toList = []) : fromL l p = l := by
  unfold fromL
  rw [List.filter_eq_self]
  intro y _
  unfold begins
  rw [hp]; rfl
theorem find_from (l : List KV) (p k : ByteArray) : findL (fromL l p) k = if begins p k then findL l k else none := by
  induction l with
  | nil => simp [fromL, findL]
  | cons y r ih =>
    unfold fromL at ih ⊢
    rw [List.filter_cons]
    by_cases hy : begins p y.key = true
    · rw [if_pos hy]
      simp only [findL]
      by_cases hk : teq y.key k = true
      · have := teq_iff.1 hk; subst this
        simp [hk, hy]
      · simp only [hk]; simpa using ih
    · rw [if_neg hy, ih]
      simp only [findL]
      by_cases hk : teq y.key k = true
      · have := teq_iff.1 hk; subst this
        simp [hy]
      · simp [hk]
theorem from_lay_in (l : List KV) (x : KV) (p : ByteArray) (hl : rises l = true) (hp : begins p x.key = true) : fromL (layL l x) p = layL (fromL l p) x := by
  refine rises_ext _ _ (rises_from _ _ (rises_lay _ _ hl)) (rises_lay _ _ (rises_from _ _ hl)) fun k => ?_
  rw [find_from]
  by_cases hk : teq x.key k = true
  · have := teq_iff.1 hk; subst this
    rw [find_lay_same, find_lay_same, if_pos hp]
  · rw [find_lay_other _ _ _ (by simpa using hk), find_lay_other _ _ _ (by simpa using hk), find_from]
theorem from_take_in (l : List KV) (k0 p : ByteArray) (hl : rises l = true) : fromL (takeL l k0) p = takeL (fromL l p) k0 := by
  refine rises_ext _ _ (rises_from _ _ (rises_take _ _ hl)) (rises_take _ _ (rises_from _ _ hl)) fun k => ?_
  rw [find_from]
  by_cases hk : teq k0 k = true
  · have := teq_iff.1 hk; subst this
    rw [find_take_same _ _ hl, find_take_same _ _ (rises_from _ _ hl)]; simp
  · rw [find_take_other _ _ _ (by simpa using hk), find_take_other _ _ _ (by simpa using hk), find_from]
theorem from_lay_out (l : List KV) (x : KV) (p : ByteArray) (hl : rises l = true) (hp : begins p x.key = false) : fromL (layL l x) p = fromL l p := by
  refine rises_ext _ _ (rises_from _ _ (rises_lay _ _ hl)) (rises_from _ _ hl) fun k => ?_
  rw [find_from, find_from]
  by_cases hk : teq x.key k = true
  · have := teq_iff.1 hk; subst this
    simp [hp]
  · rw [find_lay_other _ _ _ (by simpa using hk)]
theorem from_take_out (l : List KV) (k0 p : ByteArray) (hl : rises l = true) (hp : begins p k0 = false) : fromL (takeL l k0) p = fromL l p := by
  refine rises_ext _ _ (rises_from _ _ (rises_take _ _ hl)) (rises_from _ _ hl) fun k => ?_
  rw [find_from, find_from]
  by_cases hk : teq k0 k = true
  · have := teq_iff.1 hk; subst this
    simp [hp]
  · rw [find_take_other _ _ _ (by simpa using hk)]

/-- All good, and the keys rise: how that is asked from the left. -/
def mayP (p : KV → Bool) (l : List KV) : Bool := l.all p && rises l
theorem rises_left : ∀ (a b : List KV), rises (a ++ b) = true → rises a = true
  | [], _, _ => rfl
  | x :: r, b, h => by
    have ha := rises_all x (r ++ b) h
    exact rises_mk (fun y hy => ha y (List.mem_append_left _ hy)) (rises_left r b (rises_tail h))
theorem rises_snoc : ∀ (a : List KV) (y x : KV), rises (a ++ [y, x]) = (rises (a ++ [y]) && tlt y.key x.key)
  | [], y, x => by simp [rises]
  | z :: r, y, x => by
    have ih := rises_snoc r y x
    cases r with
    | nil => simp [rises]
    | cons u s =>
      simp only [List.cons_append] at ih ⊢
      rw [show rises (z :: u :: (s ++ [y, x])) = (tlt z.key u.key && rises (u :: (s ++ [y, x]))) from rfl, ih]
      rw [show rises (z :: u :: (s ++ [y])) = (tlt z.key u.key && rises (u :: (s ++ [y]))) from rfl, Bool.and_assoc]
def MayTo (p : KV → Bool) (l : List KV) (k : Nat) : Prop := mayP p (l.take k) = true
theorem MayTo.zero (p : KV → Bool) (l : List KV) : MayTo p l 0 := rfl
theorem take_one_more (l : List KV) (k : Nat) (x : KV) (h : l[k]? = some x) : l.take (k + 1) = l.take k ++ [x] := by
  rw [List.take_add_one, h]; rfl
theorem MayTo.first {p : KV → Bool} {l : List KV} {x : KV} (h : l[0]? = some x) (hp : p x = true) : MayTo p l 1 := by
  unfold MayTo mayP
  rw [take_one_more l 0 x h]
  simp [hp, rises]
theorem MayTo.next {p : KV → Bool} {l : List KV} {k : Nat} {y x : KV} (ht : MayTo p l (k + 1)) (hy : l[k]? = some y) (h : l[k + 1]? = some x) (hp : p x = true) (hlt : tlt y.key x.key = true) : MayTo p l (k + 1 + 1) := by
  unfold MayTo mayP at ht ⊢
  simp only [Bool.and_eq_true] at ht ⊢
  have e := take_one_more l (k + 1) x h
  have e1 := take_one_more l k y hy
  refine ⟨?_, ?_⟩
  · rw [e, List.all_append, ht.1]; simp [hp]
  · rw [e, e1, List.append_assoc]
    show rises (l.take k ++ [y, x]) = true
    rw [rises_snoc, ← e1, ht.2, hlt]; rfl
theorem may_bad {p : KV → Bool} {l : List KV} {k : Nat} {x : KV} (h : l[k]? = some x) (hp : p x = false) : mayP p l = false := by
  unfold mayP
  rw [Bool.and_eq_false_iff]
  left
  rw [List.all_eq_false]
  exact ⟨x, List.mem_of_getElem? h, by simp [hp]⟩
theorem may_fall {p : KV → Bool} {l : List KV} {k : Nat} {y x : KV} (hy : l[k]? = some y) (h : l[k + 1]? = some x) (hlt : tlt y.key x.key = false) : mayP p l = false := by
  unfold mayP
  rw [Bool.and_eq_false_iff]
  right
  cases hr : rises l
  · rfl
  · have e : l = l.take (k + 1 + 1) ++ l.drop (k + 1 + 1) := (List.take_append_drop _ _).symm
    rw [e] at hr
    have h1 := rises_left _ _ hr
    rw [take_one_more l (k + 1) x h, take_one_more l k y hy, List.append_assoc] at h1
    rw [show l.take k ++ ([y] ++ [x]) = l.take k ++ [y, x] from rfl, rises_snoc, hlt] at h1
    simp at h1
theorem MayTo.all {p : KV → Bool} {l : List KV} {k : Nat} (h : MayTo p l k) (hk : l.length ≤ k) : mayP p l = true := by
  unfold MayTo at h
  rwa [List.take_of_length_le hk] at h
theorem mayP_lay {p : KV → Bool} {l : List KV} {x : KV} (h : mayP p l = true) (hx : p x = true) : mayP p (layL l x) = true := by
  unfold mayP at h ⊢
  rw [Bool.and_eq_true] at h ⊢
  exact ⟨List.all_eq_true.2 fun z hz => by rcases layL_mem _ _ _ hz with rfl | hz; exact hx; exact List.all_eq_true.1 h.1 z hz, rises_lay _ _ h.2⟩
theorem mayP_take {p : KV → Bool} {l : List KV} {k : ByteArray} (h : mayP p l = true) : mayP p (takeL l k) = true := by
  unfold mayP at h ⊢
  rw [Bool.and_eq_true] at h ⊢
  exact ⟨List.all_eq_true.2 fun z hz => List.all_eq_true.1 h.1 z (takeL_mem _ _ _ hz), rises_take _ _ h.2⟩
theorem mayP_from {p : KV → Bool} {l : List KV} {k : ByteArray} (h : mayP p l = true) : mayP p (fromL l k) = true := by
  unfold mayP at h ⊢
  rw [Bool.and_eq_true] at h ⊢
  exact ⟨List.all_eq_true.2 fun z hz => List.all_eq_true.1 h.1 z (List.mem_filter.1 hz).1, rises_from _ _ h.2⟩
theorem mayP_rises {p : KV → Bool} {l : List KV} (h : mayP p l = true) : rises l = true := by
  unfold mayP at h
  rw [Bool.and_eq_true] at h
  exact h.2

/-- How a list loses a thing, from the left: whether it is gone, and what is out so far. -/
def TakeTo (l : List KV) (k : ByteArray) (j : Nat) (b : Bool) (o : List KV) : Prop :=
  (b = false ∧ o = l.take j ∧ ∀ y ∈ l.take j, teq y.key k = false) ∨ (b = true ∧ o = takeL (l.take j) k ∧ ∃ y ∈ l.take j, teq y.key k = true)
theorem takeL_app_hit : ∀ (a b : List KV) (k : ByteArray), (∃ y ∈ a, teq y.key k = true) → takeL (a ++ b) k = takeL a k ++ b
  | [], _, _, h => by obtain ⟨y, hy, _⟩ := h; simp at hy
  | z :: r, b, k, h => by
    simp only [List.cons_append, takeL]
    cases hz : teq z.key k with
    | true => simp
    | false =>
      simp only [Bool.false_eq_true, if_false]
      rw [takeL_app_hit r b k ?_]; · rfl
      obtain ⟨y, hy, ht⟩ := h
      rcases List.mem_cons.1 hy with rfl | hy
      · rw [hz] at ht; cases ht
      · exact ⟨y, hy, ht⟩
theorem TakeTo.zero (l : List KV) (k : ByteArray) : TakeTo l k 0 false [] := .inl ⟨rfl, rfl, fun y hy => by simp at hy⟩
theorem TakeTo.hit {l : List KV} {k : ByteArray} {j : Nat} {o : List KV} {x : KV} (h : TakeTo l k j false o) (hx : l[j]? = some x) (ht : teq x.key k = true) : TakeTo l k (j + 1) true o := by
  rcases h with ⟨_, rfl, ha⟩ | ⟨h, _⟩
  · right
    rw [take_one_more l j x hx]
    refine ⟨rfl, ?_, x, by simp, ht⟩
    rw [takeL_pre _ _ k ha]
    simp [takeL, ht]
  · cases h
theorem TakeTo.pass {l : List KV} {k : ByteArray} {j : Nat} {o : List KV} {x : KV} (h : TakeTo l k j false o) (hx : l[j]? = some x) (ht : teq x.key k = false) : TakeTo l k (j + 1) false (o ++ [x]) := by
  rcases h with ⟨_, rfl, ha⟩ | ⟨h, _⟩
  · left
    rw [take_one_more l j x hx]
    refine ⟨rfl, rfl, fun y hy => ?_⟩
    rcases List.mem_append.1 hy with hy | hy
    · exact ha y hy
    · simp at hy; subst hy; exact ht
  · cases h
theorem TakeTo.past {l : List KV} {k : ByteArray} {j : Nat} {o : List KV} {x : KV} (h : TakeTo l k j true o) (hx : l[j]? = some x) : TakeTo l k (j + 1) true (o ++ [x]) := by
  rcases h with ⟨h, _⟩ | ⟨_, rfl, ha⟩
  · cases h
  · right
    rw [take_one_more l j x hx]
    refine ⟨rfl, (takeL_app_hit _ _ k ha).symm, ?_⟩
    obtain ⟨y, hy, ht⟩ := ha
    exact ⟨y, List.mem_append_left _ hy, ht⟩
theorem TakeTo.all {l : List KV} {k : ByteArray} {j : Nat} {b : Bool} {o : List KV} (h : TakeTo l k j b o) (hj : l.length ≤ j) : o = takeL l k := by
  unfold TakeTo at h
  rw [List.take_of_length_le hj] at h
  rcases h with ⟨_, rfl, ha⟩ | ⟨_, rfl, _⟩
  · have := takeL_pre o [] k ha
    rw [List.append_nil] at this
    rw [this]; simp [takeL]
  · rfl
theorem TakeTo.len {l : List KV} {k : ByteArray} {j : Nat} {b : Bool} {o : List KV} (h : TakeTo l k j b o) : o.length ≤ j := by
  rcases h with ⟨_, rfl, _⟩ | ⟨_, rfl, _⟩
  · exact List.length_take_le _ _
  · exact Nat.le_trans (takeL_len _ _) (List.length_take_le _ _)
end Go.Proofs.Ytkikfaeigoeogaa.P
