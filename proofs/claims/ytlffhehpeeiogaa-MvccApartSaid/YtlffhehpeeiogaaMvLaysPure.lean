/- What was laid is there, plain: for MvccLays and MvccApart. -/
import Derived.Test.YtlffhehpeeiogaaMvLive
namespace Go.Proofs.Ytlffhehpeeiogaa.P
open Go.RowKit
set_option linter.unusedVariables false

theorem find_nth : ∀ (l : List KV), rises l = true → ∀ x ∈ l, findL l x.key = some x
  | [], _, x, hx => by simp at hx
  | y :: r, h, x, hx => by
    unfold findL
    rcases List.mem_cons.1 hx with rfl | hx
    · rw [if_pos (teq_self _)]
    · rw [if_neg (by rw [tlt_ne (rises_all y r h x hx)]; simp), find_nth r (rises_tail h) x hx]
theorem any_find : ∀ (l : List KV) (k : ByteArray), (l.any fun y => teq y.key k) = (findL l k).isSome
  | [], k => rfl
  | y :: r, k => by
    rw [List.any_cons, any_find r k]
    show _ = (if teq y.key k = true then some y else findL r k).isSome
    cases teq y.key k <;> simp
/-- An equation of two answers, out of the walk's sight. -/
structure IsB (b e : Bool) : Prop where
  out : b = e
def hitTo (l : List KV) (k : ByteArray) (j : Nat) : Bool := (l.take j).any fun y => teq y.key k
theorem hit_zero (l : List KV) (k : ByteArray) : hitTo l k 0 = false := rfl
theorem hit_next {l : List KV} {k : ByteArray} {j : Nat} {x : KV} (h : l[j]? = some x) : hitTo l k (j + 1) = (hitTo l k j || teq x.key k) := by
  unfold hitTo; rw [take_succ l j x h, List.any_append]; simp
theorem hit_all {l : List KV} {n : Nat} (h : l.length = n) (k : ByteArray) : hitTo l k n = (findL l k).isSome := by
  unfold hitTo; rw [take_full l n h, any_find]
/-- Whether one of the first j is to be done to this key. -/
def asksTo (l : List Mu) (k : ByteArray) (j : Nat) : Bool := (l.take j).any fun y => teq y.key k
theorem asks_next {l : List Mu} {k : ByteArray} {j : Nat} {x : Mu} (h : l[j]? = some x) : asksTo l k (j + 1) = (asksTo l k j || teq x.key k) := by
  unfold asksTo; rw [take_succ l j x h, List.any_append]; simp
def staysTo (l : List KV) (x : KV) (j : Nat) : Bool := (l.take j).any fun y => kvEq y x
theorem stays_next {l : List KV} {x : KV} {j : Nat} {y : KV} (h : l[j]? = some y) : staysTo l x (j + 1) = (staysTo l x j || kvEq y x) := by
  unfold staysTo; rw [take_succ l j y h, List.any_append]; simp
theorem lays_in {s : St} (h : MaySt s) {ms : List Mu} (he : applyE s ms = 0) {m : Mu} (hm : m ∈ ms) {x : KV} (hx : x ∈ nowL (applyS s ms)) (hk : x.key = m.key) :
    m.gone = false ∧ x.val = m.val ∧ x.lea = m.lea ∧ x.mod = (applyS s ms).rev := by
  have h1 := find_nth _ (mayP_rises (apply_may h ms).now.may) x hx
  rw [hk, find_apply_in h he hm] at h1
  cases hg : m.gone with
  | true => rw [hg] at h1; cases h1
  | false =>
    rw [hg] at h1
    have hd := may_do (apply_now h he).2
    have hl : 0 < (eventsOf s ms).length := by
      rw [events_len h hd.2]
      exact List.length_pos_of_mem (List.mem_filter.2 ⟨hm, by unfold tells; rw [hg]; rfl⟩)
    have hr := (apply_rev he).1
    rw [if_neg (by omega)] at hr
    have e : laid (nowL s) m (s.rev + 1) = x := by simpa using h1
    rw [hr, ← e]
    unfold laid
    split <;> exact ⟨rfl, rfl, rfl, rfl⟩
theorem lays_found {s : St} (h : MaySt s) {ms : List Mu} (he : applyE s ms = 0) {m : Mu} (hm : m ∈ ms) : (findL (nowL (applyS s ms)) m.key).isSome = !m.gone := by
  rw [find_apply_in h he hm]
  cases m.gone <;> rfl
theorem lays_other {s : St} (h : MaySt s) {ms : List Mu} (he : applyE s ms = 0) {x : KV} (hx : x ∈ nowL s) (hk : asksTo ms x.key ms.length = false) : staysTo (nowL (applyS s ms)) x (nowL (applyS s ms)).length = true := by
  have hne : ∀ m ∈ ms, m.key ≠ x.key := fun m hm => by
    unfold asksTo at hk
    rw [List.take_length, List.any_eq_false] at hk
    have := hk m hm
    intro e; rw [e] at this; exact this (teq_self _)
  have h1 := find_nth _ (mayP_rises h.now.may) x hx
  rw [← find_apply_other h he hne] at h1
  unfold staysTo
  rw [List.take_length, List.any_eq_true]
  exact ⟨x, (findL_mem _ _ _ h1).1, kvEq_iff.2 rfl⟩
end Go.Proofs.Ytlffhehpeeiogaa.P
