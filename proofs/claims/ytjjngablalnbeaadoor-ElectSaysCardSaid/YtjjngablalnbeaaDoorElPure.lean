/- Who leads, plain: heads, terms, what is seen by events. -/
import Derived.Test.YtjjngablalnbeaaDoorTkMath
import Derived.Test.YtjjngablalnbeaaDoorKvEv
namespace Go.Proofs.YtjjngablalnbeaaDoor.P
open Go.RowKit Go.Sort
set_option linter.unusedVariables false
set_option linter.unusedSimpArgs false

def headL (l : List KV) : Option KV := (ordL befB l).head?
/-- What becomes of a list by events, whatever their revisions. -/
def evL (l : List KV) (e : Ev) : List KV := if e.gone then takeL l e.kv.key else layL l e.kv
def viewL (l : List KV) (es : List Ev) : List KV := es.foldl evL l
theorem view_fold (l : List KV) (es : List Ev) (rev : Int) (h : ∀ e ∈ es, e.rev ≤ rev) : foldL l es rev = viewL l es := by
  unfold foldL viewL
  induction es generalizing l with
  | nil => rfl
  | cons e r ih =>
    rw [List.foldl_cons, List.foldl_cons]
    have h1 : stepL rev l e = evL l e := by
      have := h e (List.mem_cons_self ..)
      unfold stepL evL
      rw [if_neg (by omega)]
    rw [h1]
    exact ih _ (fun x hx => h x (List.mem_cons_of_mem _ hx))
theorem view_app (l : List KV) (a b : List Ev) : viewL l (a ++ b) = viewL (viewL l a) b := by unfold viewL; rw [List.foldl_append]
theorem view_next (l : List KV) (es : List Ev) (j : Nat) (e : Ev) (h : es[j]? = some e) : viewL l (es.take (j + 1)) = evL (viewL l (es.take j)) e := by
  rw [take_succ es j e h, view_app]; rfl
theorem evL_len (l : List KV) (e : Ev) : (evL l e).length ≤ l.length + 1 := by
  unfold evL
  split
  · have := takeL_len l e.kv.key; omega
  · exact layL_len l e.kv
theorem view_len (l : List KV) : ∀ es : List Ev, (viewL l es).length ≤ l.length + es.length := by
  intro es
  unfold viewL
  induction es generalizing l with
  | nil => simp
  | cons e r ih =>
    rw [List.foldl_cons]
    have h1 := ih (evL l e)
    have h2 := evL_len l e
    simp only [List.length_cons]
    omega
theorem evL_ok {l : List KV} {e : Ev} (hl : ∀ x ∈ l, x.ok) (he : e.ok) : ∀ x ∈ evL l e, x.ok := fun x hx => by
  unfold evL at hx
  split at hx
  · exact hl x (takeL_mem _ _ _ hx)
  · rcases layL_mem _ _ _ hx with rfl | h
    · exact he.2
    · exact hl x h
theorem view_ok {l : List KV} (hl : ∀ x ∈ l, x.ok) : ∀ (es : List Ev), (∀ e ∈ es, e.ok) → ∀ x ∈ viewL l es, x.ok := by
  intro es
  unfold viewL
  induction es generalizing l with
  | nil => intro _; exact hl
  | cons e r ih =>
    intro he
    rw [List.foldl_cons]
    exact ih (evL_ok hl (he e (List.mem_cons_self ..))) (fun x hx => he x (List.mem_cons_of_mem _ hx))
/-- How many events ahead are of the first one's revision. -/
def runL : List Ev → Nat
  | [] => 0
  | e :: r => 1 + (r.takeWhile fun x => decide (x.rev = e.rev)).length
theorem runL_cons (e : Ev) (r : List Ev) : runL (e :: r) = 1 + (r.takeWhile fun x => decide (x.rev = e.rev)).length := rfl
theorem runL_pos (e : Ev) (r : List Ev) : 0 < runL (e :: r) := by rw [runL_cons]; omega
theorem while_len (p : Ev → Bool) : ∀ l : List Ev, (l.takeWhile p).length ≤ l.length
  | [] => by simp
  | x :: r => by
    rw [List.takeWhile_cons]
    split
    · have := while_len p r; simp only [List.length_cons]; omega
    · simp
theorem runL_le (es : List Ev) : runL es ≤ es.length := by
  cases es with
  | nil => simp [runL]
  | cons e r =>
    rw [runL_cons]
    have := while_len (fun x => decide (x.rev = e.rev)) r
    simp only [List.length_cons]
    omega
/-- Up to where a walk goes that steps on while the revision is the first one's. -/
theorem runL_at (es : List Ev) (e0 : Ev) (h0 : es[0]? = some e0) : (∀ j x, j < runL es → es[j]? = some x → x.rev = e0.rev) ∧ ∀ x, es[runL es]? = some x → ¬ x.rev = e0.rev := by
  cases es with
  | nil => simp at h0
  | cons e r =>
    simp at h0
    subst h0
    have key : ∀ (r : List Ev), (∀ j x, j < (r.takeWhile fun x => decide (x.rev = e.rev)).length → r[j]? = some x → x.rev = e.rev) ∧ ∀ x, r[(r.takeWhile fun x => decide (x.rev = e.rev)).length]? = some x → ¬ x.rev = e.rev := by
      intro r
      induction r with
      | nil => simp
      | cons y s ih =>
        by_cases hy : y.rev = e.rev
        · rw [List.takeWhile_cons_of_pos (by simp [hy])]
          refine ⟨fun j x hj hx => ?_, fun x hx => ?_⟩
          · cases j with
            | zero => simp at hx; subst hx; exact hy
            | succ j => exact ih.1 j x (by simpa using hj) (by simpa using hx)
          · exact ih.2 x (by simpa using hx)
        · rw [List.takeWhile_cons_of_neg (by simp [hy])]
          refine ⟨fun j x hj => by simp at hj, fun x hx => ?_⟩
          simp at hx
          subst hx
          exact hy
    refine ⟨fun j x hj hx => ?_, fun x hx => ?_⟩
    · cases j with
      | zero => simp at hx; subst hx; rfl
      | succ j =>
        rw [runL_cons] at hj
        exact (key r).1 j x (by omega) (by simpa using hx)
    · rw [runL_cons, Nat.add_comm] at hx
      exact (key r).2 x (by simpa using hx)
theorem runL_is (es : List Ev) (e0 : Ev) (n : Nat) (h0 : es[0]? = some e0) (hn : 0 < n) (hl : n ≤ es.length) (h1 : ∀ j x, j < n → es[j]? = some x → x.rev = e0.rev) (h2 : ∀ x, es[n]? = some x → ¬ x.rev = e0.rev) : n = runL es := by
  have hr := runL_at es e0 h0
  have hle := runL_le es
  rcases Nat.lt_trichotomy n (runL es) with h | h | h
  · have hx : es[n]? = some es[n] := List.getElem?_eq_getElem (by omega)
    exact absurd (hr.1 n _ h hx) (h2 _ hx)
  · exact h
  · have hx : es[runL es]? = some es[runL es] := List.getElem?_eq_getElem (by omega)
    exact absurd (h1 _ _ h hx) (hr.2 _ hx)
/-- The head is another one than it was. -/
def kvEq (a b : KV) : Bool := decide (a.key.toList = b.key.toList) && (decide (a.val.toList = b.val.toList) && (decide (a.cre = b.cre) && (decide (a.mod = b.mod) && (decide (a.ver = b.ver) && decide (a.lea = b.lea)))))
theorem kv_ext' {a b : KV} (h0 : a.key = b.key) (h1 : a.val = b.val) (h2 : a.cre = b.cre) (h3 : a.mod = b.mod) (h4 : a.ver = b.ver) (h5 : a.lea = b.lea) : a = b := by
  cases a; cases b; simp_all
theorem kvEq_iff {a b : KV} : kvEq a b = true ↔ a = b := by
  unfold kvEq
  simp only [Bool.and_eq_true, decide_eq_true_eq]
  constructor
  · rintro ⟨h0, h1, h2, h3, h4, h5⟩; exact kv_ext' (bytes_ext h0) (bytes_ext h1) h2 h3 h4 h5
  · rintro rfl; exact ⟨rfl, rfl, rfl, rfl, rfl, rfl⟩
def newB (was now : Option KV) : List KV := match now with
  | some x => (match was with | some y => if kvEq x y = true then [] else [x] | none => [x])
  | none => []
/-- The heads that are seen, a revision after another. -/
def seenL : Nat → List KV → List Ev → List KV
  | 0, _, _ => []
  | f + 1, l, es => if es = [] then [] else newB (headL l) (headL (viewL l (es.take (runL es)))) ++ seenL f (viewL l (es.take (runL es))) (es.drop (runL es))
theorem seenL_succ (f : Nat) (l : List KV) (es : List Ev) : seenL (f + 1) l es = if es = [] then [] else newB (headL l) (headL (viewL l (es.take (runL es)))) ++ seenL f (viewL l (es.take (runL es))) (es.drop (runL es)) := rfl
def seen (l : List KV) (es : List Ev) : List KV := seenL es.length l es
theorem seenL_fuel : ∀ (f g : Nat) (l : List KV) (es : List Ev), es.length ≤ f → es.length ≤ g → seenL f l es = seenL g l es
  | 0, g, l, es, h1, h2 => by
    obtain rfl := List.eq_nil_of_length_eq_zero (Nat.le_zero.1 h1)
    cases g <;> simp [seenL]
  | f + 1, 0, l, es, h1, h2 => by
    obtain rfl := List.eq_nil_of_length_eq_zero (Nat.le_zero.1 h2)
    simp [seenL]
  | f + 1, g + 1, l, es, h1, h2 => by
    rw [seenL_succ, seenL_succ]
    by_cases he : es = []
    · rw [if_pos he, if_pos he]
    · rw [if_neg he, if_neg he]
      have hp : 0 < runL es := by
        cases es with
        | nil => exact absurd rfl he
        | cons e r => exact runL_pos e r
      rw [seenL_fuel f g _ _ (by rw [List.length_drop]; omega) (by rw [List.length_drop]; omega)]
theorem seen_nil (l : List KV) : seen l [] = [] := rfl
theorem seen_step (l : List KV) (es : List Ev) (he : es ≠ []) : seen l es = newB (headL l) (headL (viewL l (es.take (runL es)))) ++ seen (viewL l (es.take (runL es))) (es.drop (runL es)) := by
  have hp : 0 < runL es := by
    cases es with
    | nil => exact absurd rfl he
    | cons e r => exact runL_pos e r
  unfold seen
  cases h : es.length with
  | zero => exact absurd (List.eq_nil_of_length_eq_zero h) he
  | succ n =>
    rw [seenL_succ, if_neg he, seenL_fuel n (es.drop (runL es)).length _ _ (by rw [List.length_drop]; omega) (Nat.le_refl _)]
theorem seen_len : ∀ (n : Nat) (l : List KV) (es : List Ev), es.length ≤ n → (seen l es).length ≤ es.length
  | 0, l, es, h => by
    obtain rfl := List.eq_nil_of_length_eq_zero (Nat.le_zero.1 h)
    simp [seen_nil]
  | n + 1, l, es, h => by
    by_cases he : es = []
    · subst he; simp [seen_nil]
    · have hp : 0 < runL es := by
        cases es with
        | nil => exact absurd rfl he
        | cons e r => exact runL_pos e r
      have hle := runL_le es
      rw [seen_step l es he, List.length_append]
      have h1 := seen_len n (viewL l (es.take (runL es))) (es.drop (runL es)) (by rw [List.length_drop]; omega)
      rw [List.length_drop] at h1
      have h2 : ∀ a b, (newB a b).length ≤ 1 := fun a b => by
        unfold newB
        cases b with
        | none => simp
        | some x =>
          cases a with
          | none => simp
          | some y => simp only; split <;> simp
      have := h2 (headL l) (headL (viewL l (es.take (runL es))))
      omega
theorem headL_mem {l : List KV} {x : KV} (h : headL l = some x) : x ∈ l := (ord_mem_iff x l).1 (by
  unfold headL at h
  cases ho : ordL befB l with
  | nil => rw [ho] at h; cases h
  | cons y r => rw [ho] at h; simp at h; subst h; exact List.mem_cons_self ..)
theorem headL_least {l : List KV} {x : KV} (h : headL l = some x) (y : KV) (hy : y ∈ l) : x.cre ≤ y.cre := by
  unfold headL at h
  cases ho : ordL befB l with
  | nil => rw [ho] at h; cases h
  | cons z r =>
    rw [ho] at h
    simp at h
    subst h
    exact first_least l z r ho y hy
theorem headL_some (l : List KV) : (headL l).isSome = !l.isEmpty := by
  unfold headL
  have := ordL_len (lt := befB) l
  cases ho : ordL befB l with
  | nil =>
    rw [ho] at this
    obtain rfl := List.eq_nil_of_length_eq_zero (this.symm ▸ rfl : l.length = 0)
    rfl
  | cons x r =>
    cases l with
    | nil => rw [ho] at this; simp at this
    | cons y s => rfl
/-- Whoever follows in two parts, cut between revisions, sees the same. -/
theorem seen_parts : ∀ (n : Nat) (l : List KV) (a b : List Ev), a.length ≤ n → (∀ x y, a.getLast? = some x → b.head? = some y → ¬ x.rev = y.rev) → seen l (a ++ b) = seen l a ++ seen (viewL l a) b
  | 0, l, a, b, h, _ => by
    obtain rfl := List.eq_nil_of_length_eq_zero (Nat.le_zero.1 h)
    rfl
  | n + 1, l, a, b, h, hb => by
    by_cases ha : a = []
    · subst ha; rfl
    · have hab : a ++ b ≠ [] := by simp [ha]
      obtain ⟨e0, r0, rfl⟩ : ∃ e r, a = e :: r := by
        cases a with
        | nil => exact absurd rfl ha
        | cons e r => exact ⟨e, r, rfl⟩
      have hle := runL_le (e0 :: r0)
      have hra := runL_at (e0 :: r0) e0 rfl
      have hp := runL_pos e0 r0
      have hrun : runL (e0 :: r0 ++ b) = runL (e0 :: r0) := by
        refine (runL_is _ e0 _ rfl hp (by simp only [List.length_append]; omega) (fun j x hj hx => ?_) (fun x hx => ?_)).symm
        · rw [List.getElem?_append_left (by omega)] at hx
          exact hra.1 j x hj hx
        · by_cases hlt : runL (e0 :: r0) < (e0 :: r0).length
          · rw [List.getElem?_append_left hlt] at hx
            exact hra.2 x hx
          · have heq : runL (e0 :: r0) = (e0 :: r0).length := by omega
            rw [heq, List.getElem?_append_right (Nat.le_refl _), Nat.sub_self] at hx
            have hl : (e0 :: r0).getLast? = some ((e0 :: r0)[(e0 :: r0).length - 1]'(by simp)) := by
              rw [List.getLast?_eq_getElem?]
              exact List.getElem?_eq_getElem _
            have h1 := hra.1 ((e0 :: r0).length - 1) _ (by rw [heq]; simp) (List.getElem?_eq_getElem (by simp))
            have h2 := hb _ x hl (by rw [List.head?_eq_getElem?]; exact hx)
            rw [h1] at h2
            exact fun e => h2 e.symm
      rw [seen_step l _ hab, hrun, seen_step l (e0 :: r0) ha, List.append_assoc]
      have ht : (e0 :: r0 ++ b).take (runL (e0 :: r0)) = (e0 :: r0).take (runL (e0 :: r0)) := by rw [List.take_append_of_le_length hle]
      have hd : (e0 :: r0 ++ b).drop (runL (e0 :: r0)) = (e0 :: r0).drop (runL (e0 :: r0)) ++ b := by rw [List.drop_append_of_le_length hle]
      rw [ht, hd]
      congr 1
      have hv : viewL (viewL l ((e0 :: r0).take (runL (e0 :: r0)))) ((e0 :: r0).drop (runL (e0 :: r0))) = viewL l (e0 :: r0) := by rw [← view_app, List.take_append_drop]
      rw [seen_parts n _ ((e0 :: r0).drop (runL (e0 :: r0))) b (by rw [List.length_drop]; simp only [List.length_cons] at h ⊢; omega) (fun x y hx hy => ?_), hv]
      refine hb x y ?_ hy
      rw [List.getLast?_drop] at hx
      split at hx
      · cases hx
      · exact hx
end Go.Proofs.YtjjngablalnbeaaDoor.P
