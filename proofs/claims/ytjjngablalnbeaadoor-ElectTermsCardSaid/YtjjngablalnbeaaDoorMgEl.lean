/- Texts of this seat in one: ElEv, ElPure, ElComp, ElHead, ElCut, ElView, ElTerms, ElFollow, ElReign, ElUse, ElSeen, ElSays. -/
import Derived.Test.YtjjngablalnbeaaDoorEvBase
import Derived.Test.YtjjngablalnbeaaDoorGenApp
import Derived.Test.YtjjngablalnbeaaDoorTkMath
import Derived.Test.YtjjngablalnbeaaDoorKvEv
import Derived.Test.YtjjngablalnbeaaDoorGenInts
import Derived.Test.YtjjngablalnbeaaDoorRowOwn
import Derived.Laws.IdiomCopy
import Derived.Test.YtjjngablalnbeaaDoorTkRef
import Derived.ScopeJumps
import Derived.Test.YtjjngablalnbeaaDoorKvRead
import Derived.Deep.CutBlock
import Derived.Deep.DeepCutAuto
import Derived.Deep.CutRange
import Derived.Test.YtjjngablalnbeaaDoorKeyRef
import Derived.Test.YtjjngablalnbeaaDoorKvFrom
import Derived.BigQuiet
/- Parts of slices of events. -/
namespace Go.Proofs.YtjjngablalnbeaaDoor.P
open Go.RowKit Go.Sort
set_option linter.unusedVariables false

theorem Evs.take {w : World} {A : Option Addr} {n c i : Nat} {l : List Ev} (h : Evs w A n c l) (hi : i ≤ n) : Evs w A i c (l.take i) :=
  ⟨by rw [List.length_take, h.len]; omega, Nat.le_trans hi h.le, h.max, fun x hx => h.ok x (List.mem_of_mem_take hx), fun h0 => by
    obtain ⟨a, e, hlt, hx⟩ := h.rd (by omega)
    exact ⟨a, e, hlt, fun k x hk => hx k x (by
      rw [List.getElem?_take] at hk
      split at hk
      · exact hk
      · cases hk)⟩, h.nil⟩
theorem Evs.drop {w : World} {a : Addr} {n c i : Nat} {l : List Ev} (h : Evs w (some a) n c l) (hi : i ≤ n) : Evs w (if c = i then some a else some (a.add (i * 8))) (n - i) (c - i) (l.drop i) :=
  ⟨by rw [List.length_drop, h.len], by have := h.le; omega, by have := h.max; omega, fun x hx => h.ok x (List.mem_of_mem_drop hx), fun h0 => by
    obtain ⟨a', e, hlt, hx⟩ := h.rd (by omega)
    obtain rfl := Option.some.inj e
    have hci : ¬ c = i := by have := h.le; omega
    rw [if_neg hci]
    refine ⟨_, rfl, by rw [block_add]; exact hlt, fun k x hk => ?_⟩
    rw [List.getElem?_drop] at hk
    rw [add_add', ← Nat.add_mul]
    exact hx _ x hk, fun h0 => by split at h0 <;> cases h0⟩
end Go.Proofs.YtjjngablalnbeaaDoor.P
/- Who leads, plain: heads, terms, what is seen by events. -/
namespace Go.Proofs.YtjjngablalnbeaaDoor.P
open Go.RowKit Go.Sort
set_option linter.unusedVariables false
set_option linter.unusedSimpArgs false

def headL (l : List KV) : Option KV := (ordL befB l).head?
/-- What becomes of a list by events, whatever their revisions. -/
def evL (l : List KV) (e : Ev) : List KV := if e.gone then takeL l e.kv.key else layL l e.kv
def viewL (l : List KV) (es : List Ev) : List KV := es.foldl evL l
theorem view_fold (l : List KV) (es : List Ev) (rev : Int) (h : ∀ e ∈ es, e.rev ≤ rev) : foldL l es rev = viewL l es := by
  unfold foldL viewL
  induction es generalizing l with
  | nil => rfl
  | cons e r ih =>
    rw [List.foldl_cons, List.foldl_cons]
    have h1 : stepL rev l e = evL l e := by
      have := h e (List.mem_cons_self ..)
      unfold stepL evL
      rw [if_neg (by omega)]
    rw [h1]
    exact ih _ (fun x hx => h x (List.mem_cons_of_mem _ hx))
theorem view_app (l : List KV) (a b : List Ev) : viewL l (a ++ b) = viewL (viewL l a) b := by unfold viewL; rw [List.foldl_append]
theorem view_next (l : List KV) (es : List Ev) (j : Nat) (e : Ev) (h : es[j]? = some e) : viewL l (es.take (j + 1)) = evL (viewL l (es.take j)) e := by
  rw [take_succ es j e h, view_app]; rfl
theorem evL_len (l : List KV) (e : Ev) : (evL l e).length ≤ l.length + 1 := by
  unfold evL
  split
  · have := takeL_len l e.kv.key; omega
  · exact layL_len l e.kv
theorem view_len (l : List KV) : ∀ es : List Ev, (viewL l es).length ≤ l.length + es.length := by
  intro es
  unfold viewL
  induction es generalizing l with
  | nil => simp
  | cons e r ih =>
    rw [List.foldl_cons]
    have h1 := ih (evL l e)
    have h2 := evL_len l e
    simp only [List.length_cons]
    omega
theorem evL_ok {l : List KV} {e : Ev} (hl : ∀ x ∈ l, x.ok) (he : e.ok) : ∀ x ∈ evL l e, x.ok := fun x hx => by
  unfold evL at hx
  split at hx
  · exact hl x (takeL_mem _ _ _ hx)
  · rcases layL_mem _ _ _ hx with rfl | h
    · exact he.2
    · exact hl x h
theorem view_ok {l : List KV} (hl : ∀ x ∈ l, x.ok) : ∀ (es : List Ev), (∀ e ∈ es, e.ok) → ∀ x ∈ viewL l es, x.ok := by
  intro es
  unfold viewL
  induction es generalizing l with
  | nil => intro _; exact hl
  | cons e r ih =>
    intro he
    rw [List.foldl_cons]
    exact ih (evL_ok hl (he e (List.mem_cons_self ..))) (fun x hx => he x (List.mem_cons_of_mem _ hx))
/-- How many events ahead are of the first one's revision. -/
def runL : List Ev → Nat
  | [] => 0
  | e :: r => 1 + (r.takeWhile fun x => decide (x.rev = e.rev)).length
theorem runL_cons (e : Ev) (r : List Ev) : runL (e :: r) = 1 + (r.takeWhile fun x => decide (x.rev = e.rev)).length := rfl
theorem runL_pos (e : Ev) (r : List Ev) : 0 < runL (e :: r) := by rw [runL_cons]; omega
theorem while_len (p : Ev → Bool) : ∀ l : List Ev, (l.takeWhile p).length ≤ l.length
  | [] => by simp
  | x :: r => by
    rw [List.takeWhile_cons]
    split
    · have := while_len p r; simp only [List.length_cons]; omega
    · simp
theorem runL_le (es : List Ev) : runL es ≤ es.length := by
  cases es with
  | nil => simp [runL]
  | cons e r =>
    rw [runL_cons]
    have := while_len (fun x => decide (x.rev = e.rev)) r
    simp only [List.length_cons]
    omega
/-- Up to where a walk goes that steps on while the revision is the first one's. -/
theorem runL_at (es : List Ev) (e0 : Ev) (h0 : es[0]? = some e0) : (∀ j x, j < runL es → es[j]? = some x → x.rev = e0.rev) ∧ ∀ x, es[runL es]? = some x → ¬ x.rev = e0.rev := by
  cases es with
  | nil => simp at h0
  | cons e r =>
    simp at h0
    subst h0
    have key : ∀ (r : List Ev), (∀ j x, j < (r.takeWhile fun x => decide (x.rev = e.rev)).length → r[j]? = some x → x.rev = e.rev) ∧ ∀ x, r[(r.takeWhile fun x => decide (x.rev = e.rev)).length]? = some x → ¬ x.rev = e.rev := by
      intro r
      induction r with
      | nil => simp
      | cons y s ih =>
        by_cases hy : y.rev = e.rev
        · rw [List.takeWhile_cons_of_pos (by simp [hy])]
          refine ⟨fun j x hj hx => ?_, fun x hx => ?_⟩
          · cases j with
            | zero => simp at hx; subst hx; exact hy
            | succ j => exact ih.1 j x (by simpa using hj) (by simpa using hx)
          · exact ih.2 x (by simpa using hx)
        · rw [List.takeWhile_cons_of_neg (by simp [hy])]
          refine ⟨fun j x hj => by simp at hj, fun x hx => ?_⟩
          simp at hx
          subst hx
          exact hy
    refine ⟨fun j x hj hx => ?_, fun x hx => ?_⟩
    · cases j with
      | zero => simp at hx; subst hx; rfl
      | succ j =>
        rw [runL_cons] at hj
        exact (key r).1 j x (by omega) (by simpa using hx)
    · rw [runL_cons, Nat.add_comm] at hx
      exact (key r).2 x (by simpa using hx)
theorem runL_is (es : List Ev) (e0 : Ev) (n : Nat) (h0 : es[0]? = some e0) (hn : 0 < n) (hl : n ≤ es.length) (h1 : ∀ j x, j < n → es[j]? = some x → x.rev = e0.rev) (h2 : ∀ x, es[n]? = some x → ¬ x.rev = e0.rev) : n = runL es := by
  have hr := runL_at es e0 h0
  have hle := runL_le es
  rcases Nat.lt_trichotomy n (runL es) with h | h | h
  · have hx : es[n]? = some es[n] := List.getElem?_eq_getElem (by omega)
    exact absurd (hr.1 n _ h hx) (h2 _ hx)
  · exact h
  · have hx : es[runL es]? = some es[runL es] := List.getElem?_eq_getElem (by omega)
    exact absurd (h1 _ _ h hx) (hr.2 _ hx)
/-- The head is another one than it was. -/
def kvEq (a b : KV) : Bool := decide (a.key.toList = b.key.toList) && (decide (a.val.toList = b.val.toList) && (decide (a.cre = b.cre) && (decide (a.mod = b.mod) && (decide (a.ver = b.ver) && decide (a.lea = b.lea)))))
theorem kv_ext' {a b : KV} (h0 : a.key = b.key) (h1 : a.val = b.val) (h2 : a.cre = b.cre) (h3 : a.mod = b.mod) (h4 : a.ver = b.ver) (h5 : a.lea = b.lea) : a = b := by
  cases a; cases b; simp_all
theorem kvEq_iff {a b : KV} : kvEq a b = true ↔ a = b := by
  unfold kvEq
  simp only [Bool.and_eq_true, decide_eq_true_eq]
  constructor
  · rintro ⟨h0, h1, h2, h3, h4, h5⟩; exact kv_ext' (bytes_ext h0) (bytes_ext h1) h2 h3 h4 h5
  · rintro rfl; exact ⟨rfl, rfl, rfl, rfl, rfl, rfl⟩
def newB (was now : Option KV) : List KV := match now with
  | some x => (match was with | some y => if kvEq x y = true then [] else [x] | none => [x])
  | none => []
/-- The heads that are seen, a revision after another. -/
def seenL : Nat → List KV → List Ev → List KV
  | 0, _, _ => []
  | f + 1, l, es => if es = [] then [] else newB (headL l) (headL (viewL l (es.take (runL es)))) ++ seenL f (viewL l (es.take (runL es))) (es.drop (runL es))
theorem seenL_succ (f : Nat) (l : List KV) (es : List Ev) : seenL (f + 1) l es = if es = [] then [] else newB (headL l) (headL (viewL l (es.take (runL es)))) ++ seenL f (viewL l (es.take (runL es))) (es.drop (runL es)) := rfl
def seen (l : List KV) (es : List Ev) : List KV := seenL es.length l es
theorem seenL_fuel : ∀ (f g : Nat) (l : List KV) (es : List Ev), es.length ≤ f → es.length ≤ g → seenL f l es = seenL g l es
  | 0, g, l, es, h1, h2 => by
    obtain rfl := List.eq_nil_of_length_eq_zero (Nat.le_zero.1 h1)
    cases g <;> simp [seenL]
  | f + 1, 0, l, es, h1, h2 => by
    obtain rfl := List.eq_nil_of_length_eq_zero (Nat.le_zero.1 h2)
    simp [seenL]
  | f + 1, g + 1, l, es, h1, h2 => by
    rw [seenL_succ, seenL_succ]
    by_cases he : es = []
    · rw [if_pos he, if_pos he]
    · rw [if_neg he, if_neg he]
      have hp : 0 < runL es := by
        cases es with
        | nil => exact absurd rfl he
        | cons e r => exact runL_pos e r
      rw [seenL_fuel f g _ _ (by rw [List.length_drop]; omega) (by rw [List.length_drop]; omega)]
theorem seen_nil (l : List KV) : seen l [] = [] := rfl
theorem seen_step (l : List KV) (es : List Ev) (he : es ≠ []) : seen l es = newB (headL l) (headL (viewL l (es.take (runL es)))) ++ seen (viewL l (es.take (runL es))) (es.drop (runL es)) := by
  have hp : 0 < runL es := by
    cases es with
    | nil => exact absurd rfl he
    | cons e r => exact runL_pos e r
  unfold seen
  cases h : es.length with
  | zero => exact absurd (List.eq_nil_of_length_eq_zero h) he
  | succ n =>
    rw [seenL_succ, if_neg he, seenL_fuel n (es.drop (runL es)).length _ _ (by rw [List.length_drop]; omega) (Nat.le_refl _)]
theorem seen_len : ∀ (n : Nat) (l : List KV) (es : List Ev), es.length ≤ n → (seen l es).length ≤ es.length
  | 0, l, es, h => by
    obtain rfl := List.eq_nil_of_length_eq_zero (Nat.le_zero.1 h)
    simp [seen_nil]
  | n + 1, l, es, h => by
    by_cases he : es = []
    · subst he; simp [seen_nil]
    · have hp : 0 < runL es := by
        cases es with
        | nil => exact absurd rfl he
        | cons e r => exact runL_pos e r
      have hle := runL_le es
      rw [seen_step l es he, List.length_append]
      have h1 := seen_len n (viewL l (es.take (runL es))) (es.drop (runL es)) (by rw [List.length_drop]; omega)
      rw [List.length_drop] at h1
      have h2 : ∀ a b, (newB a b).length ≤ 1 := fun a b => by
        unfold newB
        cases b with
        | none => simp
        | some x =>
          cases a with
          | none => simp
          | some y => simp only; split <;> simp
      have := h2 (headL l) (headL (viewL l (es.take (runL es))))
      omega
theorem headL_mem {l : List KV} {x : KV} (h : headL l = some x) : x ∈ l := (ord_mem_iff x l).1 (by
  unfold headL at h
  cases ho : ordL befB l with
  | nil => rw [ho] at h; cases h
  | cons y r => rw [ho] at h; simp at h; subst h; exact List.mem_cons_self ..)
theorem headL_least {l : List KV} {x : KV} (h : headL l = some x) (y : KV) (hy : y ∈ l) : x.cre ≤ y.cre := by
  unfold headL at h
  cases ho : ordL befB l with
  | nil => rw [ho] at h; cases h
  | cons z r =>
    rw [ho] at h
    simp at h
    subst h
    exact first_least l z r ho y hy
theorem headL_some (l : List KV) : (headL l).isSome = !l.isEmpty := by
  unfold headL
  have := ordL_len (lt := befB) l
  cases ho : ordL befB l with
  | nil =>
    rw [ho] at this
    obtain rfl := List.eq_nil_of_length_eq_zero (this.symm ▸ rfl : l.length = 0)
    rfl
  | cons x r =>
    cases l with
    | nil => rw [ho] at this; simp at this
    | cons y s => rfl
/-- Whoever follows in two parts, cut between revisions, sees the same. -/
theorem seen_parts : ∀ (n : Nat) (l : List KV) (a b : List Ev), a.length ≤ n → (∀ x y, a.getLast? = some x → b.head? = some y → ¬ x.rev = y.rev) → seen l (a ++ b) = seen l a ++ seen (viewL l a) b
  | 0, l, a, b, h, _ => by
    obtain rfl := List.eq_nil_of_length_eq_zero (Nat.le_zero.1 h)
    rfl
  | n + 1, l, a, b, h, hb => by
    by_cases ha : a = []
    · subst ha; rfl
    · have hab : a ++ b ≠ [] := by simp [ha]
      obtain ⟨e0, r0, rfl⟩ : ∃ e r, a = e :: r := by
        cases a with
        | nil => exact absurd rfl ha
        | cons e r => exact ⟨e, r, rfl⟩
      have hle := runL_le (e0 :: r0)
      have hra := runL_at (e0 :: r0) e0 rfl
      have hp := runL_pos e0 r0
      have hrun : runL (e0 :: r0 ++ b) = runL (e0 :: r0) := by
        refine (runL_is _ e0 _ rfl hp (by simp only [List.length_append]; omega) (fun j x hj hx => ?_) (fun x hx => ?_)).symm
        · rw [List.getElem?_append_left (by omega)] at hx
          exact hra.1 j x hj hx
        · by_cases hlt : runL (e0 :: r0) < (e0 :: r0).length
          · rw [List.getElem?_append_left hlt] at hx
            exact hra.2 x hx
          · have heq : runL (e0 :: r0) = (e0 :: r0).length := by omega
            rw [heq, List.getElem?_append_right (Nat.le_refl _), Nat.sub_self] at hx
            have hl : (e0 :: r0).getLast? = some ((e0 :: r0)[(e0 :: r0).length - 1]'(by simp)) := by
              rw [List.getLast?_eq_getElem?]
              exact List.getElem?_eq_getElem _
            have h1 := hra.1 ((e0 :: r0).length - 1) _ (by rw [heq]; simp) (List.getElem?_eq_getElem (by simp))
            have h2 := hb _ x hl (by rw [List.head?_eq_getElem?]; exact hx)
            rw [h1] at h2
            exact fun e => h2 e.symm
      rw [seen_step l _ hab, hrun, seen_step l (e0 :: r0) ha, List.append_assoc]
      have ht : (e0 :: r0 ++ b).take (runL (e0 :: r0)) = (e0 :: r0).take (runL (e0 :: r0)) := by rw [List.take_append_of_le_length hle]
      have hd : (e0 :: r0 ++ b).drop (runL (e0 :: r0)) = (e0 :: r0).drop (runL (e0 :: r0)) ++ b := by rw [List.drop_append_of_le_length hle]
      rw [ht, hd]
      congr 1
      have hv : viewL (viewL l ((e0 :: r0).take (runL (e0 :: r0)))) ((e0 :: r0).drop (runL (e0 :: r0))) = viewL l (e0 :: r0) := by rw [← view_app, List.take_append_drop]
      rw [seen_parts n _ ((e0 :: r0).drop (runL (e0 :: r0))) b (by rw [List.length_drop]; simp only [List.length_cons] at h ⊢; omega) (fun x y hx hy => ?_), hv]
      refine hb x y ?_ hy
      rw [List.getLast?_drop] at hx
      split at hx
      · cases hx
      · exact hx
end Go.Proofs.YtjjngablalnbeaaDoor.P
/- Numbers, neighbours that are the same as one: slices.Compact over a row of the call's own. -/
namespace Go.Proofs.YtjjngablalnbeaaDoor.P
open Go.RowKit Go.Sort
set_option maxHeartbeats 2000000
set_option linter.unusedVariables false
set_option linter.unusedSimpArgs false
set_option maxRecDepth 100000

/-- The first j numbers, neighbours that are the same as one. -/
def termsTo (l : List Int) : Nat → List Int
  | 0 => []
  | j + 1 => termsTo l j ++ (match l[j]? with | some a => if 0 < j ∧ l[j - 1]? = some a then [] else [a] | none => [])
def termsL (l : List Int) : List Int := termsTo l l.length
theorem terms_new (l : List Int) (j : Nat) (a : Int) (ha : l[j]? = some a) (h : ¬ (0 < j ∧ l[j - 1]? = some a)) : termsTo l (j + 1) = termsTo l j ++ [a] := by
  show termsTo l j ++ (match l[j]? with | some a => if 0 < j ∧ l[j - 1]? = some a then [] else [a] | none => []) = _
  rw [ha]; simp only [if_neg h]
theorem terms_old (l : List Int) (j : Nat) (a : Int) (ha : l[j]? = some a) (h : 0 < j ∧ l[j - 1]? = some a) : termsTo l (j + 1) = termsTo l j := by
  show termsTo l j ++ (match l[j]? with | some a => if 0 < j ∧ l[j - 1]? = some a then [] else [a] | none => []) = _
  rw [ha]; simp only [if_pos h]; simp
theorem terms_len (l : List Int) : ∀ j, (termsTo l j).length ≤ j
  | 0 => by simp [termsTo]
  | j + 1 => by
    have := terms_len l j
    unfold termsTo
    rw [List.length_append]
    cases l[j]? with
    | none => simp; omega
    | some a => simp only; split <;> simp <;> omega
abbrev arrI (L : List Int) : Array Value := (L.map (Value.int .i64)).toArray
theorem arrI_get (L : List Int) (i : Nat) (a : Int) (h : L[i]? = some a) : (arrI L)[i]? = some (.int .i64 a) := by simp [arrI, h]
theorem arrI_set (L : List Int) (i : Nat) (a : Int) : (arrI L).setIfInBounds i (.int .i64 a) = arrI (L.set i a) := by simp [arrI, List.map_set]
theorem own_int {w : World} {g : Nat} {t : TypeId} {L : List Int} (h : Own w g t (arrI L)) (i : Nat) (a : Int) (ha : L[i]? = some a) : w.cell? ⟨g, i, none⟩ = some (.int .i64 a) := h.cell i _ (arrI_get L i a ha)
/-- A row of numbers, read out of its block. -/
theorem is_of_cells {w : World} {g m n : Nat} (T : List Int) (hT : T.length = m) (hm : m ≤ n) (hn : n ≤ maxLen) (hg : g < w.heap.size) (h : ∀ i a, T[i]? = some a → w.cell? ⟨g, i, none⟩ = some (.int .i64 a)) : Is w (some ⟨g, 0, none⟩) m n T :=
  ⟨hT, hm, hn, fun _ => ⟨_, rfl, hg, fun i x hx j v hv => by
    have hj : j = 0 := by
      have := (List.getElem?_eq_some_iff.1 hv).1
      simp [intC] at this
      exact this
    subst hj
    simp [intC] at hv
    subst hv
    rw [Nat.mul_one]
    have := h i x hx
    unfold subA
    rw [if_pos rfl, show (⟨g, 0, none⟩ : Addr).add i = ⟨g, i, none⟩ by unfold Addr.add; split <;> simp_all]
    exact this⟩, fun h0 => by cases h0⟩
theorem zero_int_ (w : World) : (zeroValue 3).run Tryd.prog w = .ok (.int .i64 0) w := by kernel_rfl
theorem grown_setCells (w : World) (g : Nat) : ∀ (o : Nat) (vs : List Value), w.grownBy (w.setCells g o vs) (some g) := by
  intro o vs
  have : ∀ (vs : List Value) (o : Nat) (w : World), w.grownBy (w.setCells g o vs) (some g) := by
    intro vs
    induction vs with
    | nil => intro o w; exact grown_refl _ _
    | cons v r ih => intro o w; exact Lib.grownBy_trans (Lib.grownBy_setCell w g o v) (ih _ _)
  exact this vs o w
def CompEnd (w : World) (g n : Nat) (T : List Int) (e : Ending) (w' : World) : Prop := e = .returned (.slice (some ⟨g, 0, none⟩) T.length n) ∧ Is w' (some ⟨g, 0, none⟩) T.length n T ∧ w.grownBy w' (some g)
theorem compact_any (g n : Nat) (L : List Int) (w : World) (O : Own w g 3 (arrI L)) (hL : L.length = n) (hn : n ≤ 100000) :
    Calls Tryd.prog 35 #[.slice (some ⟨g, 0, none⟩) n n] w (CompEnd w g n (termsL L)) := by
  have HL := Lib.hid hL
  have OW := Lib.hid O
  have hmx : n ≤ maxLen := by unfold maxLen; omega
  have HMX := Lib.hid hmx
  have hlt0 := O.lt
  clear hL O hmx
  by_cases h2 : n < 2
  · have hT : Hid (termsL L = L) := Lib.hid (by
      unfold termsL
      have h1 := HL.out
      match L, h1 with
      | [], _ => rfl
      | [a], _ => rfl
      | a :: b :: r, h1 => simp at h1; omega)
    have h3 : (n : Int) < 2 := by omega
    go_enter Tryd.func35, Tryd.ntmps35
    go_wp2
    go_ret
    rw [hT.out]
    have hl : L.length = n := HL.out
    subst hl
    exact ⟨rfl, is_of_cells L rfl (Nat.le_refl _) HMX.out hlt0 (fun i a ha => own_int OW.out i a ha), grown_refl _ _⟩
  · have h3 : ¬ ((n : Int) < 2) := by omega
    go_enter Tryd.func35, Tryd.ntmps35
    go_wp2
    go_loopw [3] (fun i wr => ∃ k : Nat, 1 ≤ k ∧ k ≤ n ∧ i = .int .i64 k ∧ Hid (termsTo L k = L.take k) ∧ Own wr g 3 (arrI L) ∧ w.grownBy wr (some g)) (fun i _ => n - (intOf i).toNat)
    case atStart => exact ⟨1, Nat.le_refl _, by omega, rfl, Lib.hid (by
      have h1 := HL.out
      match L, h1 with
      | [], h1 => simp at h1; omega
      | a :: r, _ => rfl), OW.out, grown_refl _ _⟩
    case round =>
      rename World => wr
      obtain ⟨k, hk1, hkn, rfl, HT, hO, hG⟩ := hrel
      have O1 := Lib.hid hO
      have G1 := Lib.hid hG
      clear hO hG
      by_cases hlt : k < n
      · obtain ⟨i, hi⟩ : ∃ i, i + 1 = k := ⟨k - 1, by omega⟩
        obtain ⟨x, hx⟩ : ∃ x, L[k]? = some x := ⟨_, List.getElem?_eq_getElem (by rw [HL.out]; exact hlt)⟩
        obtain ⟨y, hy⟩ : ∃ y, L[i]? = some y := ⟨_, List.getElem?_eq_getElem (by rw [HL.out]; omega)⟩
        have cx := own_int O1.out k x hx
        have cy := own_int O1.out i y hy
        have hki : (k : Int) - 1 = (i : Int) := by omega
        have hkn1 : (k : Int) < n := by omega
        have hin1 : (i : Int) < n := by omega
        have HX := Lib.hid hx
        have HY := Lib.hid hy
        have HI := Lib.hid hi
        have hki0 : k - 1 = i := by omega
        have HK0 := Lib.hid hki0
        clear hx hy hi hki0
        by_cases hxy : x = y
        · have hb : (x == y) = true := by simp [hxy]
          have HD := Lib.hid (show 0 < k ∧ L[k - 1]? = some x from ⟨by omega, by rw [HK0.out, hxy]; exact HY.out⟩)
          have hkn2 : k ≤ n := by omega
          have hkn3 : (k : Int) ≤ n := by omega
          have hknc : ¬ n = k := by omega
          have hnk : ((n - k : Nat) : Int) = (n : Int) - k := by omega
          clear hxy
          go_wp2
          go_quiet (fail)
          go_wp2
          have GW : Hid (w.grownBy (wr.drewN nq) (some g)) := Lib.hid (Lib.grownBy_trans G1.out (grown_drewN wr nq _))
          have OD : Hid (Own (wr.drewN nq) g 3 (arrI L)) := Lib.hid ⟨O1.out.ex⟩
          clear cx cy
          generalize wr.drewN nq = wd at *
          go_loopw [3, 5] (fun v i wq => ∃ (q m : Nat) (M : List Int), 1 ≤ q ∧ k + q ≤ n ∧ m < k + q ∧ v = .int .i64 m ∧ i = .int .i64 q ∧ Hid (M.length = n ∧ M.take m = termsTo L (k + q) ∧ ∀ j, k + q ≤ j + 1 → M[j]? = L[j]?) ∧ Own wq g 3 (arrI M) ∧ w.grownBy wq (some g)) (fun _ i _ => n - (intOf i).toNat)
          case atStart => exact ⟨1, k, L, Nat.le_refl _, by omega, by omega, rfl, rfl, Lib.hid ⟨HL.out, by rw [terms_old L k x HX.out HD.out, HT.out], fun j _ => rfl⟩, OD.out, GW.out⟩
          case round =>
            clear OD GW
            rename World => wq
            obtain ⟨q, m, M, hq1, hqn, hmq, rfl, rfl, HM, hO, hG⟩ := hrel
            have O2 := Lib.hid hO
            have G2 := Lib.hid hG
            clear hO hG
            by_cases hqk : k + q < n
            · obtain ⟨p, hp⟩ : ∃ p, p + 1 = q := ⟨q - 1, by omega⟩
              obtain ⟨u, hu⟩ : ∃ u, L[k + q]? = some u := ⟨_, List.getElem?_eq_getElem (by rw [HL.out]; exact hqk)⟩
              obtain ⟨v, hv⟩ : ∃ v, L[k + p]? = some v := ⟨_, List.getElem?_eq_getElem (by rw [HL.out]; omega)⟩
              have cu := own_int O2.out (k + q) u (by rw [HM.out.2.2 (k + q) (by omega)]; exact hu)
              have cv := own_int O2.out (k + p) v (by rw [HM.out.2.2 (k + p) (by omega)]; exact hv)
              have hqi : (q : Int) < ((n - k : Nat) : Int) := by omega
              have hqi2 : q < n - k := by omega
              have hpi2 : p < n - k := by omega
              have hpi : (p : Int) < ((n - k : Nat) : Int) := by omega
              have hqp : (q : Int) - 1 = (p : Int) := by omega
              have hmn : (m : Int) < n := by omega
              have HU := Lib.hid hu
              have HV := Lib.hid hv
              have HP := Lib.hid hp
              clear hu hv hp
              by_cases huv : u = v
              · have hb2 : (u != v) = false := by simp [huv]
                have HN := Lib.hid (terms_old L (k + q) u HU.out ⟨by omega, by rw [show k + q - 1 = k + p by have := HP.out; omega, huv]; exact HV.out⟩)
                clear huv
                go_wp2
                go_quiet (fail)
                go_wp2
                go_roundw
                case rel => exact ⟨q + 1, m, M, by omega, by omega, by omega, rfl, by go_num, Lib.hid ⟨HM.out.1, by rw [show k + (q + 1) = k + q + 1 by omega, HN.out]; exact HM.out.2.1, fun j hj => HM.out.2.2 j (by omega)⟩, ⟨O2.out.ex⟩, Lib.grownBy_trans G2.out (grown_drewN wq nq _)⟩
                case measure => simp [intOf]; omega
              · have hb2 : (u != v) = true := by simp [huv]
                have HN := Lib.hid (terms_new L (k + q) u HU.out (fun h => by
                  rw [show k + q - 1 = k + p by have := HP.out; omega, HV.out] at h
                  exact huv (Option.some.inj h.2).symm))
                have fm := O2.out.frozen m
                obtain ⟨z, hz⟩ : ∃ z, M[m]? = some z := ⟨_, List.getElem?_eq_getElem (by rw [HM.out.1]; omega)⟩
                have cm := own_int O2.out m z hz
                have cur := fun (N : Nat) => (show Own (wq.drewN N) g 3 (arrI M) from ⟨O2.out.ex⟩)
                have SET := Lib.hid (show M.set m u = M.take m ++ u :: M.drop (m + 1) by rw [List.set_eq_take_append_cons_drop, if_pos (by rw [HM.out.1]; omega)])
                clear huv
                go_wp2
                go_quiet (fail)
                go_wp2
                go_roundw
                case rel => exact ⟨q + 1, m + 1, M.set m u, by omega, by omega, by omega, by go_num, by go_num, Lib.hid ⟨by rw [List.length_set]; exact HM.out.1, by
                  rw [show k + (q + 1) = k + q + 1 by omega, HN.out, ← HM.out.2.1, SET.out]
                  have : (M.take m).length = m := by rw [List.length_take, HM.out.1]; omega
                  rw [List.take_append, this, List.take_of_length_le (by rw [this]; omega), show m + 1 - m = 1 by omega]
                  rfl, fun j hj => by rw [List.getElem?_set_ne (by omega)]; exact HM.out.2.2 j (by omega)⟩, by rw [← arrI_set]; exact (cur nq).set m _, Lib.grownBy_setB (Lib.grownBy_trans G2.out (grown_drewN wq nq _)) m _⟩
                case measure => simp [intOf]; omega
            · obtain rfl : q = n - k := by omega
              have hkn4 : k + (n - k) = n := by omega
              have hM1 := HM.out.1
              have hM2 := HM.out.2.1
              rw [hkn4] at hM2 hmq
              have hml : (termsL L).length = m := by
                unfold termsL
                rw [HL.out, ← hM2, List.length_take, hM1]
                omega
              have hT : termsL L = M.take m := by unfold termsL; rw [HL.out, hM2]
              have hrow : RowAt wq g 3 (arrI M) := O2.out.ex
              obtain ⟨zs, hzl, hcl⟩ := run_clear_rows (P := Tryd.prog) wq 32 3 (.int .i64 0) 1 Tryd.underlying32 zero_int_ rfl (by intro v hv; simp [Value.cells] at hv; subst hv; rfl) (by omega) g m (n - m) (by omega)
                (fun t ht => by rw [hrow.cell, Array.getElem?_eq_getElem (by simp [arrI]; omega)]; rfl) (fun t ht => hrow.frozen _)
              have FIN : Hid (CompEnd w g n (termsL L) (.returned (.slice (some ⟨g, 0, none⟩) m n)) (wq.setCells g m zs)) := Lib.hid (by
                refine ⟨by rw [hml], ?_, ?_⟩
                · refine is_of_cells (termsL L) rfl (by rw [hml]; omega) HMX.out (by
                    have := O2.out.lt
                    have h2 := (RowAt.setCells zs wq (arrI M) m hrow)
                    exact (Own.mk h2).lt) (fun i a ha => ?_)
                  have him : i < m := by have := (List.getElem?_eq_some_iff.1 ha).1; omega
                  rw [World.cell?_setCells_out _ _ _ _ _ (fun _ _ => .inl him)]
                  rw [hT, List.getElem?_take_of_lt him] at ha
                  exact own_int O2.out i a ha
                · exact Lib.grownBy_trans G2.out (grown_setCells wq g m zs))
              have hmn : m ≤ n := by omega
              have hmn2 : (m : Int) ≤ n := by omega
              have hmn3 : ¬ n = m := by omega
              clear hrow hM1 hM2 hml hT hzl
              go_wp2
              go_ret
              exact FIN.out
        · have hb : (x == y) = false := by simp [hxy]
          have HN := Lib.hid (terms_new L k x HX.out (fun h => by
            rw [HK0.out, HY.out] at h
            exact hxy (Option.some.inj h.2).symm))
          clear hxy
          go_wp2
          go_quiet (fail)
          go_wp2
          go_roundw
          case rel => exact ⟨k + 1, by omega, by omega, by go_num, Lib.hid (by rw [HN.out, HT.out, take_succ L k x HX.out]), ⟨O1.out.ex⟩, Lib.grownBy_trans G1.out (grown_drewN wr nq _)⟩
          case measure => simp [intOf]; omega
      · obtain rfl : k = n := by omega
        go_wp2
        go_ret
        have hT : termsL L = L := by
          unfold termsL
          rw [HL.out, HT.out, List.take_of_length_le (by rw [HL.out]; omega)]
        rw [hT]
        have hl : L.length = k := HL.out
        subst hl
        exact ⟨rfl, is_of_cells L rfl (Nat.le_refl _) HMX.out O1.out.lt (fun i a ha => own_int O1.out i a ha), G1.out⟩
end Go.Proofs.YtjjngablalnbeaaDoor.P
/- Who leads: the head, by the program and by the document. -/
namespace Go.Proofs.YtjjngablalnbeaaDoor.P
open Go.RowKit Go.Sort
set_option maxHeartbeats 2000000
set_option linter.unusedVariables false
set_option linter.unusedSimpArgs false
set_option maxRecDepth 100000

abbrev zKV : Array Value := #[.string ⟨#[]⟩, .string ⟨#[]⟩, .int .i64 0, .int .i64 0, .int .i64 0, .int .i64 0]
theorem headL_nil {l : List KV} (h : ordL befB l = []) : headL l = none := by unfold headL; rw [h]; rfl
theorem headL_cons {l : List KV} {x : KV} {r : List KV} (h : ordL befB l = x :: r) : headL l = some x := by unfold headL; rw [h]; rfl
theorem head_any (A : Option Addr) (n c : Nat) (l : List KV) (w : World) (h : KVs w A n c l) (hn : n ≤ 100000) :
    Calls Tryd.prog 11 #[.slice A n c] w (FoundEnd (headL l) w) := by
  have O0 := Lib.hid (own_new w zKV 26)
  have B0 := Lib.hid (new1 w (.cells zKV 26))
  have c1 := order_any A n c l _ (h.keep B0.out) (by omega)
  have hl := h.len
  unfold OrdEnd at c1
  rw [hl] at c1
  cases ho : ordL befB l with
  | nil =>
    have hz : n = 0 := by rw [← hl, ← ordL_len (lt := befB), ho]; rfl
    subst hz
    rw [ho] at c1
    have HV := Lib.hid (headL_nil ho)
    clear h ho hl
    go_enter Tryd.func11, Tryd.ntmps11
    go_wp2_with fail
    refine c1.mono ?_; rintro e w1 ⟨g, rfl, -, hk, hb⟩
    have O1 := Lib.hid (O0.out.below hb)
    have B1 := Lib.hid (then_ B0.out hb)
    clear hk hb c1
    go_wp2_with (first | (refine wpList_store_row rfl 26 _ _ rfl _ _ rfl rfl 26 _ O1.out.ex (by kernel_rfl) rfl (by simp [Value.oneCell']) ?_))
    exact bodyPost_ret (v := .tuple #[.agg zKV, .bool false]) (results_row1 Tryd.results11 _ _ w.heap.size 26 _ _ rfl ((O1.out.row _).ex) Tryd.underlying26 rfl (by kernel_rfl)) rfl (by rw [HV.out]; exact ⟨rfl, below_setRow B1.out (Nat.le_refl _) _⟩)
  | cons x r =>
    have hz : 0 < n := by rw [← hl, ← ordL_len (lt := befB), ho]; simp
    rw [ho] at c1
    have HV := Lib.hid (headL_cons ho)
    have hz1 : ((n : Int) == 0) = false := by simp; omega
    have hz2 : (0 : Int) < n := by omega
    clear h ho hl
    go_enter Tryd.func11, Tryd.ntmps11
    go_wp2_with fail
    refine c1.mono ?_; rintro e w1 ⟨g, rfl, -, hk, hb⟩
    have O1 := Lib.hid (O0.out.below hb)
    have B1 := Lib.hid (then_ B0.out hb)
    generalize (some (⟨g, 0, none⟩ : Addr)) = Ag at *
    obtain ⟨a, x', rfl, _, hx, _, hc⟩ := hk.at_ hz
    obtain rfl : x = x' := Option.some.inj hx
    rw [Nat.zero_mul, Addr.add_zero'] at hc
    obtain ⟨d0, d1, d2, d3, d4, d5⟩ := hc
    clear hk hb c1 hx
    go_wp2_with (first | (refine wpList_store_row rfl 26 _ _ rfl _ _ rfl rfl 26 _ O1.out.ex (by kernel_rfl) rfl (by simp [Value.oneCell']) ?_))
    exact bodyPost_ret (v := .tuple #[x.agg, .bool true]) (results_row1 Tryd.results11 _ _ w.heap.size 26 _ _ rfl ((O1.out.row _).ex) Tryd.underlying26 rfl (by kernel_rfl)) rfl (by rw [HV.out]; exact ⟨rfl, below_setRow B1.out (Nat.le_refl _) _⟩)
theorem headr_any (A : Option Addr) (n c : Nat) (l : List KV) (w : World) (h : KVs w A n c l) (hn : n ≤ 100000) :
    Calls Tryd.prog 12 #[.slice A n c] w (FoundEnd (headL l) w) := by
  have O0 := Lib.hid (own_new w zKV 26)
  have B0 := Lib.hid (new1 w (.cells zKV 26))
  have c1 := orderR_any A n c l _ (h.keep B0.out) (by omega)
  have hl := h.len
  have hol := ordL_len (lt := befB) l
  rw [hl] at hol
  cases ho : ordL befB l with
  | nil =>
    rw [ho] at c1 hol
    have hz : n = 0 := hol.symm
    subst hz
    have HV := Lib.hid (headL_nil ho)
    clear h ho hl hol
    go_enter Tryd.func12, Tryd.ntmps12
    go_wp2_with fail
    refine c1.mono ?_; rintro e w1 ⟨Ag, m, d, rfl, hk, hb⟩
    obtain rfl : 0 = m := hk.len
    have O1 := Lib.hid (O0.out.below hb)
    have B1 := Lib.hid (then_ B0.out hb)
    clear hk hb c1
    go_wp2_with (first | (refine wpList_store_row rfl 26 _ _ rfl _ _ rfl rfl 26 _ O1.out.ex (by kernel_rfl) rfl (by simp [Value.oneCell']) ?_))
    exact bodyPost_ret (v := .tuple #[.agg zKV, .bool false]) (results_row1 Tryd.results12 _ _ w.heap.size 26 _ _ rfl ((O1.out.row _).ex) Tryd.underlying26 rfl (by kernel_rfl)) rfl (by rw [HV.out]; exact ⟨rfl, below_setRow B1.out (Nat.le_refl _) _⟩)
  | cons x r =>
    rw [ho] at c1 hol
    have hz : 0 < n := by rw [← hol]; simp
    have HV := Lib.hid (headL_cons ho)
    have HOL := Lib.hid hol
    have hz1 : ((n : Int) == 0) = false := by simp; omega
    have hz2 : (0 : Int) < n := by omega
    clear h ho hl hol
    go_enter Tryd.func12, Tryd.ntmps12
    go_wp2_with fail
    refine c1.mono ?_; rintro e w1 ⟨Ag, m, d, rfl, hk, hb⟩
    obtain rfl : n = m := HOL.out.symm.trans hk.len
    have O1 := Lib.hid (O0.out.below hb)
    have B1 := Lib.hid (then_ B0.out hb)
    obtain ⟨a, x', rfl, _, hx, _, hc⟩ := hk.at_ hz
    obtain rfl : x = x' := Option.some.inj hx
    rw [Nat.zero_mul, Addr.add_zero'] at hc
    obtain ⟨d0, d1, d2, d3, d4, d5⟩ := hc
    clear hk hb c1 hx
    go_wp2_with (first | (refine wpList_store_row rfl 26 _ _ rfl _ _ rfl rfl 26 _ O1.out.ex (by kernel_rfl) rfl (by simp [Value.oneCell']) ?_))
    exact bodyPost_ret (v := .tuple #[x.agg, .bool true]) (results_row1 Tryd.results12 _ _ w.heap.size 26 _ _ rfl ((O1.out.row _).ex) Tryd.underlying26 rfl (by kernel_rfl)) rfl (by rw [HV.out]; exact ⟨rfl, below_setRow B1.out (Nat.le_refl _) _⟩)
theorem results_row0 {P : Program} {fn : Func} {p : Tmp} {ty : TypeId} (h : fn.results = #[.cell p ty]) (tmps : Array Value) (w : World) (g : Nat) (t : TypeId) (cs : Array Value) (d : TypeDesc)
    (hp : tmps.getD p undef = .pointer (some ⟨g, 0, none⟩)) (hg : w.heap[g]? = some (.cells cs t (0, 0)))
    (hu : P.underlying ty = some d) (hd : (match d with | .struct _ | .array _ _ => true | _ => false) = true) (hi : (P.info? ty).map (·.size) = some cs.size) :
    (results fn tmps).run P w = .ok (.agg cs) w := by
  have hp' : tmps[p]?.getD undef = .pointer (some ⟨g, 0, none⟩) := by simpa using hp
  simp [results, h, hp', asAddr, run_loadVar_row w g t ty cs (0, 0) d hg hu hd hi]
/-- A head, or none, as the program holds it. -/
abbrev hcs : Option KV → Array Value
  | some x => #[.string x.key, .string x.val, .int .i64 x.cre, .int .i64 x.mod, .int .i64 x.ver, .int .i64 x.lea, .bool true]
  | none => #[.string ⟨#[]⟩, .string ⟨#[]⟩, .int .i64 0, .int .i64 0, .int .i64 0, .int .i64 0, .bool false]
theorem headOf_any (A : Option Addr) (n c : Nat) (l : List KV) (w : World) (h : KVs w A n c l) (hn : n ≤ 100000) :
    Calls Tryd.prog 37 #[.slice A n c] w fun e w' => e = .returned (.agg (hcs (headL l))) ∧ Below w.heap.size w w' := by
  have O0 := Lib.hid (own_new w (hcs none) 63)
  have B0 := Lib.hid (new1 w (.cells (hcs none) 63))
  have c1 := head_any A n c l _ (h.keep B0.out) hn
  clear h
  cases ho : headL l with
  | none =>
    rw [ho] at c1
    clear ho
    go_enter Tryd.func37, Tryd.ntmps37
    go_wp2_with fail
    refine c1.mono ?_; rintro e w1 hf
    obtain ⟨rfl, hb⟩ := hf.none_
    have O1 := Lib.hid ((O0.out.below hb).alloc (.cells zKV 26))
    have B1 := Lib.hid (then_ (then_ B0.out hb) (new1 w1 (.cells zKV 26)))
    clear hf hb c1
    go_wp2_with (first | (refine wpList_store_row rfl 63 _ _ rfl _ _ rfl rfl 63 _ O1.out.ex (by kernel_rfl) rfl (by simp [Value.oneCell']) ?_))
    exact bodyPost_ret (v := .agg (hcs none)) (results_row0 Tryd.results37 _ _ w.heap.size 63 _ _ rfl ((O1.out.row _).ex) Tryd.underlying63 rfl (by kernel_rfl)) rfl ⟨rfl, below_setRow B1.out (Nat.le_refl _) _⟩
  | some x =>
    rw [ho] at c1
    clear ho
    go_enter Tryd.func37, Tryd.ntmps37
    go_wp2_with fail
    refine c1.mono ?_; rintro e w1 hf
    obtain ⟨rfl, hb⟩ := hf.some_
    have O1 := Lib.hid ((O0.out.below hb).alloc (x.obj 26))
    have B1 := Lib.hid (then_ (then_ B0.out hb) (new1 w1 (x.obj 26)))
    clear hf hb c1
    go_wp2_with (first | (refine wpList_store_row rfl 63 _ _ rfl _ _ rfl rfl 63 _ O1.out.ex (by kernel_rfl) rfl (by simp [Value.oneCell']) ?_))
    exact bodyPost_ret (v := .agg (hcs (some x))) (results_row0 Tryd.results37 _ _ w.heap.size 63 _ _ rfl ((O1.out.row _).ex) Tryd.underlying63 rfl (by kernel_rfl)) rfl ⟨rfl, below_setRow B1.out (Nat.le_refl _) _⟩
end Go.Proofs.YtjjngablalnbeaaDoor.P
/- Events cut off by the first one's revision. GENERATED by wip/gen/elcut.py. -/
namespace Go.Proofs.YtjjngablalnbeaaDoor.P
open Go.RowKit Go.Sort
set_option maxHeartbeats 2000000
set_option linter.unusedVariables false
set_option linter.unusedSimpArgs false
set_option maxRecDepth 100000

/-- A list of events cut behind the first one's revision. -/
def CutEnd (b : Addr) (m d : Nat) (es : List Ev) (w : World) (e : Ending) (w' : World) : Prop :=
  e = .returned (.tuple #[.slice (some b) (runL es) d, .slice (if d = runL es then some b else some (b.add (runL es * 8))) (m - runL es) (d - runL es)]) ∧ Below w.heap.size w w'
/-- How far it has come. -/
structure CutTo (es : List Ev) (r : Int) (j : Nat) : Prop where
  all : ∀ i x, i < j → es[i]? = some x → x.rev = r
theorem CutTo.next {es : List Ev} {r : Int} {j : Nat} {x : Ev} (h : CutTo es r j) (hx : es[j]? = some x) (hr : x.rev = r) : CutTo es r (j + 1) := ⟨fun i y hi hy => by
  by_cases e : i = j
  · subst e; rw [hx] at hy; obtain rfl := Option.some.inj hy; exact hr
  · exact h.all i y (by omega) hy⟩
theorem cut_any (b : Addr) (m d : Nat) (es : List Ev) (w : World) (g : Evs w (some b) m d es) (hm : 0 < m) (hm2 : m ≤ 100000) :
    Calls Tryd.prog 38 #[.slice (some b) m d] w (CutEnd b m d es w) := by
  have G := Lib.hid g
  obtain ⟨b0, e0, eb, hbl0, he0, _, hc0⟩ := g.at_ hm
  obtain rfl := Option.some.inj eb
  rw [Nat.zero_mul, Addr.add_zero'] at hc0
  have A0 := Lib.hid hc0
  have E0 := Lib.hid he0
  have GL := Lib.hid g.len
  have hm0 : (0 : Int) < m := by omega
  clear g hc0 eb he0
  go_enter Tryd.func38, Tryd.ntmps38
  go_wp2
  refine wp_scope_jumps 0 (fun a' w' => ∃ (j : Nat) (u5 u6 u7 u8 u9 u10 u11 u12 u13 u14 u15 u16 u17 u18 u19 u20 u21 u22 : Value), a' = { tmps := #[.slice (some b) m d, undef, .slice none 0 0, .slice none 0 0, .int .i64 j, u5, u6, u7, u8, u9, u10, u11, u12, u13, u14, u15, u16, u17, u18, u19, u20, u21, u22, undef, undef, undef, undef, undef, undef], defers := [] } ∧ 0 < j ∧ j ≤ m ∧ CutTo es e0.rev j ∧ Below w.heap.size w w') (fun a' _ => m - (intOf (a'.tmps.getD 4 undef)).toNat) rfl ?_ ?_
  · go_wp2
    go_step3
    have r0 := fun d os => cell_regrown A0.out.c0 d os
    have hee : (e0.rev == e0.rev) = true := by simp
    have hd0 : decide (0 < m) = true := decide_eq_true hm
    have hd1 : decide ((0 : Int) < (m : Int)) = true := decide_eq_true hm0
    go_wp2
    refine wp_region_quiet_below (by kernel_rfl) (by kernel_rfl) ?_
    repeat (go_big_quiet_step (fail))
    refine wpQuiet_nil ?_
    intro v1 hw'
    have hb' : Below w.heap.size w v1 := by
      obtain ⟨⟨d', os⟩, rfl⟩ := hw'
      exact below_grow (Below.refl _ _) (Nat.le_refl _) _ _
    have BV := Lib.hid hb'
    clear hw' hb'
    go_wp2
    go_step3
    refine ⟨rfl, 1, _, _, _, _, _, _, _, _, _, _, _, _, _, _, _, _, _, _, rfl, by omega, by omega, ⟨fun i x hi hx => ?_⟩, BV.out⟩
    obtain rfl : i = 0 := by omega
    rw [E0.out] at hx
    obtain rfl := Option.some.inj hx
    rfl
  · rintro a' wr ⟨j, u5, u6, u7, u8, u9, u10, u11, u12, u13, u14, u15, u16, u17, u18, u19, u20, u21, u22, rfl, hj0, hjm, hct, hbr⟩
    have CT := Lib.hid hct
    have BR := Lib.hid hbr
    clear hct hbr
    by_cases hlt : j < m
    · obtain ⟨b1, x, eb, hbl, hx, hok, hc⟩ := (G.out.keep BR.out).at_ hlt
      obtain rfl := Option.some.inj eb
      have A0r : At8 wr b e0 := A0.out.keep BR.out hbl0
      have r0 := fun d os => cell_regrown A0r.c0 d os
      have rx := fun d os => cell_regrown hc.c0 d os
      have HX := Lib.hid hx
      have hlt1 : (j : Int) < m := by omega
      have hd0 : decide (j < m) = true := decide_eq_true hlt
      have hd1 : decide ((j : Int) < (m : Int)) = true := decide_eq_true hlt1
      clear eb hx hok hc A0r
      by_cases hr : x.rev = e0.rev
      · have hrb : (x.rev == e0.rev) = true := by simp [hr]
        have CN := Lib.hid (CT.out.next HX.out hr)
        clear hr
        go_wp2
        refine wp_region_quiet_below (by kernel_rfl) (by kernel_rfl) ?_
        repeat (go_big_quiet_step (fail))
        refine wpQuiet_nil ?_
        intro v1 hw'
        have hb' : Below wr.heap.size wr v1 := by
          obtain ⟨⟨d', os⟩, rfl⟩ := hw'
          exact below_grow (Below.refl _ _) (Nat.le_refl _) _ _
        have BV := Lib.hid hb'
        clear hw' hb'
        go_wp2
        go_step3
        refine ⟨rfl, ⟨j + 1, _, _, _, _, _, _, _, _, _, _, _, _, _, _, _, _, _, _, by go_num, by omega, by omega, CN.out, then_ BR.out BV.out⟩, by simp [intOf]; omega⟩
      · have hrb : (x.rev == e0.rev) = false := by simp [hr]
        have HR : Hid (j = runL es) := Lib.hid (runL_is es e0 j E0.out hj0 (by rw [GL.out]; exact hjm) (fun i y hi hy => CT.out.all i y hi hy) (fun y hy => by rw [HX.out] at hy; obtain rfl := Option.some.inj hy; exact hr))
        clear hr
        go_wp2
        refine wp_region_quiet_below (by kernel_rfl) (by kernel_rfl) ?_
        repeat (go_big_quiet_step (fail))
        refine wpQuiet_nil ?_
        intro v1 hw'
        have hb' : Below wr.heap.size wr v1 := by
          obtain ⟨⟨d', os⟩, rfl⟩ := hw'
          exact below_grow (Below.refl _ _) (Nat.le_refl _) _ _
        have BV := Lib.hid hb'
        clear hw' hb'
        go_wp2
        have hrm : j ≤ m := by omega
        have hrd : j ≤ d := Nat.le_trans hrm G.out.le
        have hrd1 : ((j : Nat) : Int) ≤ (d : Int) := by omega
        have hrm1 : ((j : Nat) : Int) ≤ (m : Int) := by omega
        have hmd1 : (m : Int) ≤ (d : Int) := by have := G.out.le; omega
        have hmd2 : m ≤ d := G.out.le
        have hdj : ¬ d = j := by omega
        · have HDJ := Lib.hid hdj
          refine wp_region_quiet_below (by kernel_rfl) (by kernel_rfl) ?_
          repeat (go_big_quiet_step (fail))
          refine wpQuiet_nil ?_
          intro v2 hw'
          have hb' : Below v1.heap.size v1 v2 := by
            obtain ⟨⟨d', os⟩, rfl⟩ := hw'
            exact below_grow (Below.refl _ _) (Nat.le_refl _) _ _
          have BZ := Lib.hid (then_ (then_ BR.out BV.out) hb')
          clear hw' hb'
          go_wp2
          simp only [Exit.jump]
          refine bodyPost_ret (v := .tuple #[.slice (some b) j d, .slice (some (b.add (j * 8))) (m - j) (d - j)]) (by simp [results, Tryd.results38, go_sem]) rfl ⟨?_, BZ.out⟩
          rw [← HR.out]
          rw [if_neg HDJ.out]
          try simp
    · obtain rfl : j = m := by omega
      have HR : Hid (j = runL es) := Lib.hid (runL_is es e0 j E0.out hj0 (by rw [GL.out]; exact hjm) (fun i y hi hy => CT.out.all i y hi hy) (fun y hy => by rw [List.getElem?_eq_none (by rw [GL.out]; exact Nat.le_refl _)] at hy; cases hy))
      have hd0 : decide (j < j) = false := by simp
      have hd1 : decide ((j : Int) < (j : Int)) = false := by simp
      go_wp2
      refine wp_region_quiet_below (by kernel_rfl) (by kernel_rfl) ?_
      repeat (go_big_quiet_step (fail))
      refine wpQuiet_nil ?_
      intro v1 hw'
      have hb' : Below wr.heap.size wr v1 := by
        obtain ⟨⟨d', os⟩, rfl⟩ := hw'
        exact below_grow (Below.refl _ _) (Nat.le_refl _) _ _
      have BV := Lib.hid hb'
      clear hw' hb'
      go_wp2
      have hrm : j ≤ j := by omega
      have hrd : j ≤ d := Nat.le_trans hrm G.out.le
      have hrd1 : ((j : Nat) : Int) ≤ (d : Int) := by omega
      have hrm1 : ((j : Nat) : Int) ≤ (j : Int) := by omega
      have hmd1 : (j : Int) ≤ (d : Int) := by have := G.out.le; omega
      have hmd2 : j ≤ d := G.out.le
      by_cases hdj : d = j
      · subst hdj
        refine wp_region_quiet_below (by kernel_rfl) (by kernel_rfl) ?_
        repeat (go_big_quiet_step (fail))
        refine wpQuiet_nil ?_
        intro v2 hw'
        have hb' : Below v1.heap.size v1 v2 := by
          obtain ⟨⟨d', os⟩, rfl⟩ := hw'
          exact below_grow (Below.refl _ _) (Nat.le_refl _) _ _
        have BZ := Lib.hid (then_ (then_ BR.out BV.out) hb')
        clear hw' hb'
        go_wp2
        simp only [Exit.jump]
        refine bodyPost_ret (v := .tuple #[.slice (some b) d d, .slice (some b) (0) 0]) (by simp [results, Tryd.results38, go_sem]) rfl ⟨?_, BZ.out⟩
        rw [← HR.out]
        simp
      · have HDJ := Lib.hid hdj
        refine wp_region_quiet_below (by kernel_rfl) (by kernel_rfl) ?_
        repeat (go_big_quiet_step (fail))
        refine wpQuiet_nil ?_
        intro v2 hw'
        have hb' : Below v1.heap.size v1 v2 := by
          obtain ⟨⟨d', os⟩, rfl⟩ := hw'
          exact below_grow (Below.refl _ _) (Nat.le_refl _) _ _
        have BZ := Lib.hid (then_ (then_ BR.out BV.out) hb')
        clear hw' hb'
        go_wp2
        simp only [Exit.jump]
        refine bodyPost_ret (v := .tuple #[.slice (some b) j d, .slice (some (b.add (j * 8))) (0) (d - j)]) (by simp [results, Tryd.results38, go_sem]) rfl ⟨?_, BZ.out⟩
        rw [← HR.out]
        rw [if_neg HDJ.out]
        try simp
end Go.Proofs.YtjjngablalnbeaaDoor.P
/- What becomes of a list by events: watch's way, and the document's. -/
namespace Go.Proofs.YtjjngablalnbeaaDoor.P
open Go.RowKit Go.Sort
set_option maxHeartbeats 2000000
set_option linter.unusedVariables false
set_option linter.unusedSimpArgs false
set_option maxRecDepth 100000

theorem view_any (A : Option Addr) (n c : Nat) (l : List KV) (B : Option Addr) (m d : Nat) (es : List Ev) (w : World) (h : KVs w A n c l) (g : Evs w B m d es) (hn : n + m ≤ 900000) :
    Calls Tryd.prog 39 #[.slice A n c, .slice B m d] w (SomeKVs w (viewL l es)) := by
  have c1 := fold_any A n c l B m d es 9223372036854775807 w h g hn
  rw [view_fold l es _ (fun e he => by have := (g.ok e he).rev.2; omega)] at c1
  clear h g
  go_enter Tryd.func39, Tryd.ntmps39
  go_wp2_with fail
  refine c1.mono ?_; rintro e w1 ⟨A', n', c', rfl, hk, hb⟩
  have K := Lib.hid hk
  have B1 := Lib.hid hb
  clear hk hb c1
  go_wp2
  go_ret
  exact ⟨A', n', c', rfl, K.out, B1.out⟩
theorem view_fresh (A : Option Addr) (n c : Nat) (l : List KV) (B : Option Addr) (m d : Nat) (es : List Ev) (w : World) (h : KVs w A n c l) (g : Evs w B m d es) (hn : n + m ≤ 900000) :
    Calls Tryd.prog 39 #[.slice A n c, .slice B m d] w (FreshKVs w (viewL l es)) := by
  have c1 := fold_fresh A n c l B m d es 9223372036854775807 w h g hn
  rw [view_fold l es _ (fun e he => by have := (g.ok e he).rev.2; omega)] at c1
  clear h g
  go_enter Tryd.func39, Tryd.ntmps39
  go_wp2_with fail
  refine c1.mono ?_; rintro e w1 ⟨A', n', c', rfl, hk, hb, hf⟩
  have K := Lib.hid hk
  have B1 := Lib.hid hb
  have F1 := Lib.hid hf
  clear hk hb c1 hf
  go_wp2
  go_ret
  exact ⟨A', n', c', rfl, K.out, B1.out, F1.out⟩
/-- What becomes of a list, and that it is new where there was an event. -/
def ViewEnd (m : Nat) (w : World) (l : List KV) (e : Ending) (w' : World) : Prop := ∃ A n c, e = .returned (.slice A n c) ∧ KVs w' A n c l ∧ Below w.heap.size w w' ∧ (0 < m → ∀ a, A = some a → w.heap.size ≤ a.block)
theorem viewr_end (A : Option Addr) (n c : Nat) (l : List KV) (B : Option Addr) (m d : Nat) (es : List Ev) (w : World) (h : KVs w A n c l) (g : Evs w B m d es) (hn : n + m ≤ 900000) :
    Calls Tryd.prog 40 #[.slice A n c, .slice B m d] w (ViewEnd m w (viewL l es)) := by
  have H := Lib.hid h
  have G := Lib.hid g
  have HL := Lib.hid h.len
  have GL := Lib.hid g.len
  clear h g
  go_enter Tryd.func40, Tryd.ntmps40
  go_wp2
  go_loopw [0, 5] (fun v i wr => ∃ (j : Nat) (A' : Option Addr) (k' c' : Nat), j ≤ m ∧ i = .int .i64 j ∧ v = .slice A' k' c' ∧ KVs wr A' k' c' (viewL l (es.take j)) ∧ Below w.heap.size w wr ∧ (0 < j → ∀ a, A' = some a → w.heap.size ≤ a.block)) (fun _ i _ => m - (intOf i).toNat)
  case atStart => exact ⟨0, A, n, c, Nat.zero_le _, rfl, rfl, H.out, Below.refl _ _, fun h => by omega⟩
  case round =>
    rename World => wr
    obtain ⟨j, A', k', c', hj, rfl, rfl, hk, hb, hfr⟩ := hrel
    have K := Lib.hid hk
    have HB := Lib.hid hb
    have HKL := Lib.hid hk.len
    have FR := Lib.hid hfr
    clear hfr
    clear hk hb
    by_cases hlt : j < m
    · obtain ⟨b, e, rfl, hbl, hx, hok, hc⟩ := (G.out.keep HB.out).at_ hlt
      obtain ⟨c0, c1, c2, c3, c4, c5, c6, c7⟩ := hc
      have HN := Lib.hid (view_next l es j e hx)
      have hlt1 : (j : Int) < m := by omega
      have hlen : k' ≤ 1000000 := by
        have h1 := view_len l (es.take j)
        rw [HKL.out, HL.out, List.length_take, GL.out] at h1
        omega
      have EOK := Lib.hid hok.kv
      generalize viewL l (es.take j) = o at *
      clear hx hok
      cases hg : e.gone with
      | true =>
        have HS : Hid (evL o e = takeL o e.kv.key) := Lib.hid (by unfold evL; rw [if_pos hg])
        rw [hg] at c1
        have ct := take_reff A' k' c' o e.kv.key wr K.out hlen
        clear hg
        go_wp2_with fail
        refine ct.mono ?_; rintro e' w2 ⟨A2, n2, c2', rfl, hk, hb, hf⟩
        have K2 := Lib.hid hk
        have B2 := Lib.hid (then_ HB.out hb)
        have F2 := Lib.hid (show (0 < j + 1 → ∀ a, A2 = some a → w.heap.size ≤ a.block) from fun _ a ha => Nat.le_trans HB.out.size (hf a ha))
        clear hk hb ct hf
        go_wp2
        go_roundw
        case rel => exact ⟨j + 1, A2, n2, c2', by omega, by go_num, rfl, by rw [HN.out, HS.out]; exact K2.out, B2.out, F2.out⟩
        case measure => simp [intOf]; omega
      | false =>
        have HS : Hid (evL o e = layL o e.kv) := Lib.hid (by unfold evL; rw [if_neg (by simp [hg])])
        rw [hg] at c1
        have ct := lay_reff A' k' c' o e.kv wr K.out EOK.out hlen
        clear hg
        go_wp2_with fail
        refine ct.mono ?_; rintro e' w2 ⟨A2, n2, c2', rfl, hk, hb, hf⟩
        have K2 := Lib.hid hk
        have B2 := Lib.hid (then_ HB.out hb)
        have F2 := Lib.hid (show (0 < j + 1 → ∀ a, A2 = some a → w.heap.size ≤ a.block) from fun _ a ha => Nat.le_trans HB.out.size (hf a ha))
        clear hk hb ct hf
        go_wp2
        go_roundw
        case rel => exact ⟨j + 1, A2, n2, c2', by omega, by go_num, rfl, by rw [HN.out, HS.out]; exact K2.out, B2.out, F2.out⟩
        case measure => simp [intOf]; omega
    · obtain rfl : j = m := by omega
      have e : es.take j = es := take_full es j GL.out
      rw [e] at K
      go_wp2
      go_ret
      exact ⟨A', k', c', rfl, K.out, HB.out, FR.out⟩
theorem viewr_any (A : Option Addr) (n c : Nat) (l : List KV) (B : Option Addr) (m d : Nat) (es : List Ev) (w : World) (h : KVs w A n c l) (g : Evs w B m d es) (hn : n + m ≤ 900000) :
    Calls Tryd.prog 40 #[.slice A n c, .slice B m d] w (SomeKVs w (viewL l es)) := (viewr_end A n c l B m d es w h g hn).mono fun _ _ ⟨A', n', c', h1, h2, h3, _⟩ => ⟨A', n', c', h1, h2, h3⟩
theorem viewr_fresh (A : Option Addr) (n c : Nat) (l : List KV) (B : Option Addr) (m d : Nat) (es : List Ev) (w : World) (h : KVs w A n c l) (g : Evs w B m d es) (hn : n + m ≤ 900000) (hm : 0 < m) :
    Calls Tryd.prog 40 #[.slice A n c, .slice B m d] w (FreshKVs w (viewL l es)) := (viewr_end A n c l B m d es w h g hn).mono fun _ _ ⟨A', n', c', h1, h2, h3, h4⟩ => ⟨A', n', c', h1, h2, h3, h4 hm⟩
end Go.Proofs.YtjjngablalnbeaaDoor.P
/- Terms: the program's way, and the document's. -/
namespace Go.Proofs.YtjjngablalnbeaaDoor.P
open Go.RowKit Go.Sort
set_option maxHeartbeats 2000000
set_option linter.unusedVariables false
set_option linter.unusedSimpArgs false
set_option maxRecDepth 100000

theorem lies_int {w : World} {p : Addr} {x : Int} (h : Lies intC w p x) : w.cell? p = some (.int .i64 x) := h 0 _ rfl
def cresL (l : List KV) : List Int := l.map KV.cre
def SomeIs (w : World) (T : List Int) (e : Ending) (w' : World) : Prop := ∃ A c, e = .returned (.slice A T.length c) ∧ Is w' A T.length c T ∧ Below w.heap.size w w'
/-- The row of numbers, half filled. -/
def fillI (l : List KV) (n j : Nat) : List Int := (l.take j).map KV.cre ++ List.replicate (n - j) 0
theorem fillI_len (l : List KV) (n j : Nat) (hl : l.length = n) (hj : j ≤ n) : (fillI l n j).length = n := by
  unfold fillI
  rw [List.length_append, List.length_map, List.length_take, List.length_replicate, hl]
  omega
theorem fillI_next (l : List KV) (n j : Nat) (x : KV) (hl : l.length = n) (hj : j < n) (hx : l[j]? = some x) : (fillI l n j).set j x.cre = fillI l n (j + 1) := by
  unfold fillI
  have h1 : ((l.take j).map KV.cre).length = j := by rw [List.length_map, List.length_take, hl]; omega
  rw [List.set_append_right _ _ (by omega), h1, Nat.sub_self, show n - j = (n - (j + 1)) + 1 by omega, List.replicate_succ]
  rw [take_succ l j x hx, List.map_append]
  simp
theorem fillI_all (l : List KV) (n : Nat) (hl : l.length = n) : fillI l n n = cresL l := by
  unfold fillI cresL
  rw [List.take_of_length_le (by omega), Nat.sub_self]
  simp
theorem own_made {w : World} {base g n : Nat} {e : TypeId} {xs : List Value} (h : w.ownsRow base e 1 (.slice (some ⟨g, 0, none⟩) n n) n xs) : Own w g e xs.toArray := by
  rcases h.2 with ⟨hv, _⟩ | ⟨g', cap, cur, hv, hb, hg, hnc, hcm, hcs, ht⟩
  · cases hv
  · injection hv with e1 e2 e3
    injection e1 with e1
    injection e1 with e1
    subst e1 e3
    have : cur.toList = xs := by rw [← ht, List.take_of_length_le (by rw [Array.length_toList, hcs]; exact Nat.le_refl _)]
    rw [← this]
    exact ⟨hg⟩
theorem terms_any (A : Option Addr) (n c : Nat) (l : List KV) (w : World) (h : KVs w A n c l) (hn : n ≤ 100000) :
    Calls Tryd.prog 16 #[.slice A n c] w (SomeIs w (termsL (cresL l))) := by
  obtain ⟨i0, hi0, hz0, hz1, hz2⟩ := info_parts1 int_info
  have H := Lib.hid h
  have HL := Lib.hid h.len
  have hnm : n ≤ maxLen := by unfold maxLen; omega
  have HNM := Lib.hid hnm
  clear h hnm
  go_enter Tryd.func16, Tryd.ntmps16
  go_wp2_with (with_reducible refine wpList_make_full _ rfl _ _ 32 rfl w.heap.size 3 i0 _ 1 Tryd.underlying32 hi0 hz0 hz1 .i64 .i64 _ _ n rfl rfl rfl rfl (by rw [hz2]; omega) (by unfold maxLen; omega) (Nat.le_refl _) ?_; intro w1 hown hgrow)
  have O_0 : Hid (Own w1 w.heap.size 3 (arrI (fillI l n 0))) := Lib.hid (by
    have h1 := own_made hown
    have e : arrI (fillI l n 0) = madeCells #[zeroIntV] n := by
      apply Array.toList_inj.1
      rw [toList_madeCells_one]
      simp [arrI, fillI]
    rw [e]
    simpa [Value.cells] using h1)
  have B_0 := Lib.hid ((Below.refl w.heap.size w).grown hgrow (Nat.le_refl _) (by simp))
  clear hown hgrow
  go_wp2
  go_loopw [11] (fun i wr => ∃ k : Nat, k ≤ n ∧ i = .int .i64 k ∧ Own wr w.heap.size 3 (arrI (fillI l n k)) ∧ Below w.heap.size w wr) (fun i _ => n - (intOf i).toNat)
  case atStart => exact ⟨0, Nat.zero_le _, rfl, O_0.out, B_0.out⟩
  case round =>
    clear O_0 B_0
    rename World => wr
    obtain ⟨k, hk, rfl, hO, hB⟩ := hrel
    have O := Lib.hid hO; have B := Lib.hid hB
    clear hO hB
    by_cases hlt : k < n
    · obtain ⟨a, x, rfl, hbl, hx, hok, hc⟩ := (H.out.keep B.out).at_ hlt
      obtain ⟨c0, c1, c2, c3, c4, c5⟩ := hc
      have NB := Lib.hid (new1 wr (x.obj 26))
      have O2 := O.out.alloc (x.obj 26)
      obtain ⟨z, hz⟩ : ∃ z, (fillI l n k)[k]? = some z := ⟨_, List.getElem?_eq_getElem (by rw [fillI_len l n k HL.out hk]; exact hlt)⟩
      have cz := own_int O2 k z hz
      have fz := O2.frozen k
      have O3 : Hid (Own ((wr.alloc (x.obj 26)).setCell ⟨w.heap.size, k, none⟩ (.int .i64 x.cre)) w.heap.size 3 (arrI (fillI l n (k + 1)))) := Lib.hid (by rw [← fillI_next l n k x HL.out hlt hx, ← arrI_set]; exact O2.set k _)
      have B3 := Lib.hid ((B.out.trans (NB.out.mono B.out.size)).setCell (p := ⟨w.heap.size, k, none⟩) (Nat.le_refl _) (.int .i64 x.cre))
      have hgl : ¬ wr.heap.size = w.heap.size := by have := O.out.lt; omega
      have hlt1 : (k : Int) < n := by omega
      clear hx hok O2 hz
      go_wp2
      go_roundw
      case rel => exact ⟨k + 1, by omega, by go_num, O3.out, B3.out⟩
      case measure => simp [intOf]; omega
    · obtain rfl : k = n := by omega
      have O4 := O.out
      rw [fillI_all l k HL.out] at O4
      have hcl : (cresL l).length = k := by unfold cresL; rw [List.length_map]; exact HL.out
      have cc := compact_any w.heap.size k (cresL l) wr O4 hcl hn
      have hwl := O.out.lt
      clear O4
      go_wp2_with fail
      refine cc.mono ?_; rintro e w2 ⟨rfl, his, hg⟩
      have I2 := Lib.hid his
      have B2 := Lib.hid (B.out.grown hg B.out.size (fun k e => by cases e; omega))
      clear his hg cc
      go_wp2
      go_ret
      exact ⟨_, _, rfl, I2.out, B2.out⟩
theorem termsr_any (A : Option Addr) (n c : Nat) (l : List KV) (w : World) (h : KVs w A n c l) (hn : n ≤ 900) :
    Calls Tryd.prog 17 #[.slice A n c] w (SomeIs w (termsL (cresL l))) := by
  have H := Lib.hid h
  have HL := Lib.hid h.len
  clear h
  have hcl : Hid ((cresL l).length = n) := Lib.hid (by unfold cresL; rw [List.length_map]; exact HL.out)
  have AT : Hid (∀ (j : Nat) (x : KV), l[j]? = some x → (cresL l)[j]? = some x.cre) := Lib.hid (fun j x hx => by unfold cresL; rw [List.getElem?_map, hx]; rfl)
  go_enter Tryd.func17, Tryd.ntmps17
  go_wp2
  go_loopw [3, 4] (fun v i wr => ∃ (j : Nat) (B : Option Addr) (d : Nat), j ≤ n ∧ i = .int .i64 j ∧ v = .slice B (termsTo (cresL l) j).length d ∧ ownG intC 1 3 wr w.heap.size B (termsTo (cresL l) j).length d (termsTo (cresL l) j) ∧ Below w.heap.size w wr) (fun _ i _ => n - (intOf i).toNat)
  case atStart => exact ⟨0, none, 0, Nat.zero_le _, rfl, rfl, ownG_nil _ _ _ _ _, Below.refl _ _⟩
  case round =>
    rename World => wr
    obtain ⟨j, B, d, hj, rfl, rfl, hO, hB⟩ := hrel
    have O := Lib.hid hO
    have BB := Lib.hid hB
    clear hO hB
    have hlen := terms_len (cresL l) j
    by_cases hlt : j < n
    · obtain ⟨a, x, rfl, hbl, hx, hok, hc⟩ := (H.out.keep BB.out).at_ hlt
      have AX := Lib.hid hc
      have HX := Lib.hid (AT.out j x hx)
      have hlt1 : (j : Int) < n := by omega
      have NEW := Lib.hid (terms_new (cresL l) j x.cre HX.out)
      have OLD := Lib.hid (terms_old (cresL l) j x.cre HX.out)
      generalize termsTo (cresL l) j = o at *
      clear hx hok hc
      by_cases hj0 : j = 0
      · subst hj0
        have HT := Lib.hid (NEW.out (by omega))
        have hc := AX.out
        rw [Nat.zero_mul, Addr.add_zero'] at hc
        clear NEW OLD AX
        have AX := Lib.hid hc
        clear hc
        go_wp2
        refine wp_region_quiet_below (by kernel_rfl) (by kernel_rfl) ?_
        repeat (go_big_quiet_step (fail))
        refine wpQuiet_nil ?_
        intro v1 hw'
        have hb' : Below wr.heap.size wr v1 := by
          obtain ⟨⟨d', os⟩, rfl⟩ := hw'
          exact below_grow (Below.refl _ _) (Nat.le_refl _) _ _
        have BV := Lib.hid hb'
        have BW := Lib.hid (BB.out.trans (BV.out.mono BB.out.size))
        obtain ⟨x0, x1, x2, x3, x4, x5⟩ := AX.out.on hb'
        clear hw' hb'
        obtain ⟨B', d', w4, hr4, ho4, hb4⟩ := app_ints w.heap.size B o.length d o v1 x.cre (ownG_keep O.out BV.out) (by omega) BW.out.size
        have O4 := Lib.hid ho4
        have B4 := Lib.hid (BW.out.trans hb4)
        clear ho4 hb4
        go_wp2_with (at_builtin; refine wpList_append_eq _ rfl (.tmp 27) (.tmp 33) _ _ rfl _ _ rfl rfl hr4 ?_)
        go_roundw
        case rel => exact ⟨0 + 1, B', d', by omega, by go_num, by rw [HT.out, List.length_append]; rfl, by rw [HT.out, List.length_append]; exact O4.out, B4.out⟩
        case measure => simp [intOf]; omega
      · obtain ⟨i, hi⟩ : ∃ i, i + 1 = j := ⟨j - 1, by omega⟩
        obtain ⟨a', y, ea, _, hy, _, hcy⟩ := (H.out.keep BB.out).at_ (show i < n by omega)
        obtain rfl := Option.some.inj ea
        have HY := Lib.hid (AT.out i y hy)
        have rx := fun d os => cell_regrown AX.out.c2 d os
        have ry := fun d os => cell_regrown hcy.c2 d os
        have hji : (j : Int) - 1 = (i : Int) := by omega
        have hin : (i : Int) < n := by omega
        have hz1 : ((j : Int) == 0) = false := by simp; omega
        have hji0 : j - 1 = i := by omega
        have HJI := Lib.hid hji0
        clear hj0 ea hy hcy hi hji0
        by_cases hxy : y.cre = x.cre
        · have hb : (y.cre != x.cre) = false := by simp [hxy]
          have HT := Lib.hid (OLD.out ⟨by omega, by rw [HJI.out, HY.out, hxy]⟩)
          clear hxy NEW OLD
          go_wp2
          refine wp_region_quiet_below (by kernel_rfl) (by kernel_rfl) ?_
          repeat (go_big_quiet_step (fail))
          refine wpQuiet_nil ?_
          intro v1 hw'
          have hb' : Below wr.heap.size wr v1 := by
            obtain ⟨⟨d', os⟩, rfl⟩ := hw'
            exact below_grow (Below.refl _ _) (Nat.le_refl _) _ _
          have BV := Lib.hid hb'
          have BW := Lib.hid (BB.out.trans (BV.out.mono BB.out.size))
          obtain ⟨x0, x1, x2, x3, x4, x5⟩ := AX.out.on hb'
          clear hw' hb'
          go_wp2
          go_roundw
          case rel => exact ⟨j + 1, B, d, by omega, by go_num, by rw [HT.out], by rw [HT.out]; exact ownG_keep O.out BV.out, BB.out.trans (BV.out.mono BB.out.size)⟩
          case measure => simp [intOf]; omega
        · have hb : (y.cre != x.cre) = true := by simp [hxy]
          have HT := Lib.hid (NEW.out (fun h => by
            rw [HJI.out, HY.out] at h
            exact hxy (Option.some.inj h.2)))
          clear hxy NEW OLD
          go_wp2
          refine wp_region_quiet_below (by kernel_rfl) (by kernel_rfl) ?_
          repeat (go_big_quiet_step (fail))
          refine wpQuiet_nil ?_
          intro v1 hw'
          have hb' : Below wr.heap.size wr v1 := by
            obtain ⟨⟨d', os⟩, rfl⟩ := hw'
            exact below_grow (Below.refl _ _) (Nat.le_refl _) _ _
          have BV := Lib.hid hb'
          have BW := Lib.hid (BB.out.trans (BV.out.mono BB.out.size))
          obtain ⟨x0, x1, x2, x3, x4, x5⟩ := AX.out.on hb'
          clear hw' hb'
          obtain ⟨B', d', w4, hr4, ho4, hb4⟩ := app_ints w.heap.size B o.length d o v1 x.cre (ownG_keep O.out BV.out) (by omega) BW.out.size
          have O4 := Lib.hid ho4
          have B4 := Lib.hid (BW.out.trans hb4)
          clear ho4 hb4
          go_wp2_with (at_builtin; refine wpList_append_eq _ rfl (.tmp 27) (.tmp 33) _ _ rfl _ _ rfl rfl hr4 ?_)
          go_roundw
          case rel => exact ⟨j + 1, B', d', by omega, by go_num, by rw [HT.out, List.length_append]; rfl, by rw [HT.out, List.length_append]; exact O4.out, B4.out⟩
          case measure => simp [intOf]; omega
    · obtain rfl : j = n := by omega
      have e : termsTo (cresL l) j = termsL (cresL l) := by unfold termsL; rw [hcl.out]
      rw [e] at O
      rw [e]
      go_wp2
      go_ret
      exact ⟨B, d, rfl, ownG_rows intC_len (by omega) O.out, BB.out⟩
theorem ints_same (A B : Option Addr) (n c d : Nat) (l : List Int) (w : World) (h : Is w A n c l) (g : Is w B n d l) (hm : n ≤ 1000000) :
    Calls Tryd.prog 15 #[.slice A n c, .slice B n d] w fun e w' => e = .returned (.bool true) ∧ Below w.heap.size w w' := by
  have H := Lib.hid h
  have G := Lib.hid g
  clear h g
  go_enter Tryd.func15, Tryd.ntmps15
  go_wp2
  go_loopw [5] (fun i wr => ∃ k : Nat, k ≤ n ∧ i = .int .i64 k ∧ Below w.heap.size w wr) (fun i _ => n - (intOf i).toNat)
  case atStart => exact ⟨0, Nat.zero_le _, rfl, Below.refl _ _⟩
  case round =>
    rename World => wr
    obtain ⟨k, hk, rfl, hb⟩ := hrel
    have BB := Lib.hid hb
    clear hb
    by_cases hlt : k < n
    · obtain ⟨a, x, rfl, _, hx, hc⟩ := (H.out.below BB.out).at_ hlt
      obtain ⟨b, y, rfl, _, hy, hd⟩ := (G.out.below BB.out).at_ hlt
      have hc' := lies_int hc
      have hd' := lies_int hd
      obtain rfl : x = y := Option.some.inj (hx.symm.trans hy)
      rw [Nat.mul_one] at hc' hd'
      have hlt1 : (k : Int) < n := by omega
      have hne : (x != x) = false := by simp
      clear hx hy hc hd
      go_wp2
      go_quiet (fail)
      go_wp2
      go_roundw
      case rel => exact ⟨k + 1, by omega, by go_num, below_drewN BB.out _⟩
      case measure => simp [intOf]; omega
    · obtain rfl : k = n := by omega
      go_wp2
      go_ret
      exact ⟨rfl, BB.out⟩
end Go.Proofs.YtjjngablalnbeaaDoor.P
/- Who is seen to lead, by the program. GENERATED by wip/gen/elfollow.py. -/
namespace Go.Proofs.YtjjngablalnbeaaDoor.P
open Go.RowKit Go.Sort
set_option maxHeartbeats 4000000
set_option linter.unusedVariables false
set_option linter.unusedSimpArgs false
set_option maxRecDepth 100000

/-- A whole row loaded where a guard lets it. -/
theorem wpList_load_rowG {P : Program} {ops : Array Oper} {rest : List Oper} {o : Oper} {a : Act} {w : World} {Q : Exit → Act → World → Prop} (ty : TypeId) (x : Operand) (ho : o.op = .load ty x)
    (g : Nat) (hx : a.eval x = .pointer (some ⟨g, 0, none⟩)) (t : TypeId) (cs : Array Value) (fr : Nat × Nat) (d : TypeDesc) (hg : w.heap[g]? = some (.cells cs t fr))
    (hu : P.underlying ty = some d) (hd : (match d with | .struct _ | .array _ _ => true | _ => false) = true) (hi : (P.info? ty).map (·.size) = some cs.size)
    (hw : Region.wanted o (yielded ops a.tmps) = true) (h : wpList P ops Q rest (a.put o.dst (.agg cs)) w) : wpList P ops Q (o :: rest) a w :=
  wpList_step fun K hK => by rw [if_pos hw]; exact wp_load_row ty x ho g hx t cs fr d hg hu hd hi (hK _ _ h)
theorem nite_l (p : Prop) [Decidable p] (w : World) : (if p then Result.ok (Value.bool false) w else Result.ok (Value.bool true) w) = Result.ok (Value.bool (!decide p)) w := by by_cases h : p <;> simp [h]
theorem nite_m (p : Prop) [Decidable p] (q : Bool) (w : World) : (if p then Result.ok (Value.bool (!q)) w else Result.ok (Value.bool true) w) = Result.ok (Value.bool (!(decide p && q))) w := by by_cases h : p <;> simp [h]
theorem hcs_size (o : Option KV) : (hcs o).size = 7 := by cases o <;> rfl
theorem hcs_same (o p : Option KV) : (hcs o).size = (hcs p).size := by rw [hcs_size, hcs_size]
theorem hcs_all (o : Option KV) : (hcs o).all (·.oneCell') = true := by cases o <;> simp [Value.oneCell']
theorem hd_size (o : Option KV) : (Tryd.prog.info? 63).map (·.size) = some (hcs o).size := by rw [hcs_size]; kernel_rfl
theorem KVs.grown {w w' : World} {A : Option Addr} {n c : Nat} {l : List KV} {row : Option Nat} (h : KVs w A n c l) (hg : w.grownBy w' row) (hne : ∀ a, A = some a → some a.block ≠ row) : KVs w' A n c l :=
  ⟨h.len, h.le, h.max, h.ok, fun hn => by
    obtain ⟨a, e, hlt, hx⟩ := h.rd hn
    refine ⟨a, e, Nat.lt_of_lt_of_le hlt hg.size, fun i x hi => ?_⟩
    have key : ∀ o, w'.cell? ⟨a.block, o, none⟩ = w.cell? ⟨a.block, o, none⟩ := fun o => World.cell?_of_block (a := ⟨a.block, o, none⟩) (hg.block _ hlt (hne a e))
    have h6 := hx i x hi
    have hb : (a.add (i * 6)).block = a.block := block_add a (i * 6)
    have k0 : w'.cell? (a.add (i * 6)) = w.cell? (a.add (i * 6)) := World.cell?_of_block (a := a.add (i * 6)) (by rw [hb]; exact hg.block _ hlt (hne a e))
    exact ⟨k0.trans h6.c0, by rw [hb]; exact (key _).trans (by rw [← hb]; exact h6.c1), by rw [hb]; exact (key _).trans (by rw [← hb]; exact h6.c2), by rw [hb]; exact (key _).trans (by rw [← hb]; exact h6.c3),
      by rw [hb]; exact (key _).trans (by rw [← hb]; exact h6.c4), by rw [hb]; exact (key _).trans (by rw [← hb]; exact h6.c5)⟩, h.nil⟩
/-- Is a head another one than it was? -/
def neB : Option KV → KV → Bool
  | none, _ => true
  | some y, x => !kvEq x y
theorem neq_hd (x : KV) (o : Option KV) (w : World) : (binOp .neq 63 (.agg (hcs (some x))) (.agg (hcs o))).run Tryd.prog w = .ok (.bool (neB o x)) w := by
  cases o with
  | none => simp [go_sem, Tryd.underlying63, Tryd.underlying26, neB]
  | some y =>
    simp [go_sem, Tryd.underlying63, Tryd.underlying26]
    rw [nite_l, nite_m, nite_m, nite_m, nite_m, nite_m]
    rfl
theorem newB_yes (o : Option KV) (x : KV) (h : neB o x = true) : newB o (some x) = [x] := by
  cases o with
  | none => rfl
  | some y => unfold neB at h; unfold newB; simp only; rw [if_neg (by simpa using h)]
theorem newB_no (o : Option KV) (x : KV) (h : neB o x = false) : newB o (some x) = [] := by
  cases o with
  | none => cases h
  | some y => unfold neB at h; unfold newB; simp only; rw [if_pos (by simpa using h)]
def lenV : Value → Nat
  | .slice _ n _ => n
  | _ => 0
theorem own_grown' {w w' : World} {g : Nat} {t : TypeId} {cs : Array Value} {row : Option Nat} (h : Own w g t cs) (hg : w.grownBy w' row) (hne : ∀ k, row = some k → g ≠ k) : Own w' g t cs :=
  ⟨(hg.block g h.lt (fun e => hne g e.symm rfl)).trans h.ex⟩
theorem own_ne' {w : World} {base n q g : Nat} {e : TypeId} {v : Value} {xs : List Value} (h : w.ownsRow base e q v n xs) (hg : g < base) : v.ownBlock = none ∨ v.ownBlock ≠ some g := by
  rcases hv : v.ownBlock with _ | y
  · exact .inl rfl
  · right; intro hh; have := (h.lt y hv).1; injection hh with hh; omega
/-- How it ends: the list, and who was seen. -/
def FolEnd (w : World) (l : List KV) (es : List Ev) (e : Ending) (w' : World) : Prop := ∃ A n c B d, e = .returned (.tuple #[.slice A n c, .slice B (seen l es).length d]) ∧ KVs w' A n c (viewL l es) ∧ RowsOf KV.cells 6 w' B (seen l es).length d (seen l es) ∧ Below w.heap.size w w'
theorem follow_any (A : Option Addr) (n c : Nat) (l : List KV) (B : Option Addr) (m d : Nat) (es : List Ev) (w : World) (h : KVs w A n c l) (g : Evs w B m d es) (hn : n ≤ 1000) (hm : m ≤ 1000) :
    Calls Tryd.prog 19 #[.slice A n c, .slice B m d] w (FolEnd w l es) := by
  have H := Lib.hid h
  have G := Lib.hid g
  have HL := Lib.hid h.len
  have GL := Lib.hid g.len
  have HOK := Lib.hid h.ok
  have GOK := Lib.hid g.ok
  have GB : ∀ a, B = some a → 0 < m → a.block < w.heap.size := fun a ha h0 => by
    obtain ⟨a', e, hlt, _⟩ := g.rd h0
    rw [ha] at e; injection e with e; subst e; exact hlt
  have cc := clone_any A n c l w h (by omega)
  clear h g
  go_enter Tryd.func19, Tryd.ntmps19
  go_wp2_with fail
  refine cc.mono ?_; rintro e w1 ⟨A1, c1, rfl, ho1, hb1⟩
  have hl1 : l.length = n := HL.out
  rw [hl1] at ho1 ⊢
  have KA := Lib.hid (own_kvs ho1 HOK.out)
  have B1 := Lib.hid hb1
  have FA : ∀ a, A1 = some a → w.heap.size ≤ a.block ∧ a.block < w1.heap.size := fun a ha => by
    subst ha
    exact ho1.lt a.block rfl
  clear ho1 hb1 cc hl1
  go_upto_region 3 with fail
  go_cut [7] (fun p wx => ∃ b7 : Nat, p = .pointer (some ⟨b7, 0, none⟩) ∧ Own wx b7 63 (hcs (headL l)) ∧ KVs wx A1 n c1 l ∧ Below w.heap.size w wx ∧ w.heap.size ≤ b7 ∧ (∀ a, A1 = some a → a.block ≠ b7) ∧ b7 + 1 ≤ wx.heap.size)
  case first =>
    have ch := headOf_any A1 n c1 l w1 KA.out (by omega)
    go_wp2_with fail
    refine ch.mono ?_; rintro e w2 ⟨rfl, hb2⟩
    have N8 := Lib.hid (own_new w2 (hcs none) 63)
    have bz := below_setRow (new1 w2 (.cells (hcs none) 63)) (Nat.le_refl _) (hcs (headL l))
    have O3 := Lib.hid (N8.out.row (hcs (headL l)))
    have K3 := Lib.hid ((KA.out.keep hb2).keep bz)
    have B3 := Lib.hid (then_ (then_ B1.out hb2) bz)
    have F3 := Lib.hid (show (∀ a, A1 = some a → a.block ≠ w2.heap.size) from fun a ha => by have := (FA a ha).2; have := hb2.size; omega)
    have G3 := Lib.hid (show w.heap.size ≤ w2.heap.size from (then_ B1.out hb2).size)
    clear hb2 ch bz
    go_wp2_with (first | (refine wpList_store_row rfl 63 _ _ rfl _ _ rfl rfl 63 _ N8.out.ex (hd_size _) (hcs_same _ _) (hcs_all _) ?_))
    go_meet
    exact ⟨w2.heap.size, rfl, O3.out, K3.out, B3.out, G3.out, F3.out, O3.out.lt⟩
  case rest =>
    obtain ⟨b7, rfl, hO, hK, hB, hwb, hF, hZ⟩ := hcut
    have O3 := Lib.hid hO; have K3 := Lib.hid hK; have B3 := Lib.hid hB; have HB7 := Lib.hid hwb; have F3 := Lib.hid hF; have Z3 := Lib.hid hZ
    clear hO hK hB hwb hF hZ KA B1 FA
    go_wp2
    go_loopw [0, 1, 6] (fun v ev hv wr => ∃ (i : Nat) (A' : Option Addr) (n' c' : Nat) (l' : List KV) (B' : Option Addr) (d' : Nat) (H : Option Addr) (dH : Nat) (out : List KV), v = .slice A' n' c' ∧ KVs wr A' n' c' l' ∧ ev = .slice B' (m - i) d' ∧ Evs w B' (m - i) d' (es.drop i) ∧ i ≤ m ∧ n' ≤ n + i ∧ (∀ a, A' = some a → a.block ≠ b7) ∧ (∀ a, B' = some a → 0 < m → a.block < w.heap.size) ∧ hv = .slice H out.length dH ∧ ownG KV.cells 6 26 wr (b7 + 1) H out.length dH out ∧ Own wr b7 63 (hcs (headL l')) ∧ Hid (out ++ seen l' (es.drop i) = seen l es) ∧ Hid (viewL l' (es.drop i) = viewL l es) ∧ out.length ≤ i ∧ Below w.heap.size w wr ∧ b7 + 1 ≤ wr.heap.size) (fun _ ev _ _ => lenV ev)
    case atStart => exact ⟨0, A1, n, c1, l, B, d, none, 0, [], rfl, K3.out, rfl, G.out, Nat.zero_le _, by omega, F3.out, GB, rfl, ownG_nil _ _ _ _ _, O3.out, rfl, rfl, Nat.zero_le _, B3.out, Z3.out⟩
    case round =>
      clear O3 K3 B3 F3 Z3
      rename World => wr
      obtain ⟨i, A', n', c', l', B', d', H, dH, out, rfl, hK, rfl, hE, him, hn', hKF, hBF, rfl, hU, hO, HS, HV, hol, hB, hZ⟩ := hrel
      have K := Lib.hid hK; have E := Lib.hid hE; have U := Lib.hid hU; have O := Lib.hid hO; have BB := Lib.hid hB; have Z := Lib.hid hZ; have HKF0 := Lib.hid hKF; have HBF0 := Lib.hid hBF
      clear hK hE hU hO hB hZ hKF hBF
      by_cases hlt : i < m
      · have hm1 : 0 < m - i := by omega
        have hm2 : (0 : Int) < ((m - i : Nat) : Int) := by omega
        have hm3 : decide (0 < m - i) = true := decide_eq_true hm1
        obtain ⟨b, e0, rfl, hbl, he0, hok0, _⟩ := E.out.at_ hm1
        have HNE := Lib.hid (show es.drop i ≠ [] from fun h => by rw [h] at he0; simp at he0)
        obtain ⟨r, hr⟩ : ∃ r, r = runL (es.drop i) := ⟨_, rfl⟩
        have hrp : 0 < r := by
          rw [hr]
          cases hd : es.drop i with
          | nil => exact absurd hd HNE.out
          | cons x y => exact runL_pos x y
        have hrm : r ≤ m - i := by rw [hr]; have := runL_le (es.drop i); rw [E.out.len] at this; exact this
        have HRU := Lib.hid hr
        have cu := cut_any b (m - i) d' (es.drop i) wr (E.out.keep BB.out) hm1 (by omega)
        unfold CutEnd at cu
        rw [← hr] at cu
        obtain ⟨B2, hB2⟩ : ∃ B2, B2 = (if d' = r then some b else some (b.add (r * 8))) := ⟨_, rfl⟩
        obtain ⟨d2, hd2⟩ : ∃ d2, d2 = d' - r := ⟨_, rfl⟩
        have E2 := E.out.drop (i := r) hrm
        rw [← hB2, ← hd2, List.drop_drop] at E2
        have E2' : Hid (Evs w B2 (m - (i + r)) d2 (es.drop (i + r))) := Lib.hid (by rw [show m - (i + r) = m - i - r by omega]; exact E2)
        rw [← hB2, ← hd2] at cu
        have HBF := Lib.hid (show (∀ a, B2 = some a → 0 < m → a.block < w.heap.size) from fun a ha _ => by
          rw [hB2] at ha
          split at ha
          · injection ha with ha; subst ha; exact hbl
          · injection ha with ha; subst ha; rw [block_add]; exact hbl)
        have HM2 : Hid (m - (i + r) = m - i - r) := Lib.hid (by omega)
        have R4 := Lib.hid (E.out.take (i := r) hrm)
        have ROK := Lib.hid (show ((es.drop i).take r).length = r by rw [List.length_take, E.out.len]; omega)
        clear hr E2 hB2 hd2 he0 hok0
        have E2 := E2'
        clear E2'
        go_wp2_with fail
        refine cu.mono ?_; rintro e w4 ⟨rfl, hb4⟩
        have K4 := Lib.hid (K.out.keep hb4)
        have U4 := Lib.hid (ownG_keep U.out hb4)
        have O4 := Lib.hid (O.out.below hb4)
        have B4 := Lib.hid (BB.out.trans (hb4.mono BB.out.size))
        have Z4 := Lib.hid (Nat.le_trans Z.out hb4.size)
        clear hb4 cu K U O BB Z
        have cv := view_fresh A' n' c' l' (some b) r d' ((es.drop i).take r) w4 K4.out (R4.out.keep B4.out) (by omega)
        have HVL := Lib.hid (view_len l' ((es.drop i).take r))
        have HKL := Lib.hid K4.out.len
        go_wp2_with fail
        refine cv.mono ?_; rintro e w5 ⟨A2, n2, c2, rfl, hk5, hb5, hf5⟩
        have K5 := Lib.hid hk5
        have U5 := Lib.hid (ownG_keep U4.out hb5)
        have HUL0 := Lib.hid (show (∀ k, (Value.slice H out.length dH).ownBlock = some k → k < w4.heap.size) from fun k hk => (U4.out.lt k hk).2)
        have O5 := Lib.hid (O4.out.below hb5)
        have B5 := Lib.hid (B4.out.trans (hb5.mono B4.out.size))
        have Z5 := Lib.hid (Nat.le_trans Z4.out hb5.size)
        have HS45 := hb5.size
        have HKF := Lib.hid (show (∀ a, A2 = some a → w4.heap.size ≤ a.block) from hf5)
        have HKE := Lib.hid (show (∀ a, A2 = some a → a.block ≠ b7) from fun a ha => by have := hf5 a ha; have := Z4.out; omega)
        have HN2 : Hid (n2 ≤ n + (i + r)) := Lib.hid (by
          have h1 := HVL.out
          rw [K5.out.len, HKL.out, ROK.out] at h1
          omega)
        have hn2 : n2 ≤ 100000 := by have := HN2.out; omega
        clear hk5 hb5 hf5 cv K4 U4 O4 B4 Z4
        have ch := headOf_any A2 n2 c2 (viewL l' ((es.drop i).take r)) w5 K5.out hn2
        have HV2 : Hid (viewL (viewL l' ((es.drop i).take r)) (es.drop (i + r)) = viewL l es) := Lib.hid (by
          rw [← view_app, ← HV.out, ← List.drop_drop, List.take_append_drop])
        go_wp2_with fail
        refine ch.mono ?_; rintro e w6 ⟨rfl, hb6⟩
        have K6 := Lib.hid (K5.out.keep hb6)
        have U6 := Lib.hid (ownG_keep U5.out hb6)
        have O6 := Lib.hid (O5.out.below hb6)
        have B6 := Lib.hid (B5.out.trans (hb6.mono B5.out.size))
        have Z6 := Lib.hid (Nat.le_trans Z5.out hb6.size)
        have HUL := Lib.hid (show (∀ k, (Value.slice H out.length dH).ownBlock = some k → k < w4.heap.size ∧ k < w6.heap.size) from fun k hk => by have := HUL0.out k hk; have := hb6.size; omega)
        clear hb6 ch K5 U5 O5 B5 Z5 HUL0
        cases hh2 : headL (viewL l' ((es.drop i).take r)) with
        | none =>
          have HH2 := Lib.hid hh2
          have HNB := Lib.hid (show newB (headL l') none = [] from rfl)
          clear hh2
          have N8 := Lib.hid (own_new w6 (hcs none) 63)
          have bz := below_setRow (new1 w6 (.cells (hcs none) 63)) (Nat.le_refl _) (hcs none)
          have N9 := Lib.hid (N8.out.row (hcs none))
          have O9 := Lib.hid (O6.out.below bz)
          have B9 := Lib.hid (then_ B6.out bz)
          have K9 := Lib.hid (K6.out.keep bz)
          have U9 := Lib.hid (ownG_keep U6.out bz)
          have Z9 := Lib.hid (Nat.le_trans Z6.out bz.size)
          have L9 := Lib.hid (show w6.heap.size < ((w6.alloc (.cells (hcs none) 63)).setRow w6.heap.size (hcs none)).heap.size from (N8.out.row (hcs none)).lt)
          go_upto_region 9 with (first | (refine wpList_store_row rfl 63 _ _ rfl _ _ rfl rfl 63 _ N8.out.ex (hd_size _) (hcs_same _ _) (hcs_all _) ?_))
          clear O6 K6 U6 B6 bz N8
          generalize ((w6.alloc (.cells (hcs none) 63)).setRow w6.heap.size (hcs none)) = w9 at *
          have x6 : w9.cell? ⟨w6.heap.size, 6, none⟩ = some (.bool false) := N9.out.cell 6 _ rfl
          go_wp2_with (first | (refine wpList_load_row rfl 63 _ rfl _ rfl 63 _ (0, 0) _ N9.out.ex Tryd.underlying63 rfl (hd_size _) ?_) | (refine wpList_store_row rfl 63 _ _ rfl _ _ rfl rfl 63 _ O9.out.ex (hd_size _) (hcs_same _ _) (hcs_all _) ?_))
          clear x6
          have Of := Lib.hid (O9.out.row (hcs none))
          have Kf := Lib.hid (K9.out.grown (grown_row w9 b7 (hcs none)) (fun a ha hh => by have h1 := HKE.out a ha; injection hh with hh; omega))
          have Uf := Lib.hid (World.ownsRow.kept U9.out (grown_row w9 b7 (hcs none)) (own_ne' U9.out (Nat.lt_succ_self _)))
          have Bf := Lib.hid (below_setRow B9.out HB7.out (hcs none))
          have Zf := Lib.hid (show b7 + 1 ≤ (w9.setRow b7 (hcs none)).heap.size by have := Z9.out; simpa [World.setRow] using this)
          have SEEN := Lib.hid (show out ++ seen (viewL l' ((es.drop i).take r)) (es.drop (i + r)) = seen l es by
            rw [← HS.out, seen_step l' (es.drop i) HNE.out, ← HRU.out, HH2.out, HNB.out, List.drop_drop]
            simp [List.append_assoc])
          simp only [Act.put]
          go_roundw
          case rel =>
            repeat apply Exists.intro
            refine ⟨?_, rfl⟩
            exact ⟨i + r, A2, n2, c2, viewL l' ((es.drop i).take r), B2, d2, H, dH, out, rfl, Kf.out, by rw [HM2.out], E2.out, by omega, HN2.out, HKE.out, HBF.out, rfl, by exact Uf.out, by rw [HH2.out]; exact Of.out, SEEN, HV2.out, by omega, Bf.out, Zf.out⟩
          case measure => simp [lenV]; omega
        | some x =>
          have HH2 := Lib.hid hh2
          clear hh2
          cases hb : neB (headL l') x with
          | false =>
            have HB := Lib.hid hb
            have HNB := Lib.hid (newB_no _ _ hb)
            clear hb
            have N8 := Lib.hid (own_new w6 (hcs none) 63)
            have bz := below_setRow (new1 w6 (.cells (hcs none) 63)) (Nat.le_refl _) (hcs (some x))
            have N9 := Lib.hid (N8.out.row (hcs (some x)))
            have O9 := Lib.hid (O6.out.below bz)
            have B9 := Lib.hid (then_ B6.out bz)
            have K9 := Lib.hid (K6.out.keep bz)
            have U9 := Lib.hid (ownG_keep U6.out bz)
            have Z9 := Lib.hid (Nat.le_trans Z6.out bz.size)
            have L9 := Lib.hid (show w6.heap.size < ((w6.alloc (.cells (hcs none) 63)).setRow w6.heap.size (hcs (some x))).heap.size from (N8.out.row (hcs (some x))).lt)
            go_upto_region 9 with (first | (refine wpList_store_row rfl 63 _ _ rfl _ _ rfl rfl 63 _ N8.out.ex (hd_size _) (hcs_same _ _) (hcs_all _) ?_))
            clear O6 K6 U6 B6 bz N8
            generalize ((w6.alloc (.cells (hcs none) 63)).setRow w6.heap.size (hcs (some x))) = w9 at *
            have x6 : w9.cell? ⟨w6.heap.size, 6, none⟩ = some (.bool true) := N9.out.cell 6 _ rfl
            have hne := neq_hd x (headL l')
            rw [HB.out] at hne
            have tk0 : True := trivial
            have tk1 : True := trivial
            go_wp2_with (first | (have _t := tk0; refine wpList_load_rowG 63 _ rfl _ rfl 63 _ (0, 0) _ N9.out.ex Tryd.underlying63 rfl (hd_size _) rfl ?_; clear tk0 _t) | (have _t := tk1; refine wpList_load_rowG 63 _ rfl _ rfl 63 _ (0, 0) _ O9.out.ex Tryd.underlying63 rfl (hd_size _) rfl ?_; clear tk1 _t) | (refine wpList_load_row rfl 63 _ rfl _ rfl 63 _ (0, 0) _ N9.out.ex Tryd.underlying63 rfl (hd_size _) ?_) | (refine wpList_store_row rfl 63 _ _ rfl _ _ rfl rfl 63 _ O9.out.ex (hd_size _) (hcs_same _ _) (hcs_all _) ?_))
            clear x6 hne
            have Of := Lib.hid (O9.out.row (hcs (some x)))
            have Kf := Lib.hid (K9.out.grown (grown_row w9 b7 (hcs (some x))) (fun a ha hh => by have h1 := HKE.out a ha; injection hh with hh; omega))
            have Uf := Lib.hid (World.ownsRow.kept U9.out (grown_row w9 b7 (hcs (some x))) (own_ne' U9.out (Nat.lt_succ_self _)))
            have Bf := Lib.hid (below_setRow B9.out HB7.out (hcs (some x)))
            have Zf := Lib.hid (show b7 + 1 ≤ (w9.setRow b7 (hcs (some x))).heap.size by have := Z9.out; simpa [World.setRow] using this)
            have SEEN := Lib.hid (show out ++ seen (viewL l' ((es.drop i).take r)) (es.drop (i + r)) = seen l es by
              rw [← HS.out, seen_step l' (es.drop i) HNE.out, ← HRU.out, HH2.out, HNB.out, List.drop_drop]
              simp [List.append_assoc])
            simp only [Act.put]
            go_roundw
            case rel =>
              repeat apply Exists.intro
              refine ⟨?_, rfl⟩
              exact ⟨i + r, A2, n2, c2, viewL l' ((es.drop i).take r), B2, d2, H, dH, out, rfl, Kf.out, by rw [HM2.out], E2.out, by omega, HN2.out, HKE.out, HBF.out, rfl, by exact Uf.out, by rw [HH2.out]; exact Of.out, SEEN, HV2.out, by omega, Bf.out, Zf.out⟩
            case measure => simp [lenV]; omega
          | true =>
            have HB := Lib.hid hb
            have HNB := Lib.hid (newB_yes _ _ hb)
            clear hb
            have N8 := Lib.hid (own_new w6 (hcs none) 63)
            have bz := below_setRow (new1 w6 (.cells (hcs none) 63)) (Nat.le_refl _) (hcs (some x))
            have N9 := Lib.hid (N8.out.row (hcs (some x)))
            have O9 := Lib.hid (O6.out.below bz)
            have B9 := Lib.hid (then_ B6.out bz)
            have K9 := Lib.hid (K6.out.keep bz)
            have U9 := Lib.hid (ownG_keep U6.out bz)
            have Z9 := Lib.hid (Nat.le_trans Z6.out bz.size)
            have L9 := Lib.hid (show w6.heap.size < ((w6.alloc (.cells (hcs none) 63)).setRow w6.heap.size (hcs (some x))).heap.size from (N8.out.row (hcs (some x))).lt)
            go_upto_region 9 with (first | (refine wpList_store_row rfl 63 _ _ rfl _ _ rfl rfl 63 _ N8.out.ex (hd_size _) (hcs_same _ _) (hcs_all _) ?_))
            clear O6 K6 U6 B6 bz N8
            generalize ((w6.alloc (.cells (hcs none) 63)).setRow w6.heap.size (hcs (some x))) = w9 at *
            have x6 : w9.cell? ⟨w6.heap.size, 6, none⟩ = some (.bool true) := N9.out.cell 6 _ rfl
            have hne := neq_hd x (headL l')
            rw [HB.out] at hne
            have tk0 : True := trivial
            have tk1 : True := trivial
            have n0 : w9.cell? ⟨w6.heap.size, 0, none⟩ = some (.string x.key) := N9.out.cell 0 _ rfl
            have n1 : w9.cell? ⟨w6.heap.size, 1, none⟩ = some (.string x.val) := N9.out.cell 1 _ rfl
            have n2 : w9.cell? ⟨w6.heap.size, 2, none⟩ = some (.int .i64 x.cre) := N9.out.cell 2 _ rfl
            have n3 : w9.cell? ⟨w6.heap.size, 3, none⟩ = some (.int .i64 x.mod) := N9.out.cell 3 _ rfl
            have n4 : w9.cell? ⟨w6.heap.size, 4, none⟩ = some (.int .i64 x.ver) := N9.out.cell 4 _ rfl
            have n5 : w9.cell? ⟨w6.heap.size, 5, none⟩ = some (.int .i64 x.lea) := N9.out.cell 5 _ rfl
            have BX := Lib.hid (Nat.le_trans Z9.out (new1 w9 (x.obj 26)).size)
            obtain ⟨H', dH', wa, hr4, ho4, hb4, hg4⟩ := app_kv (b7 + 1) H out.length dH out _ (ownG_keep U9.out (new1 w9 (x.obj 26))) (some ⟨w9.heap.size, 0, none⟩) 1 1 [x] (rows_new KV.cells_len w9 x _ rfl) (by omega) BX.out
            have bxa := ((new1 w9 (x.obj 26)).mono Z9.out).trans hb4
            have Na := Lib.hid (own_grown' (N9.out.alloc (x.obj 26)) hg4 (fun k hk => by have := HUL.out k hk; omega))
            have Oa := Lib.hid (O9.out.low bxa (Nat.lt_succ_self _))
            have Ba := Lib.hid (B9.out.trans (bxa.mono (by have := HB7.out; omega)))
            have Ka := Lib.hid ((K9.out.keep (new1 w9 (x.obj 26))).grown hg4 (fun a ha hh => by have h1 := HUL.out a.block hh.symm; have h2 := HKF.out a ha; omega))
            have Ua := Lib.hid ho4
            have Za := Lib.hid (Nat.le_trans Z9.out bxa.size)
            clear hb4 hg4 ho4 bxa K9 U9 B9
            go_wp2_with (first | (have _t := tk0; refine wpList_load_rowG 63 _ rfl _ rfl 63 _ (0, 0) _ N9.out.ex Tryd.underlying63 rfl (hd_size _) rfl ?_; clear tk0 _t) | (have _t := tk1; refine wpList_load_rowG 63 _ rfl _ rfl 63 _ (0, 0) _ O9.out.ex Tryd.underlying63 rfl (hd_size _) rfl ?_; clear tk1 _t) | (at_builtin; refine wpList_append_eq _ rfl (.tmp 34) (.tmp 37) _ _ rfl _ _ rfl rfl hr4 ?_) | (refine wpList_load_row rfl 63 _ rfl _ rfl 63 _ (0, 0) _ Na.out.ex Tryd.underlying63 rfl (hd_size _) ?_) | (refine wpList_store_row rfl 63 _ _ rfl _ _ rfl rfl 63 _ Oa.out.ex (hd_size _) (hcs_same _ _) (hcs_all _) ?_))
            clear x6 hne n0 n1 n2 n3 n4 n5
            have Of := Lib.hid (Oa.out.row (hcs (some x)))
            have Kf := Lib.hid (Ka.out.grown (grown_row wa b7 (hcs (some x))) (fun a ha hh => by have h1 := HKE.out a ha; injection hh with hh; omega))
            have Uf := Lib.hid (World.ownsRow.kept Ua.out (grown_row wa b7 (hcs (some x))) (own_ne' Ua.out (Nat.lt_succ_self _)))
            have Bf := Lib.hid (below_setRow Ba.out HB7.out (hcs (some x)))
            have Zf := Lib.hid (show b7 + 1 ≤ (wa.setRow b7 (hcs (some x))).heap.size by have := Za.out; simpa [World.setRow] using this)
            have SEEN := Lib.hid (show (out ++ [x]) ++ seen (viewL l' ((es.drop i).take r)) (es.drop (i + r)) = seen l es by
              rw [← HS.out, seen_step l' (es.drop i) HNE.out, ← HRU.out, HH2.out, HNB.out, List.drop_drop]
              simp [List.append_assoc])
            simp only [Act.put]
            go_roundw
            case rel =>
              repeat apply Exists.intro
              refine ⟨?_, rfl⟩
              exact ⟨i + r, A2, n2, c2, viewL l' ((es.drop i).take r), B2, d2, H', dH', (out ++ [x]), rfl, Kf.out, by rw [HM2.out], E2.out, by omega, HN2.out, HKE.out, HBF.out, by rw [List.length_append]; rfl, by rw [List.length_append]; exact Uf.out, by rw [HH2.out]; exact Of.out, SEEN, HV2.out, by rw [List.length_append]; simp; omega, Bf.out, Zf.out⟩
            case measure => simp [lenV]; omega
      · obtain rfl : i = m := by omega
        have hz : i - i = 0 := Nat.sub_self _
        rw [List.drop_of_length_le (by rw [GL.out]; exact Nat.le_refl _)] at HS HV
        have e1 : out = seen l es := by have := HS.out; rwa [seen_nil, List.append_nil] at this
        have e2 : l' = viewL l es := HV.out
        rw [e1] at U
        rw [e2] at K
        rw [e1]
        have R := Lib.hid (ownG_rows KV.cells_len (by omega) U.out)
        go_wp2
        refine bodyPost_ret (v := .tuple #[.slice A' n' c', .slice H (seen l es).length dH]) (by simp [results, Tryd.results19, go_sem]) rfl ⟨A', n', c', H, dH, rfl, K.out, R.out, BB.out⟩
end Go.Proofs.YtjjngablalnbeaaDoor.P
/- Who leads by a name, by the program and by the document. GENERATED by wip/gen/elreign.py. -/
namespace Go.Proofs.YtjjngablalnbeaaDoor.P
open Go.RowKit Go.Sort
set_option maxHeartbeats 4000000
set_option linter.unusedVariables false
set_option linter.unusedSimpArgs false
set_option maxRecDepth 100000

/-- Who leads by a name: its term, what it says. -/
def reignL (l : List KV) (s : ByteArray) : Option KV := if nameL s.data.toList = true then headL (fromL l (prefixB 5 s)) else none
def reignV : Option KV → Value
  | some x => .tuple #[.int .i64 x.cre, .string x.val, .bool true]
  | none => .tuple #[.int .i64 0, .string ⟨#[]⟩, .bool false]
theorem reign_any (A : Option Addr) (n c : Nat) (l : List KV) (s : ByteArray) (w : World) (h : KVs w A n c l) (hn : n ≤ 100000) (hm : s.size ≤ maxLen) (hL : Letters w) :
    Calls Tryd.prog 13 #[.slice A n c, .string s] w fun e w' => e = .returned (reignV (reignL l s)) ∧ Below w.heap.size w w' := by
  have H := Lib.hid h
  have HN := Lib.hid h.len
  by_cases hs : nameL s.data.toList = true
  · have c1 := prefix_yes 5 s w (by omega) (by omega) hs hL
    have HP : Hid ((prefixB 5 s).size ≤ maxLen) := Lib.hid (by rw [prefix_size (by omega) (by omega)]; have := (nameL_size hs).2; unfold maxLen; omega)
    have HR := Lib.hid (show reignL l s = headL (fromL l (prefixB 5 s)) by unfold reignL; rw [if_pos hs])
    clear h hL
    go_enter Tryd.func13, Tryd.ntmps13
    go_wp2_with fail
    refine c1.mono ?_; rintro e w1 ⟨rfl, hb1⟩
    have B1 := Lib.hid hb1
    clear hb1 c1
    have c2 := From_any A n c l (prefixB 5 s) _ (H.out.keep B1.out) (by omega) HP.out
    go_wp2_with fail
    refine c2.mono ?_; intro e w2 hf
    have hfl : (fromL l (prefixB 5 s)).length ≤ n := by have := List.length_filter_le (fun x : KV => begins (prefixB 5 s) x.key) l; rw [HN.out] at this; exact this
    obtain ⟨A2, n2, c3, rfl, hk2, hb2⟩ := hf
    have B2 := Lib.hid (then_ B1.out hb2)
    have c4 := head_any A2 n2 c3 _ _ hk2 (by have := hk2.len; omega)
    clear hb2 c2 hk2 hfl
    cases ho : headL (fromL l (prefixB 5 s)) with
    | none =>
      rw [ho] at c4
      have HV := Lib.hid (HR.out.trans ho)
      clear ho HR
      go_wp2_with fail
      refine c4.mono ?_; intro e w3 hf
      obtain ⟨rfl, hb3⟩ := hf.none_
      have N3 := own_new w3 zKV 26
      have y1 := N3.cell 1 (.string ⟨#[]⟩) rfl
      have y2 := N3.cell 2 (.int .i64 0) rfl
      have B3 := Lib.hid (then_ (then_ B2.out hb3) (new1 w3 (.cells zKV 26)))
      clear hf hb3 c4 N3
      go_wp2_with (first | go_quiet (fail))
      clear y1 y2
      refine bodyPost_ret (v := .tuple #[.int .i64 0, .string ⟨#[]⟩, .bool false]) (by simp [results, Tryd.results13, go_sem]) rfl ⟨by rw [HV.out]; rfl, below_drewN B3.out _⟩
    | some x =>
      rw [ho] at c4
      have HV := Lib.hid (HR.out.trans ho)
      clear ho HR
      go_wp2_with fail
      refine c4.mono ?_; intro e w3 hf
      obtain ⟨rfl, hb3⟩ := hf.some_
      have N3 := own_new w3 #[.string x.key, .string x.val, .int .i64 x.cre, .int .i64 x.mod, .int .i64 x.ver, .int .i64 x.lea] 26
      have y1 := N3.cell 1 (.string x.val) rfl
      have y2 := N3.cell 2 (.int .i64 x.cre) rfl
      have B3 := Lib.hid (then_ (then_ B2.out hb3) (new1 w3 (x.obj 26)))
      clear hf hb3 c4 N3
      go_wp2_with (first | go_quiet (fail))
      clear y1 y2
      refine bodyPost_ret (v := .tuple #[.int .i64 x.cre, .string x.val, .bool true]) (by simp [results, Tryd.results13, go_sem]) rfl ⟨by rw [HV.out]; rfl, below_drewN B3.out _⟩
  · have c1 := prefix_no 5 s w (by rintro ⟨-, -, h⟩; exact hs h) hm (by omega) (by omega) hL
    have HV := Lib.hid (show reignL l s = none by unfold reignL; rw [if_neg hs])
    clear h hL
    go_enter Tryd.func13, Tryd.ntmps13
    go_wp2_with fail
    refine c1.mono ?_; rintro e w1 ⟨rfl, hb1⟩
    have B1 := Lib.hid hb1
    clear hb1 c1
    go_wp2
    refine bodyPost_ret (v := .tuple #[.int .i64 0, .string ⟨#[]⟩, .bool false]) (by simp [results, Tryd.results13, go_sem]) rfl ⟨by rw [HV.out]; rfl, B1.out⟩
theorem reignr_any (A : Option Addr) (n c : Nat) (l : List KV) (s : ByteArray) (w : World) (h : KVs w A n c l) (hn : n ≤ 100000) (hm : s.size ≤ maxLen) :
    Calls Tryd.prog 14 #[.slice A n c, .string s] w fun e w' => e = .returned (reignV (reignL l s)) ∧ Below w.heap.size w w' := by
  have H := Lib.hid h
  have HN := Lib.hid h.len
  by_cases hs : nameL s.data.toList = true
  · have c1 := prefix_ref_yes 5 s w (by omega) (by omega) hs
    have HP : Hid ((prefixB 5 s).size ≤ maxLen) := Lib.hid (by rw [prefix_size (by omega) (by omega)]; have := (nameL_size hs).2; unfold maxLen; omega)
    have HR := Lib.hid (show reignL l s = headL (fromL l (prefixB 5 s)) by unfold reignL; rw [if_pos hs])
    clear h
    go_enter Tryd.func14, Tryd.ntmps14
    go_wp2_with fail
    refine c1.mono ?_; rintro e w1 ⟨rfl, rfl⟩; have hb1 := Below.refl w.heap.size w
    have B1 := Lib.hid hb1
    clear hb1 c1
    have c2 := from_ref A n c l (prefixB 5 s) _ (H.out.keep B1.out) (by omega) HP.out
    go_wp2_with fail
    refine c2.mono ?_; intro e w2 hf
    have hfl : (fromL l (prefixB 5 s)).length ≤ n := by have := List.length_filter_le (fun x : KV => begins (prefixB 5 s) x.key) l; rw [HN.out] at this; exact this
    obtain ⟨A2, n2, c3, rfl, hk2, hb2⟩ := hf
    have B2 := Lib.hid (then_ B1.out hb2)
    have c4 := headr_any A2 n2 c3 _ _ hk2 (by have := hk2.len; omega)
    clear hb2 c2 hk2 hfl
    cases ho : headL (fromL l (prefixB 5 s)) with
    | none =>
      rw [ho] at c4
      have HV := Lib.hid (HR.out.trans ho)
      clear ho HR
      go_wp2_with fail
      refine c4.mono ?_; intro e w3 hf
      obtain ⟨rfl, hb3⟩ := hf.none_
      have N3 := own_new w3 zKV 26
      have y1 := N3.cell 1 (.string ⟨#[]⟩) rfl
      have y2 := N3.cell 2 (.int .i64 0) rfl
      have B3 := Lib.hid (then_ (then_ B2.out hb3) (new1 w3 (.cells zKV 26)))
      clear hf hb3 c4 N3
      go_wp2_with (first | go_quiet (fail))
      clear y1 y2
      refine bodyPost_ret (v := .tuple #[.int .i64 0, .string ⟨#[]⟩, .bool false]) (by simp [results, Tryd.results14, go_sem]) rfl ⟨by rw [HV.out]; rfl, below_drewN B3.out _⟩
    | some x =>
      rw [ho] at c4
      have HV := Lib.hid (HR.out.trans ho)
      clear ho HR
      go_wp2_with fail
      refine c4.mono ?_; intro e w3 hf
      obtain ⟨rfl, hb3⟩ := hf.some_
      have N3 := own_new w3 #[.string x.key, .string x.val, .int .i64 x.cre, .int .i64 x.mod, .int .i64 x.ver, .int .i64 x.lea] 26
      have y1 := N3.cell 1 (.string x.val) rfl
      have y2 := N3.cell 2 (.int .i64 x.cre) rfl
      have B3 := Lib.hid (then_ (then_ B2.out hb3) (new1 w3 (x.obj 26)))
      clear hf hb3 c4 N3
      go_wp2_with (first | go_quiet (fail))
      clear y1 y2
      refine bodyPost_ret (v := .tuple #[.int .i64 x.cre, .string x.val, .bool true]) (by simp [results, Tryd.results14, go_sem]) rfl ⟨by rw [HV.out]; rfl, below_drewN B3.out _⟩
  · have c1 := prefix_ref_no 5 s w (by rintro ⟨-, -, h⟩; exact hs h) hm
    have HV := Lib.hid (show reignL l s = none by unfold reignL; rw [if_neg hs])
    clear h
    go_enter Tryd.func14, Tryd.ntmps14
    go_wp2_with fail
    refine c1.mono ?_; rintro e w1 ⟨rfl, rfl⟩; have hb1 := Below.refl w.heap.size w
    have B1 := Lib.hid hb1
    clear hb1 c1
    go_wp2
    refine bodyPost_ret (v := .tuple #[.int .i64 0, .string ⟨#[]⟩, .bool false]) (by simp [results, Tryd.results14, go_sem]) rfl ⟨by rw [HV.out]; rfl, B1.out⟩
end Go.Proofs.YtjjngablalnbeaaDoor.P
/- What the laws of who leads share: a head, or a zero thing, as one shape. -/
namespace Go.Proofs.YtjjngablalnbeaaDoor.P
open Go.RowKit Go.Sort
set_option maxHeartbeats 2000000
set_option linter.unusedVariables false
set_option linter.unusedSimpArgs false
set_option maxRecDepth 100000

theorem ite_last (p : Prop) [Decidable p] (w : World) : (if p then Result.ok (Value.bool true) w else Result.ok (Value.bool false) w) = Result.ok (Value.bool (decide p)) w := by by_cases h : p <;> simp [h]
theorem ite_more (p : Prop) [Decidable p] (q : Bool) (w : World) : (if p then Result.ok (Value.bool q) w else Result.ok (Value.bool false) w) = Result.ok (Value.bool (decide p && q)) w := by by_cases h : p <;> simp [h]
theorem eql_kv (a b : KV) (w : World) : (binOp .eql 26 a.agg b.agg).run Tryd.prog w = .ok (.bool (kvEq a b)) w := by
  simp [go_sem, Tryd.underlying26]
  rw [ite_last, ite_more, ite_more, ite_more, ite_more, ite_more]
  rfl
/-- The thing that is zero. -/
def zK : KV := ⟨⟨#[]⟩, ⟨#[]⟩, 0, 0, 0, 0⟩
theorem found_ {o : Option KV} {w : World} {e : Ending} {w' : World} (h : FoundEnd o w e w') : e = .returned (.tuple #[(o.getD zK).agg, .bool o.isSome]) ∧ Below w.heap.size w w' := by
  cases o with
  | none => exact h
  | some x => exact h
theorem reignV_ (o : Option KV) : reignV o = .tuple #[.int .i64 (o.getD zK).cre, .string (o.getD zK).val, .bool o.isSome] := by cases o <;> rfl
theorem head_one (A : Option Addr) (n c : Nat) (l : List KV) (w : World) (h : KVs w A n c l) (hn : n ≤ 100000) :
    Calls Tryd.prog 11 #[.slice A n c] w fun e w' => e = .returned (.tuple #[((headL l).getD zK).agg, .bool (headL l).isSome]) ∧ Below w.heap.size w w' :=
  (head_any A n c l w h hn).mono fun _ _ => found_
theorem headr_one (A : Option Addr) (n c : Nat) (l : List KV) (w : World) (h : KVs w A n c l) (hn : n ≤ 100000) :
    Calls Tryd.prog 12 #[.slice A n c] w fun e w' => e = .returned (.tuple #[((headL l).getD zK).agg, .bool (headL l).isSome]) ∧ Below w.heap.size w w' :=
  (headr_any A n c l w h hn).mono fun _ _ => found_
theorem heads (A : Option Addr) (n c : Nat) (l : List KV) (hn : n ≤ 100000) : ∃ (x : KV) (b : Bool),
    (∀ w, KVs w A n c l → Calls Tryd.prog 11 #[.slice A n c] w fun e w' => e = .returned (.tuple #[x.agg, .bool b]) ∧ Below w.heap.size w w') ∧
    (∀ w, KVs w A n c l → Calls Tryd.prog 12 #[.slice A n c] w fun e w' => e = .returned (.tuple #[x.agg, .bool b]) ∧ Below w.heap.size w w') :=
  ⟨_, _, fun w h => head_one A n c l w h hn, fun w h => headr_one A n c l w h hn⟩
theorem reigns (A : Option Addr) (n c : Nat) (l : List KV) (s : ByteArray) (hn : n ≤ 100000) (hs : s.size ≤ maxLen) : ∃ (y : KV) (b : Bool),
    (∀ w, KVs w A n c l → Letters w → Calls Tryd.prog 13 #[.slice A n c, .string s] w fun e w' => e = .returned (.tuple #[.int .i64 y.cre, .string y.val, .bool b]) ∧ Below w.heap.size w w') ∧
    (∀ w, KVs w A n c l → Calls Tryd.prog 14 #[.slice A n c, .string s] w fun e w' => e = .returned (.tuple #[.int .i64 y.cre, .string y.val, .bool b]) ∧ Below w.heap.size w w') :=
  ⟨_, _, fun w h hL => by rw [← reignV_]; exact reign_any A n c l s w h hn hs hL, fun w h => by rw [← reignV_]; exact reignr_any A n c l s w h hn hs⟩
end Go.Proofs.YtjjngablalnbeaaDoor.P
/- Whoever is seen is in order. -/
namespace Go.Proofs.YtjjngablalnbeaaDoor.P
open Go.RowKit Go.Sort
set_option linter.unusedVariables false
theorem newB_mem {a b : Option KV} {x : KV} (h : x ∈ newB a b) : b = some x := by
  unfold newB at h
  cases b with
  | none => simp at h
  | some y =>
    cases a with
    | none => simp at h; rw [h]
    | some z =>
      simp only at h
      split at h
      · simp at h
      · simp at h; rw [h]
theorem seenL_ok : ∀ (f : Nat) (l : List KV) (es : List Ev), (∀ x ∈ l, x.ok) → (∀ e ∈ es, e.ok) → ∀ x ∈ seenL f l es, x.ok
  | 0, _, _, _, _, x, hx => by simp [seenL] at hx
  | f + 1, l, es, hl, he, x, hx => by
    have hv := view_ok hl (es.take (runL es)) (fun e h => he e (List.mem_of_mem_take h))
    rw [seenL_succ] at hx
    split at hx
    · simp at hx
    · rw [List.mem_append] at hx
      rcases hx with h | h
      · exact hv x (headL_mem (newB_mem h))
      · exact seenL_ok f _ _ hv (fun e h => he e (List.mem_of_mem_drop h)) x h
theorem seen_ok {l : List KV} {es : List Ev} (hl : ∀ x ∈ l, x.ok) (he : ∀ e ∈ es, e.ok) : ∀ x ∈ seen l es, x.ok := seenL_ok _ l es hl he
theorem parts_mid (l0 : List KV) (l1 : List Ev) (k1 k : Nat) (x y : Ev) (hk : k1 + 1 = k) (hx : l1[k1]? = some x) (hy : l1[k]? = some y) (hr : ¬ x.rev = y.rev) : seen l0 (l1.take k) ++ seen (viewL l0 (l1.take k)) (l1.drop k) = seen l0 l1 := by
  have := seen_parts _ l0 (l1.take k) (l1.drop k) (Nat.le_refl _) (fun x' y' h1 h2 => by
    rw [List.head?_drop, hy] at h2
    obtain rfl := Option.some.inj h2
    rw [← hk, take_succ l1 k1 x hx, List.getLast?_append] at h1
    simp at h1
    rw [← h1]; exact hr)
  rw [List.take_append_drop] at this
  exact this.symm
theorem parts_end (l0 : List KV) (l1 : List Ev) (k : Nat) (h : k = 0 ∨ k = l1.length) : seen l0 (l1.take k) ++ seen (viewL l0 (l1.take k)) (l1.drop k) = seen l0 l1 := by
  have := seen_parts _ l0 (l1.take k) (l1.drop k) (Nat.le_refl _) (fun x' y' h1 h2 => by
    rcases h with rfl | rfl
    · simp at h1
    · simp at h2)
  rw [List.take_append_drop] at this
  exact this.symm
theorem parts_len {a b c : List KV} (h : a ++ b = c) : a.length + b.length = c.length := by rw [← h, List.length_append]
end Go.Proofs.YtjjngablalnbeaaDoor.P
/- What the law ElectSays wants, plain: the head of what was laid of unlike things; when it is laid again, or taken away; when another one is. -/
namespace Go.Proofs.YtjjngablalnbeaaDoor.P
open Go.RowKit Go.Sort
set_option maxHeartbeats 1000000
set_option linter.unusedVariables false

/-- All things of l, laid one after another. -/
def layTo (l : List KV) (k : Nat) : List KV := (l.take k).foldl layL []
theorem layTo_succ {l : List KV} {k : Nat} {x : KV} (h : l[k]? = some x) : layTo l (k + 1) = layL (layTo l k) x := by
  unfold layTo
  rw [take_succ l k x h, List.foldl_append]
  rfl
theorem layTo_len (l : List KV) : ∀ k, (layTo l k).length ≤ k
  | 0 => Nat.le_refl _
  | k + 1 => by
    have ih := layTo_len l k
    cases h : l[k]? with
    | none =>
      have : l.take (k + 1) = l.take k := by rw [List.take_of_length_le (by have := List.getElem?_eq_none_iff.1 h; omega), List.take_of_length_le (by have := List.getElem?_eq_none_iff.1 h; omega)]
      unfold layTo at *
      rw [this]
      omega
    | some x =>
      rw [layTo_succ h]
      have := layL_len (layTo l k) x
      omega
theorem layTo_ok {l : List KV} (hl : ∀ x ∈ l, x.ok) : ∀ k, ∀ x ∈ layTo l k, x.ok
  | 0, x, hx => by cases hx
  | k + 1, x, hx => by
    cases h : l[k]? with
    | none =>
      have e : l.take (k + 1) = l.take k := by rw [List.take_of_length_le (by have := List.getElem?_eq_none_iff.1 h; omega), List.take_of_length_le (by have := List.getElem?_eq_none_iff.1 h; omega)]
      unfold layTo at hx
      rw [e] at hx
      exact layTo_ok hl k x hx
    | some z =>
      rw [layTo_succ h] at hx
      rcases layL_mem _ _ _ hx with rfl | hx
      · exact hl _ (List.mem_of_getElem? h)
      · exact layTo_ok hl k x hx
/-- The keys, and the Creates, are unlike: of the first k, each with those ahead of it. -/
def Unl (l : List KV) (k : Nat) : Prop := ∀ i j x y, i < k → j < i → l[i]? = some x → l[j]? = some y → teq x.key y.key = false ∧ ¬ x.cre = y.cre
theorem Unl.two {l : List KV} {k i j : Nat} {x y : KV} (h : Unl l k) (hi : i < k) (hj : j < k) (hij : i ≠ j) (hx : l[i]? = some x) (hy : l[j]? = some y) : teq x.key y.key = false ∧ ¬ x.cre = y.cre := by
  rcases Nat.lt_or_gt_of_ne hij with h1 | h1
  · obtain ⟨a, b⟩ := h j i y x hj h1 hy hx
    exact ⟨by rw [teq_ne] at a ⊢; exact fun e => a e.symm, fun e => b e.symm⟩
  · exact h i j x y hi h1 hx hy
theorem Unl.mem {l : List KV} (h : Unl l l.length) {x y : KV} (hx : x ∈ l) (hy : y ∈ l) : x = y ∨ (teq x.key y.key = false ∧ ¬ x.cre = y.cre) := by
  obtain ⟨i, hi⟩ := List.getElem?_of_mem hx
  obtain ⟨j, hj⟩ := List.getElem?_of_mem hy
  by_cases e : i = j
  · subst e; rw [hi] at hj; exact .inl (Option.some.inj hj)
  · exact .inr (h.two (List.getElem?_eq_some_iff.1 hi).1 (List.getElem?_eq_some_iff.1 hj).1 e hi hj)
theorem layTo_rises (l : List KV) : ∀ k, rises (layTo l k) = true
  | 0 => rfl
  | k + 1 => by
    cases h : l[k]? with
    | none =>
      have e : l.take (k + 1) = l.take k := by rw [List.take_of_length_le (by have := List.getElem?_eq_none_iff.1 h; omega), List.take_of_length_le (by have := List.getElem?_eq_none_iff.1 h; omega)]
      unfold layTo
      rw [e]
      exact layTo_rises l k
    | some z => rw [layTo_succ h]; exact rises_lay _ _ (layTo_rises l k)
theorem layTo_find {l : List KV} (h : Unl l l.length) : ∀ k, k ≤ l.length → ∀ i x, i < k → l[i]? = some x → findL (layTo l k) x.key = some x
  | 0, _, i, x, hi, _ => by omega
  | k + 1, hk, i, x, hi, hx => by
    obtain ⟨z, hz⟩ : ∃ z, l[k]? = some z := ⟨_, List.getElem?_eq_getElem (by omega)⟩
    rw [layTo_succ hz]
    by_cases e : i = k
    · subst e
      rw [hx] at hz
      obtain rfl := Option.some.inj hz
      exact find_lay_same _ _
    · rw [find_lay_other _ _ _ (h.two (by omega) (by omega) (fun q => e q.symm) hz hx).1]
      exact layTo_find h k (by omega) i x (by omega) hx
theorem layTo_mem (l : List KV) : ∀ k z, z ∈ layTo l k → z ∈ l
  | 0, z, h => by cases h
  | k + 1, z, h => by
    cases hk : l[k]? with
    | none =>
      have e : l.take (k + 1) = l.take k := by rw [List.take_of_length_le (by have := List.getElem?_eq_none_iff.1 hk; omega), List.take_of_length_le (by have := List.getElem?_eq_none_iff.1 hk; omega)]
      unfold layTo at h
      rw [e] at h
      exact layTo_mem l k z h
    | some x =>
      rw [layTo_succ hk] at h
      rcases layL_mem _ _ _ h with rfl | h
      · exact List.mem_of_getElem? hk
      · exact layTo_mem l k z h
theorem find_in {l : List KV} {x : KV} (h : Unl l l.length) (hx : x ∈ l) : findL (layTo l l.length) x.key = some x := by
  obtain ⟨i, hi⟩ := List.getElem?_of_mem hx
  exact layTo_find h _ (Nat.le_refl _) i x (List.getElem?_eq_some_iff.1 hi).1 hi
/-- The head is the one of the least Create. -/
theorem head_is {l : List KV} {x : KV} (hx : x ∈ l) (h : ∀ y ∈ l, y ≠ x → x.cre < y.cre) : headL l = some x := by
  have h0 := headL_some l
  cases hh : headL l with
  | none =>
    rw [hh] at h0
    cases l with
    | nil => cases hx
    | cons a r => cases h0
  | some z =>
    by_cases e : z = x
    · rw [e]
    · have h1 := headL_least hh x hx
      have h2 := h z (headL_mem hh) e
      omega
theorem key_once' : ∀ (l : List KV), rises l = true → ∀ x ∈ l, findL l x.key = some x
  | [], _, x, hx => by simp at hx
  | y :: r, h, x, hx => by
    unfold findL
    rcases List.mem_cons.1 hx with rfl | hx
    · rw [if_pos (teq_self _)]
    · rw [if_neg (by rw [tlt_ne (rises_all y r h x hx)]; simp), key_once' r (rises_tail h) x hx]
/-- What the law asks of unlike things, their head, and another one. -/
structure SaysIs (l : List KV) (x said other : KV) (rev : Int) : Prop where
  laid : headL (layTo l l.length) = some x
  again : seen (layTo l l.length) [⟨rev, false, said⟩] = if kvEq said x = true then [] else [said]
  gone : ∃ z, seen (layTo l l.length) [⟨rev, true, x⟩] = [z] ∧ x.cre < z.cre
  other : seen (layTo l l.length) [⟨rev, true, other⟩] = [] ∧ headL (takeL (layTo l l.length) other.key) = some x
theorem seen_one (l : List KV) (e : Ev) : seen l [e] = newB (headL l) (headL (evL l e)) := by
  rw [seen_step l [e] (by simp)]
  have h1 : runL [e] = 1 := rfl
  rw [h1]
  show newB (headL l) (headL (viewL l [e])) ++ seen _ [] = _
  rw [seen_nil, List.append_nil]
  rfl
theorem newB_same (x : KV) : newB (some x) (some x) = [] := by
  unfold newB
  simp only
  rw [if_pos (kvEq_iff.2 rfl)]
theorem says_is {l : List KV} {x said other : KV} (rev : Int) (h : Unl l l.length) (hx : headL l = some x) (hk : said.key = x.key) (hc : said.cre = x.cre) (ho : other ∈ l) (hox : teq other.key x.key = false) : SaysIs l x said other rev := by
  have xm := headL_mem hx
  have lt : ∀ y ∈ l, y ≠ x → x.cre < y.cre := fun y hy hne => by
    have h1 := headL_least hx y hy
    rcases h.mem hy xm with e | ⟨_, e⟩
    · exact absurd e hne
    · omega
  have hxa : x ∈ layTo l l.length := (findL_mem _ _ _ (find_in h xm)).1
  have ha : headL (layTo l l.length) = some x := head_is hxa fun y hy => lt y (layTo_mem l _ y hy)
  have hr := layTo_rises l l.length
  refine ⟨ha, ?_, ?_, ?_⟩
  · rw [seen_one, ha]
    have e1 : evL (layTo l l.length) ⟨rev, false, said⟩ = layL (layTo l l.length) said := rfl
    have e2 : headL (layL (layTo l l.length) said) = some said := by
      have hs := find_lay_same (layTo l l.length) said
      refine head_is (findL_mem _ _ _ hs).1 fun y hy hne => ?_
      have hyf := key_once' _ (rises_lay _ said hr) y hy
      rcases layL_mem _ _ _ hy with e | hy'
      · exact absurd e hne
      · rw [hc]
        refine lt y (layTo_mem l _ y hy') fun e => hne ?_
        rw [e, ← hk, hs] at hyf
        rw [e]
        exact (Option.some.inj hyf).symm
    rw [e1, e2]
    rfl
  · rw [seen_one, ha]
    have e1 : evL (layTo l l.length) ⟨rev, true, x⟩ = takeL (layTo l l.length) x.key := rfl
    rw [e1]
    have hof : findL (takeL (layTo l l.length) x.key) other.key = some other := by
      rw [find_take_other _ _ _ (by rw [teq_ne] at hox ⊢; exact fun e => hox e.symm)]
      exact find_in h ho
    have hom := (findL_mem _ _ _ hof).1
    have h0 := headL_some (takeL (layTo l l.length) x.key)
    cases hh : headL (takeL (layTo l l.length) x.key) with
    | none =>
      rw [hh] at h0
      cases hq : takeL (layTo l l.length) x.key with
      | nil => rw [hq] at hom; cases hom
      | cons a r => rw [hq] at h0; cases h0
    | some z =>
      have zm := headL_mem hh
      have hne : z ≠ x := fun e => by
        have h1 := key_once' _ (rises_take _ x.key hr) z zm
        rw [e, find_take_same _ _ hr] at h1
        cases h1
      refine ⟨z, ?_, lt z (layTo_mem l _ z (takeL_mem _ _ _ zm)) hne⟩
      unfold newB
      simp only
      rw [if_neg (fun e => hne (kvEq_iff.1 e))]
  · have e2 : headL (takeL (layTo l l.length) other.key) = some x := by
      have hf : findL (takeL (layTo l l.length) other.key) x.key = some x := by
        rw [find_take_other _ _ _ hox]
        exact find_in h xm
      exact head_is (findL_mem _ _ _ hf).1 fun y hy => lt y (layTo_mem l _ y (takeL_mem _ _ _ hy))
    refine ⟨?_, e2⟩
    rw [seen_one, ha]
    have e1 : evL (layTo l l.length) ⟨rev, true, other⟩ = takeL (layTo l l.length) other.key := rfl
    rw [e1, e2]
    exact newB_same x
/-- The last thing of the first k whose key is not x's. -/
def otherTo (z0 : KV) (l : List KV) (x : KV) (k : Nat) : KV := (l.take k).foldl (fun o y => if teq y.key x.key = true then o else y) z0
theorem otherTo_succ {z0 x y : KV} {l : List KV} {k : Nat} (h : l[k]? = some y) : otherTo z0 l x (k + 1) = if teq y.key x.key = true then otherTo z0 l x k else y := by
  unfold otherTo
  rw [take_succ l k y h, List.foldl_append]
  rfl
theorem otherTo_is (z0 x : KV) (l : List KV) : ∀ k, k ≤ l.length → (∃ y ∈ l.take k, teq y.key x.key = false) → otherTo z0 l x k ∈ l ∧ teq (otherTo z0 l x k).key x.key = false
  | 0, _, ⟨y, hy, _⟩ => by cases hy
  | k + 1, hk, ⟨y, hy, hn⟩ => by
    obtain ⟨z, hz⟩ : ∃ z, l[k]? = some z := ⟨_, List.getElem?_eq_getElem (by omega)⟩
    rw [otherTo_succ hz]
    cases ht : teq z.key x.key with
    | false => exact ⟨List.mem_of_getElem? hz, ht⟩
    | true =>
      rw [if_pos rfl]
      refine otherTo_is z0 x l k (by omega) ⟨y, ?_, hn⟩
      rw [take_succ l k z hz, List.mem_append] at hy
      rcases hy with hy | hy
      · exact hy
      · obtain rfl : y = z := by simpa using hy
        rw [ht] at hn
        cases hn
theorem other_there {l : List KV} {x : KV} (h : Unl l l.length) (h2 : 2 ≤ l.length) : ∃ y ∈ l, teq y.key x.key = false := by
  obtain ⟨a, ha⟩ : ∃ z, l[0]? = some z := ⟨_, List.getElem?_eq_getElem (by omega)⟩
  obtain ⟨b, hb⟩ : ∃ z, l[1]? = some z := ⟨_, List.getElem?_eq_getElem (by omega)⟩
  have hab := (h.two (show 1 < l.length by omega) (show 0 < l.length by omega) (by omega) hb ha).1
  cases ht : teq a.key x.key with
  | false => exact ⟨a, List.mem_of_getElem? ha, ht⟩
  | true =>
    refine ⟨b, List.mem_of_getElem? hb, ?_⟩
    rw [teq_ne] at hab ⊢
    rw [teq_iff] at ht
    rw [← ht]
    exact hab
end Go.Proofs.YtjjngablalnbeaaDoor.P
