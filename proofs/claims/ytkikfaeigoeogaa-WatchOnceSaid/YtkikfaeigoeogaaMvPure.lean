/- A store with revisions, plain: what is done to it, which may be, what follows. -/
import Derived.Test.YtkikfaeigoeogaaKvMay
namespace Go.Proofs.Ytkikfaeigoeogaa.P
open Go.RowKit
set_option linter.unusedVariables false

structure Mu where
  gone : Bool
  key : ByteArray
  val : ByteArray
  lea : Int
structure St where
  rev : Int
  low : Int
  base : List KV
  log : List Ev
def nowL (s : St) : List KV := foldL s.base s.log s.rev
def keptE (s : St) (rev : Int) : Int := if rev < 0 ∨ s.rev < rev then 8 else if rev < s.low then 9 else 0
def atL (s : St) (rev : Int) : List KV := if rev = 0 then nowL s else if keptE s rev = 0 then foldL s.base s.log rev else []
def atE (s : St) (rev : Int) : Int := if rev = 0 then 0 else keptE s rev
def afterE (l : List KV) (e : Ev) : List KV := if e.gone then takeL l e.kv.key else layL l e.kv
theorem step_after {rev : Int} {l : List KV} {e : Ev} (h : e.rev ≤ rev) : stepL rev l e = afterE l e := by
  unfold stepL afterE; rw [if_neg (by omega)]
theorem step_skip {rev : Int} {l : List KV} {e : Ev} (h : rev < e.rev) : stepL rev l e = l := if_pos h
def laid (l : List KV) (m : Mu) (rev : Int) : KV :=
  match findL l m.key with
  | some x => ⟨m.key, m.val, x.cre, rev, x.ver + 1, m.lea⟩
  | none => ⟨m.key, m.val, rev, rev, 1, m.lea⟩
def evOf (l : List KV) (m : Mu) (rev : Int) : Option Ev :=
  if m.gone then (findL l m.key).map fun x => ⟨rev, true, x⟩ else some ⟨rev, false, laid l m rev⟩
theorem evOf_rev {l : List KV} {m : Mu} {rev : Int} {e : Ev} (h : evOf l m rev = some e) : e.rev = rev := by
  unfold evOf at h
  split at h
  · cases hf : findL l m.key with
    | none => rw [hf] at h; cases h
    | some x => rw [hf] at h; cases h; rfl
  · cases h; rfl
theorem evOf_key {l : List KV} {m : Mu} {rev : Int} {e : Ev} (h : evOf l m rev = some e) : e.kv.key = m.key := by
  unfold evOf at h
  split at h
  · cases hf : findL l m.key with
    | none => rw [hf] at h; cases h
    | some x => rw [hf] at h; cases h; exact (findL_mem _ _ _ hf).2
  · cases h
    show (laid l m rev).key = m.key
    unfold laid; split <;> rfl

/-- An event is right where l is what there is. -/
def RightE (l : List KV) (e : Ev) : Prop :=
  oneB e.kv = true ∧ if e.gone = true then findL l e.kv.key = some e.kv
    else e.kv.mod = e.rev ∧ match findL l e.kv.key with | some x => e.kv.cre = x.cre ∧ e.kv.ver = x.ver + 1 | none => e.kv.cre = e.rev ∧ e.kv.ver = 1
noncomputable def rightB (l : List KV) (e : Ev) : Bool := @decide (RightE l e) (Classical.propDecidable _)
theorem right_iff {l : List KV} {e : Ev} : rightB l e = true ↔ RightE l e := by unfold rightB; exact @decide_eq_true_iff _ (Classical.propDecidable _)
noncomputable def mayLogB (top : Int) : List KV → Int → List Ev → Bool
  | _, _, [] => true
  | l, least, e :: r => decide (least ≤ e.rev) && decide (e.rev ≤ top) && rightB l e && decide ((afterE l e).length ≤ 30) && mayLogB top (afterE l e) e.rev r
noncomputable def mayB (s : St) : Bool :=
  decide (0 ≤ s.low ∧ s.low ≤ s.rev ∧ s.rev ≤ 1099511627774) && (decide (s.base.length ≤ 30) && mayP oneB s.base && s.base.all fun x => decide (x.mod ≤ s.low)) && (decide (s.log.length ≤ 60) && mayLogB s.rev s.base (s.low + 1) s.log)

structure Good (l : List KV) (top : Int) : Prop where
  may : mayP oneB l = true
  len : l.length ≤ 30
  mod : ∀ x ∈ l, x.mod ≤ top
structure MaySt (s : St) : Prop where
  low : 0 ≤ s.low
  le : s.low ≤ s.rev
  max : s.rev ≤ 1099511627774
  good : Good s.base s.low
  len : s.log.length ≤ 60
  log : mayLogB s.rev s.base (s.low + 1) s.log = true
theorem may_st {s : St} : mayB s = true ↔ MaySt s := by
  unfold mayB
  simp only [Bool.and_eq_true, decide_eq_true_eq, List.all_eq_true]
  constructor
  · rintro ⟨⟨⟨a, b, c⟩, ⟨d, e⟩, f⟩, g, h⟩
    exact ⟨a, b, c, ⟨e, d, f⟩, g, h⟩
  · rintro ⟨a, b, c, ⟨e, d, f⟩, g, h⟩
    exact ⟨⟨⟨a, b, c⟩, ⟨d, e⟩, f⟩, g, h⟩
theorem one_p {x : KV} (h : oneB x = true) : OneP x := by
  unfold oneB at h
  rw [Bool.and_eq_true] at h
  exact of_decide_eq_true h.2
theorem one_key {x : KV} (h : oneB x = true) : checkL x.key.data.toList = true := by
  unfold oneB at h
  rw [Bool.and_eq_true] at h
  exact h.1
theorem one_mk {x : KV} (h : checkL x.key.data.toList = true) (k : OneP x) : oneB x = true := by
  unfold oneB; rw [h, Bool.true_and]; exact decide_eq_true k
theorem may_one {l : List KV} (h : mayP oneB l = true) : ∀ x ∈ l, oneB x = true := by
  unfold mayP at h; rw [Bool.and_eq_true] at h; exact List.all_eq_true.1 h.1
theorem Good.after {l : List KV} {top : Int} {e : Ev} (h : Good l top) (ht : top ≤ e.rev) (hr : RightE l e) (hl : (afterE l e).length ≤ 30) : Good (afterE l e) e.rev := by
  refine ⟨?_, hl, fun x hx => ?_⟩
  · unfold afterE; split
    · exact mayP_take h.may
    · exact mayP_lay h.may hr.1
  · unfold afterE at hx
    split at hx
    · have := h.mod x (takeL_mem _ _ _ hx); omega
    · rename_i hg
      rcases layL_mem _ _ _ hx with rfl | hx
      · have h2 := hr.2
        rw [if_neg hg] at h2
        have := h2.1; omega
      · have := h.mod x hx; omega
theorem mayLog_cons {top : Int} {l : List KV} {least : Int} {e : Ev} {r : List Ev} : mayLogB top l least (e :: r) = true ↔ least ≤ e.rev ∧ e.rev ≤ top ∧ RightE l e ∧ (afterE l e).length ≤ 30 ∧ mayLogB top (afterE l e) e.rev r = true := by
  rw [mayLogB]
  simp only [Bool.and_eq_true, decide_eq_true_eq, right_iff]
  constructor
  · rintro ⟨⟨⟨⟨a, b⟩, c⟩, d⟩, e⟩; exact ⟨a, b, c, d, e⟩
  · rintro ⟨a, b, c, d, e⟩; exact ⟨⟨⟨⟨a, b⟩, c⟩, d⟩, e⟩
def lastR (least : Int) (a : List Ev) : Int := a.foldl (fun _ e => e.rev) least
theorem mayLog_app {top : Int} : ∀ (a b : List Ev) (l : List KV) (least : Int), mayLogB top l least (a ++ b) = true ↔ mayLogB top l least a = true ∧ mayLogB top (a.foldl afterE l) (lastR least a) b = true
  | [], b, l, least => by simp [mayLogB, lastR]
  | e :: a, b, l, least => by
    rw [List.cons_append, mayLog_cons, mayLog_cons, mayLog_app a b]
    simp only [List.foldl_cons, lastR]
    constructor
    · rintro ⟨h1, h2, h3, h4, h5, h6⟩; exact ⟨⟨h1, h2, h3, h4, h5⟩, h6⟩
    · rintro ⟨⟨h1, h2, h3, h4, h5⟩, h6⟩; exact ⟨h1, h2, h3, h4, h5, h6⟩
theorem mayLog_least {top : Int} {l : List KV} {least least' : Int} {b : List Ev} (h : mayLogB top l least b = true) (h' : ∀ e ∈ b, least' ≤ e.rev) : mayLogB top l least' b = true := by
  cases b with
  | nil => rfl
  | cons e r =>
    rw [mayLog_cons] at h ⊢
    exact ⟨h' e (by simp), h.2⟩
theorem mayLog_top {top top' : Int} (ht : top ≤ top') : ∀ (b : List Ev) (l : List KV) (least : Int), mayLogB top l least b = true → mayLogB top' l least b = true
  | [], _, _, _ => rfl
  | e :: r, l, least, h => by
    rw [mayLog_cons] at h ⊢
    exact ⟨h.1, by omega, h.2.2.1, h.2.2.2.1, mayLog_top ht r _ _ h.2.2.2.2⟩
theorem mayLog_in {top : Int} : ∀ (b : List Ev) (l : List KV) (least : Int), mayLogB top l least b = true → ∀ e ∈ b, least ≤ e.rev ∧ e.rev ≤ top
  | [], _, _, _, e, he => by simp at he
  | x :: r, l, least, h, e, he => by
    rw [mayLog_cons] at h
    rcases List.mem_cons.1 he with rfl | he
    · exact ⟨h.1, h.2.1⟩
    · have := mayLog_in r _ _ h.2.2.2.2 e he
      exact ⟨by have := h.1; omega, this.2⟩
theorem mayLog_sorted {top : Int} : ∀ (b : List Ev) (l : List KV) (least : Int), mayLogB top l least b = true → b.Pairwise fun x y => x.rev ≤ y.rev
  | [], _, _, _ => .nil
  | x :: r, l, least, h => by
    rw [mayLog_cons] at h
    exact .cons (fun y hy => (mayLog_in r _ _ h.2.2.2.2 y hy).1) (mayLog_sorted r _ _ h.2.2.2.2)
theorem good_fold {top : Int} : ∀ (b : List Ev) (l : List KV) (least low : Int), Good l low → low ≤ least → mayLogB top l least b = true → Good (b.foldl afterE l) (lastR low b)
  | [], l, least, low, h, _, _ => h
  | e :: r, l, least, low, h, hl, hm => by
    rw [mayLog_cons] at hm
    exact good_fold r (afterE l e) e.rev e.rev (h.after (by have := hm.1; omega) hm.2.2.1 hm.2.2.2.1) (Int.le_refl _) hm.2.2.2.2
theorem Good.up {l : List KV} {a b : Int} (h : Good l a) (hab : a ≤ b) : Good l b := ⟨h.may, h.len, fun x hx => by have := h.mod x hx; omega⟩
theorem last_le {b : List Ev} : ∀ {low t : Int}, low ≤ t → (∀ e ∈ b, e.rev ≤ t) → lastR low b ≤ t := by
  induction b with
  | nil => intro low t h _; exact h
  | cons e r ih => intro low t h h2; exact ih (h2 e (by simp)) (fun x hx => h2 x (by simp [hx]))
theorem foldL_all {rev : Int} : ∀ (b : List Ev) (l : List KV), (∀ e ∈ b, e.rev ≤ rev) → foldL l b rev = b.foldl afterE l
  | [], l, _ => rfl
  | e :: r, l, h => by
    show foldL (stepL rev l e) r rev = _
    rw [step_after (h e (by simp)), foldL_all r _ (fun x hx => h x (by simp [hx]))]
    rfl
theorem foldL_none {rev : Int} : ∀ (b : List Ev) (l : List KV), (∀ e ∈ b, rev < e.rev) → foldL l b rev = l
  | [], l, _ => rfl
  | e :: r, l, h => by
    show foldL (stepL rev l e) r rev = _
    rw [step_skip (h e (by simp)), foldL_none r _ (fun x hx => h x (by simp [hx]))]
def upTo (t : Int) (b : List Ev) : List Ev := b.filter fun e => decide (e.rev ≤ t)
def above (t : Int) (b : List Ev) : List Ev := b.filter fun e => !decide (e.rev ≤ t)
theorem upTo_le {t : Int} {b : List Ev} : ∀ e ∈ upTo t b, e.rev ≤ t := fun e he => by simpa using (List.mem_filter.1 he).2
theorem above_lt {t : Int} {b : List Ev} : ∀ e ∈ above t b, t < e.rev := fun e he => by have := (List.mem_filter.1 he).2; simp at this; omega
theorem sorted_split (t : Int) : ∀ b : List Ev, b.Pairwise (fun x y => x.rev ≤ y.rev) → b = upTo t b ++ above t b
  | [], _ => rfl
  | e :: r, h => by
    rw [List.pairwise_cons] at h
    have ih := sorted_split t r h.2
    unfold upTo above at ih ⊢
    by_cases he : e.rev ≤ t
    · rw [List.filter_cons_of_pos (by simpa using he), List.filter_cons_of_neg (by simpa using he), List.cons_append, ← ih]
    · have h1 : r.filter (fun e => decide (e.rev ≤ t)) = [] := by
        rw [List.filter_eq_nil_iff]; intro a ha
        have := h.1 a ha; simp; omega
      rw [h1, List.nil_append] at ih
      rw [List.filter_cons_of_neg (by simpa using he), List.filter_cons_of_pos (by simpa using he), h1, List.nil_append, ← ih]
theorem foldL_cut {b : List Ev} (h : b.Pairwise fun x y => x.rev ≤ y.rev) (l : List KV) (t : Int) : foldL l b t = (upTo t b).foldl afterE l := by
  conv => lhs; rw [sorted_split t b h]
  rw [foldL_app, foldL_none _ _ above_lt, foldL_all _ _ upTo_le]
theorem MaySt.sorted {s : St} (h : MaySt s) : s.log.Pairwise fun x y => x.rev ≤ y.rev := mayLog_sorted _ _ _ h.log
/-- What there is at a revision that is kept. -/
theorem MaySt.at_ {s : St} (h : MaySt s) (t : Int) (ht : s.low ≤ t) : Good (foldL s.base s.log t) t := by
  have hs := sorted_split t s.log h.sorted
  have hm := h.log
  rw [hs, mayLog_app] at hm
  rw [foldL_cut h.sorted]
  exact (good_fold _ _ _ _ h.good (by omega) hm.1).up (last_le ht upTo_le)
theorem MaySt.now {s : St} (h : MaySt s) : Good (nowL s) s.rev := h.at_ s.rev h.le
theorem MaySt.now_all {s : St} (h : MaySt s) : nowL s = s.log.foldl afterE s.base := foldL_all _ _ fun e he => (mayLog_in _ _ _ h.log e he).2

/-! ### Shrink -/
def shrinkS (s : St) (rev : Int) : St := ⟨s.rev, rev, foldL s.base s.log rev, above rev s.log⟩
theorem kept_iff {s : St} {rev : Int} : keptE s rev = 0 ↔ 0 ≤ rev ∧ s.low ≤ rev ∧ rev ≤ s.rev ∨ (0 ≤ rev ∧ rev ≤ s.rev ∧ ¬ rev < s.low) := by
  unfold keptE
  split
  · rename_i h; simp; omega
  · split
    · rename_i h h2; simp; omega
    · rename_i h h2; simp; omega
theorem kept_le {s : St} {rev : Int} (h : keptE s rev = 0) : 0 ≤ rev ∧ s.low ≤ rev ∧ rev ≤ s.rev := by
  rcases kept_iff.1 h with h | h <;> omega
theorem shrink_may {s : St} (h : MaySt s) {rev : Int} (hk : keptE s rev = 0) : MaySt (shrinkS s rev) := by
  obtain ⟨h0, h1, h2⟩ := kept_le hk
  refine ⟨h0, h2, h.max, h.at_ rev h1, Nat.le_trans (List.length_filter_le _ _) h.len, ?_⟩
  have hm := h.log
  rw [sorted_split rev s.log h.sorted, mayLog_app] at hm
  show mayLogB s.rev (foldL s.base s.log rev) (rev + 1) (above rev s.log) = true
  rw [foldL_cut h.sorted]
  exact mayLog_least hm.2 fun e he => by have := above_lt e he; omega
theorem shrink_at {s : St} (h : MaySt s) {rev t : Int} (hr : rev ≤ t) : foldL (shrinkS s rev).base (shrinkS s rev).log t = foldL s.base s.log t := by
  show foldL (foldL s.base s.log rev) (above rev s.log) t = _
  conv => rhs; rw [sorted_split rev s.log h.sorted]
  rw [foldL_app, foldL_cut h.sorted, foldL_all (upTo rev s.log) s.base fun e he => by have := upTo_le e he; omega]
theorem shrink_now {s : St} (h : MaySt s) {rev : Int} (hk : keptE s rev = 0) : nowL (shrinkS s rev) = nowL s := shrink_at h (kept_le hk).2.2
theorem above_above (t : Int) (b : List Ev) : above t (above t b) = above t b := by
  unfold above; rw [List.filter_filter]; simp
theorem shrink_twice {s : St} (h : MaySt s) {rev : Int} (hk : keptE s rev = 0) : shrinkS (shrinkS s rev) rev = shrinkS s rev := by
  have e := shrink_at h (Int.le_refl rev)
  unfold shrinkS at e ⊢
  simp only at e ⊢
  rw [above_above, e]

/-! ### Apply -/
def mutB (m : Mu) : Bool := checkL m.key.data.toList && decide (m.val.size ≤ 20 ∧ 0 ≤ m.lea ∧ m.lea ≤ 1099511627775)
def fresh (ms : List Mu) (m : Mu) : Bool := ms.all fun y => !teq y.key m.key
/-- The first k may be done: they may be, and no key is there twice. -/
def doTo : List Mu → List Mu → Bool
  | _, [] => true
  | seen, m :: r => fresh seen m && mutB m && doTo (seen ++ [m]) r
def mayDoB (ms : List Mu) : Bool := decide (ms.length ≤ 30) && doTo [] ms
abbrev Come := List Ev × List KV × Bool
def stepC (rev : Int) (c : Come) (m : Mu) : Come :=
  match evOf c.2.1 m rev with
  | none => c
  | some e => (c.1 ++ [e], afterE c.2.1 e, c.2.2 && decide ((afterE c.2.1 e).length ≤ 30))
def comeL (rev : Int) (l : List KV) (ms : List Mu) : Come := ms.foldl (stepC rev) ([], l, true)
def eventsOf (s : St) (ms : List Mu) : List Ev := (comeL (s.rev + 1) (nowL s) ms).1
def doneS (s : St) (ms : List Mu) : St := ⟨s.rev + 1, s.low, s.base, s.log ++ eventsOf s ms⟩
def applyE (s : St) (ms : List Mu) : Int :=
  if mayDoB ms = false then 1 else if eventsOf s ms = [] then 0 else
    if (comeL (s.rev + 1) (nowL s) ms).2.2 = false ∨ s.rev = 1099511627774 ∨ 60 < s.log.length + (eventsOf s ms).length then 4 else 0
def applied (s : St) (ms : List Mu) : Prop := applyE s ms = 0 ∧ eventsOf s ms ≠ []
instance (s : St) (ms : List Mu) : Decidable (applied s ms) := by
  unfold applied
  have : Decidable (eventsOf s ms ≠ []) := match eventsOf s ms with | [] => .isFalse (fun h => h rfl) | _ :: _ => .isTrue (fun h => by cases h)
  infer_instance
def applyS (s : St) (ms : List Mu) : St := if applied s ms then doneS s ms else s
def applyEv (s : St) (ms : List Mu) : List Ev := if applied s ms then eventsOf s ms else []

theorem doTo_app : ∀ (a b seen : List Mu), doTo seen (a ++ b) = (doTo seen a && doTo (seen ++ a) b)
  | [], b, seen => by simp [doTo]
  | m :: a, b, seen => by
    rw [List.cons_append, doTo, doTo, doTo_app a b]
    simp [Bool.and_assoc]
theorem doTo_mut : ∀ (b seen : List Mu), doTo seen b = true → ∀ m ∈ b, mutB m = true
  | [], _, _, m, hm => by simp at hm
  | x :: r, seen, h, m, hm => by
    simp only [doTo, Bool.and_eq_true] at h
    rcases List.mem_cons.1 hm with rfl | hm
    · exact h.1.2
    · exact doTo_mut r _ h.2 m hm
theorem doTo_apart : ∀ (b seen : List Mu), doTo seen b = true → b.Pairwise (fun x y => x.key ≠ y.key) ∧ ∀ x ∈ seen, ∀ y ∈ b, x.key ≠ y.key
  | [], _, _ => ⟨.nil, fun x _ y hy => by simp at hy⟩
  | m :: r, seen, h => by
    simp only [doTo, Bool.and_eq_true] at h
    obtain ⟨h1, h2⟩ := doTo_apart r _ h.2
    have hf : ∀ x ∈ seen, x.key ≠ m.key := fun x hx => by
      have := List.all_eq_true.1 h.1.1 x hx
      rw [Bool.not_eq_true', teq_ne] at this
      exact this
    refine ⟨.cons (fun y hy => h2 m (by simp) y hy) h1, fun x hx y hy => ?_⟩
    rcases List.mem_cons.1 hy with rfl | hy
    · exact hf x hx
    · exact h2 x (by simp [hx]) y hy
theorem find_after {l : List KV} {e : Ev} {k : ByteArray} (h : e.kv.key ≠ k) : findL (afterE l e) k = findL l k := by
  unfold afterE; split
  · exact find_take_other _ _ _ (teq_ne.2 h)
  · exact find_lay_other _ _ _ (teq_ne.2 h)
/-- What has come of the first things, one more. -/
theorem come_snoc (rev : Int) (l : List KV) (a : List Mu) (m : Mu) : comeL rev l (a ++ [m]) = stepC rev (comeL rev l a) m := by
  unfold comeL; rw [List.foldl_append]; rfl
theorem stepC_now {rev : Int} {c : Come} {m : Mu} {k : ByteArray} (h : m.key ≠ k) : findL (stepC rev c m).2.1 k = findL c.2.1 k := by
  unfold stepC
  split
  · rfl
  · rename_i e he
    exact find_after (by rw [evOf_key he]; exact h)
theorem come_other (rev : Int) (l : List KV) (k : ByteArray) : ∀ (a : List Mu) (c : Come), (∀ m ∈ a, m.key ≠ k) → findL (a.foldl (stepC rev) c).2.1 k = findL c.2.1 k
  | [], _, _ => rfl
  | m :: a, c, h => by
    rw [List.foldl_cons, come_other rev l k a _ (fun x hx => h x (by simp [hx])), stepC_now (h m (by simp))]
theorem mut_p {m : Mu} (h : mutB m = true) : checkL m.key.data.toList = true ∧ m.val.size ≤ 20 ∧ 0 ≤ m.lea ∧ m.lea ≤ 1099511627775 := by
  unfold mutB at h
  rw [Bool.and_eq_true, decide_eq_true_eq] at h
  exact ⟨h.1, h.2⟩
/-- An event that comes of a thing that is done is right. -/
theorem ev_right {l : List KV} {m : Mu} {rev : Int} {e : Ev} (he : evOf l m rev = some e) (hm : mutB m = true) (hl : mayP oneB l = true) (h0 : 1 ≤ rev) (h1 : rev ≤ 1099511627775) (hf : ∀ x, findL l m.key = some x → x.mod < rev) : RightE l e := by
  obtain ⟨k1, k2, k3, k4⟩ := mut_p hm
  unfold evOf at he
  split at he
  · rename_i hg
    cases hx : findL l m.key with
    | none => rw [hx] at he; cases he
    | some x =>
      rw [hx] at he; cases he
      have hk := (findL_mem _ _ _ hx)
      refine ⟨may_one hl x hk.1, ?_⟩
      simp only [if_true]
      rw [hk.2]; exact hx
  · rename_i hg
    cases he
    cases hx : findL l m.key with
    | none =>
      have e : laid l m rev = ⟨m.key, m.val, rev, rev, 1, m.lea⟩ := by unfold laid; rw [hx]
      rw [e]
      refine ⟨one_mk k1 ⟨k2, by simp only; omega, by simp only; omega, h1, by simp only; omega, by simp only; omega, k3, k4⟩, ?_⟩
      simp only [Bool.false_eq_true, if_false]
      rw [hx]; simp
    | some x =>
      have e : laid l m rev = ⟨m.key, m.val, x.cre, rev, x.ver + 1, m.lea⟩ := by unfold laid; rw [hx]
      rw [e]
      have ho := one_p (may_one hl x (findL_mem _ _ _ hx).1)
      obtain ⟨o1, o2, o3, o4, o5, o6, o7, o8⟩ := ho
      have := hf x hx
      refine ⟨one_mk k1 ⟨k2, by simp only; omega, by simp only; omega, h1, by simp only; omega, by simp only; omega, k3, k4⟩, ?_⟩
      simp only [Bool.false_eq_true, if_false]
      rw [hx]; simp
end Go.Proofs.Ytkikfaeigoeogaa.P
