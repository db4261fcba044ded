/- Texts of this seat in one: ElTermsP, ElSince, ElAll, ElTermsQ. -/
import Derived.Test.YtjjngablalnbeaaDoorMgEl
import Derived.Test.YtjjngablalnbeaaDoorMvPure
import Derived.Test.YtjjngablalnbeaaDoorMgMv
import Derived.Test.YtjjngablalnbeaaDoorKvRows
import Derived.Test.YtjjngablalnbeaaDoorTkRef
import Derived.Test.YtjjngablalnbeaaDoorKvFrom
import Derived.Deep.CutBlock
import Derived.Deep.DeepCutAuto
import Derived.Deep.CutRange
import Derived.Test.YtjjngablalnbeaaDoorGenApp
import Derived.BigQuiet
/- What the law ElectTerms wants, plain: by the events of a store that may be the terms of the heads that are seen rise, and each was there. -/
namespace Go.Proofs.YtjjngablalnbeaaDoor.P
open Go.RowKit Go.Sort
set_option maxHeartbeats 1000000
set_option linter.unusedVariables false
set_option linter.unusedSimpArgs false

theorem mem_filt {α : Type} {p : α → Bool} {l : List α} {x : α} (h : x ∈ l.filter p) : x ∈ l := (List.mem_filter.1 h).1
theorem evL_after (l : List KV) (e : Ev) : evL l e = afterE l e := rfl
theorem rises_after {l : List KV} (e : Ev) (h : rises l = true) : rises (afterE l e) = true := by
  unfold afterE; split
  · exact rises_take _ _ h
  · exact rises_lay _ _ h
/-- What becomes of those of a prefix. -/
theorem view_from (p : ByteArray) : ∀ (b : List Ev) (X : List KV), rises X = true → viewL (fromL X p) (b.filter fun e => begins p e.kv.key) = fromL (b.foldl afterE X) p
  | [], X, _ => rfl
  | e :: r, X, h => by
    have ih := view_from p r (afterE X e) (rises_after e h)
    rw [List.foldl_cons, ← ih]
    cases hb : begins p e.kv.key with
    | true =>
      rw [List.filter_cons_of_pos (by simpa using hb)]
      show viewL (evL (fromL X p) e) _ = _
      congr 1
      unfold evL afterE
      split
      · exact (from_take_in X e.kv.key p h).symm
      · exact (from_lay_in X e.kv p h hb).symm
    | false =>
      rw [List.filter_cons_of_neg (by simp [hb])]
      congr 1
      unfold afterE
      split
      · exact (from_take_out X e.kv.key p h hb).symm
      · exact (from_lay_out X e.kv p h hb).symm
/-- A thing that is old was there, with its Create; with its Mod it was there as it is. -/
theorem old_cre {t top : Int} : ∀ (b : List Ev) (X : List KV) (least : Int), mayLogB top X least b = true → (∀ e ∈ b, t < e.rev) → ∀ y ∈ b.foldl afterE X, y.cre ≤ t → ∃ x ∈ X, x.key = y.key ∧ x.cre = y.cre
  | [], X, _, _, _, y, hy, _ => ⟨y, hy, rfl, rfl⟩
  | e :: r, X, least, hm, hr, y, hy, hc => by
    rw [mayLog_cons] at hm
    obtain ⟨x, hx, hk, hcx⟩ := old_cre r (afterE X e) e.rev hm.2.2.2.2 (fun z hz => hr z (List.mem_cons_of_mem _ hz)) y hy hc
    have he := hr e (List.mem_cons_self ..)
    unfold afterE at hx
    split at hx
    · exact ⟨x, takeL_mem _ _ _ hx, hk, hcx⟩
    · rename_i hg
      rcases layL_mem _ _ _ hx with rfl | hx
      · have h2 := hm.2.2.1.2
        rw [if_neg hg] at h2
        cases hf : findL X e.kv.key with
        | none => rw [hf] at h2; have := h2.2.1; omega
        | some z =>
          rw [hf] at h2
          obtain ⟨h3, h4⟩ := findL_mem _ _ _ hf
          exact ⟨z, h3, h4.trans hk, h2.2.1.symm.trans hcx⟩
      · exact ⟨x, hx, hk, hcx⟩
theorem old_mod {t top : Int} : ∀ (b : List Ev) (X : List KV) (least : Int), mayLogB top X least b = true → (∀ e ∈ b, t < e.rev) → ∀ y ∈ b.foldl afterE X, y.mod ≤ t → y ∈ X
  | [], X, _, _, _, y, hy, _ => hy
  | e :: r, X, least, hm, hr, y, hy, hc => by
    rw [mayLog_cons] at hm
    have hx := old_mod r (afterE X e) e.rev hm.2.2.2.2 (fun z hz => hr z (List.mem_cons_of_mem _ hz)) y hy hc
    have he := hr e (List.mem_cons_self ..)
    unfold afterE at hx
    split at hx
    · exact takeL_mem _ _ _ hx
    · rename_i hg
      rcases layL_mem _ _ _ hx with rfl | hx
      · have h2 := hm.2.2.1.2
        rw [if_neg hg] at h2
        have := h2.1; omega
      · exact hx
/-- The things of a prefix at a revision; the events of it behind that. -/
def atP (s : St) (p : ByteArray) (t : Int) : List KV := fromL (foldL s.base s.log t) p
def evP (s : St) (p : ByteArray) (t : Int) : List Ev := (above t s.log).filter fun e => begins p e.kv.key
theorem fold_step {s : St} (h : MaySt s) {t R : Int} (ht : t ≤ R) : (upTo R (above t s.log)).foldl afterE (foldL s.base s.log t) = foldL s.base s.log R := by
  rw [foldL_cut h.sorted, foldL_cut h.sorted, ← List.foldl_append]
  congr 1
  have hs := sorted_split t (upTo R s.log) (h.sorted.filter _)
  have e1 : upTo t (upTo R s.log) = upTo t s.log := by
    unfold upTo
    rw [List.filter_filter]
    congr 1
    funext e
    by_cases h1 : e.rev ≤ t
    · simp [h1, show e.rev ≤ R by omega]
    · simp [h1]
  have e2 : above t (upTo R s.log) = upTo R (above t s.log) := by
    unfold above upTo
    rw [List.filter_filter, List.filter_filter]
    congr 1
    funext e
    exact Bool.and_comm _ _
  rw [e1, e2] at hs
  exact hs.symm
theorem may_from {s : St} (h : MaySt s) {t : Int} : mayLogB s.rev (foldL s.base s.log t) (t + 1) (above t s.log) = true := by
  have hm := h.log
  rw [sorted_split t s.log h.sorted, mayLog_app] at hm
  rw [foldL_cut h.sorted]
  exact mayLog_least hm.2 fun e he => by have := above_lt e he; omega
theorem may_part {s : St} (h : MaySt s) {t R : Int} : mayLogB s.rev (foldL s.base s.log t) (t + 1) (upTo R (above t s.log)) = true := by
  have hm := may_from h (t := t)
  have hs := sorted_split R (above t s.log) (h.sorted.filter _)
  rw [hs, mayLog_app] at hm
  exact hm.1
theorem at_cre {s : St} (h : MaySt s) {t R : Int} (ht : t ≤ R) {p : ByteArray} {y : KV} (hy : y ∈ atP s p R) (hc : y.cre ≤ t) : ∃ x ∈ atP s p t, x.key = y.key ∧ x.cre = y.cre := by
  obtain ⟨h1, h2⟩ := List.mem_filter.1 hy
  rw [← fold_step h ht] at h1
  obtain ⟨x, hx, hk, hcx⟩ := old_cre _ _ _ (may_part h (R := R)) (fun e he => above_lt e (mem_filt he)) y h1 hc
  exact ⟨x, List.mem_filter.2 ⟨hx, by rw [hk]; exact h2⟩, hk, hcx⟩
theorem at_mod {s : St} (h : MaySt s) {t R : Int} (ht : t ≤ R) {p : ByteArray} {y : KV} (hy : y ∈ atP s p R) (hc : y.mod ≤ t) : y ∈ atP s p t := by
  obtain ⟨h1, h2⟩ := List.mem_filter.1 hy
  rw [← fold_step h ht] at h1
  exact List.mem_filter.2 ⟨old_mod _ _ _ (may_part h (R := R)) (fun e he => above_lt e (mem_filt he)) y h1 hc, h2⟩
theorem at_rises {s : St} (h : MaySt s) (p : ByteArray) {t : Int} (ht : s.low ≤ t) : rises (atP s p t) = true := rises_from _ _ (mayP_rises (h.at_ t ht).may)
theorem at_one {s : St} (h : MaySt s) {p : ByteArray} {t : Int} (ht : s.low ≤ t) {y : KV} (hy : y ∈ atP s p t) : 1 ≤ y.cre ∧ y.cre ≤ y.mod ∧ y.mod ≤ t := by
  have hg := h.at_ t ht
  have hm := mem_filt hy
  obtain ⟨o1, o2, o3, o4, o5, o6, o7, o8⟩ := one_p (may_one hg.may y hm)
  exact ⟨by omega, by omega, hg.mod y hm⟩
theorem view_step {s : St} (h : MaySt s) (p : ByteArray) {t R : Int} (hl : s.low ≤ t) (ht : t ≤ R) : viewL (atP s p t) ((upTo R (above t s.log)).filter fun e => begins p e.kv.key) = atP s p R := by
  unfold atP
  rw [view_from p _ _ (mayP_rises (h.at_ t hl).may), fold_step h ht]
theorem view_end {s : St} (h : MaySt s) (p : ByteArray) {t : Int} (hl : s.low ≤ t) (ht : t ≤ s.rev) : viewL (atP s p t) (evP s p t) = fromL (nowL s) p := by
  have h1 := view_step h p hl ht
  have e : upTo s.rev (above t s.log) = above t s.log := by
    unfold upTo
    rw [List.filter_eq_self]
    intro e he
    have := (mayLog_in _ _ _ h.log e (mem_filt he)).2
    simpa using this
  rw [e] at h1
  exact h1
/-- The first revision among the events: behind it the others follow. -/
theorem ev_cut {s : St} (h : MaySt s) (p : ByteArray) {t : Int} {e0 : Ev} {r : List Ev} (he : evP s p t = e0 :: r) :
    t < e0.rev ∧ e0.rev ≤ s.rev ∧ (evP s p t).take (runL (evP s p t)) = (upTo e0.rev (above t s.log)).filter (fun e => begins p e.kv.key) ∧ (evP s p t).drop (runL (evP s p t)) = evP s p e0.rev := by
  have hin : e0 ∈ evP s p t := by rw [he]; exact List.mem_cons_self ..
  have ha := mem_filt hin
  have h1 := above_lt e0 ha
  have h2 := (mayLog_in _ _ _ h.log e0 (mem_filt ha)).2
  have hsp := sorted_split e0.rev (above t s.log) (h.sorted.filter _)
  have e2 : above e0.rev (above t s.log) = above e0.rev s.log := by
    unfold above
    rw [List.filter_filter]
    congr 1
    funext e
    by_cases h3 : e.rev ≤ e0.rev
    · simp [h3]
    · simp [h3, show ¬ e.rev ≤ t by omega]
  rw [e2] at hsp
  have hE : evP s p t = (upTo e0.rev (above t s.log)).filter (fun e => begins p e.kv.key) ++ evP s p e0.rev := by
    unfold evP
    conv => lhs; rw [hsp]
    rw [List.filter_append]
  have hpw : (evP s p t).Pairwise fun x y => x.rev ≤ y.rev := (h.sorted.filter _).filter _
  generalize hF : (upTo e0.rev (above t s.log)).filter (fun e => begins p e.kv.key) = F at *
  have hFr : ∀ e ∈ F, e.rev = e0.rev := fun e hm => by
    rw [← hF] at hm
    have h4 := upTo_le e (mem_filt hm)
    have h5 : e ∈ evP s p t := by rw [hE]; exact List.mem_append_left _ (by rw [← hF]; exact hm)
    rw [he] at h5 hpw
    rcases List.mem_cons.1 h5 with e' | h5
    · rw [e']
    · have := (List.pairwise_cons.1 hpw).1 e h5
      omega
  have hR : ∀ e ∈ evP s p e0.rev, e0.rev < e.rev := fun e hm => above_lt e (mem_filt hm)
  have hFl : 0 < F.length := by
    cases F with
    | cons a b => simp
    | nil =>
      rw [List.nil_append] at hE
      have := hR e0 (by rw [← hE]; exact hin)
      omega
  have hrun : F.length = runL (evP s p t) := by
    refine runL_is (evP s p t) e0 F.length (by rw [he]; rfl) hFl (by rw [hE, List.length_append]; omega) (fun j x hj hx => ?_) (fun x hx => ?_)
    · rw [hE, List.getElem?_append_left hj] at hx
      exact hFr x (List.mem_of_getElem? hx)
    · rw [hE, List.getElem?_append_right (Nat.le_refl _)] at hx
      have := hR x (List.mem_of_getElem? hx)
      omega
  rw [← hrun]
  refine ⟨h1, h2, ?_, ?_⟩
  · rw [hE, List.take_left']
    rfl
  · rw [hE, List.drop_left']
    rfl
/-- The terms rise from M on; the last one. -/
def upL (M : Int) : List KV → Prop
  | [] => True
  | y :: r => M ≤ y.cre ∧ upL y.cre r
def lastC (M : Int) : List KV → Int
  | [] => M
  | y :: r => lastC y.cre r
structure TermsIs (s : St) (p : ByteArray) (M : Int) (S : List KV) : Prop where
  up : upL M S
  last : ∀ y ∈ fromL (nowL s) p, lastC M S ≤ y.cre
  there : ∀ y ∈ S, ∃ R, s.low ≤ R ∧ R ≤ s.rev ∧ y ∈ atP s p R
theorem terms_is {s : St} (h : MaySt s) (p : ByteArray) : ∀ (n : Nat) (t M : Int), s.low ≤ t → t ≤ s.rev → (evP s p t).length ≤ n → (∀ x ∈ atP s p t, M ≤ x.cre) → M ≤ t → TermsIs s p M (seen (atP s p t) (evP s p t))
  | n, t, M, hl, ht, hn, hM, hMt => by
    cases he : evP s p t with
    | nil =>
      have hv := view_end h p hl ht
      rw [he] at hv
      have hv : atP s p t = fromL (nowL s) p := hv
      rw [seen_nil]
      exact ⟨trivial, fun y hy => hM y (by rw [hv]; exact hy), fun y hy => by cases hy⟩
    | cons e0 r =>
      obtain ⟨h1, h2, h3, h4⟩ := ev_cut h p he
      rw [← he]
      rw [seen_step _ _ (by rw [he]; simp), h3, h4, view_step h p hl (by omega)]
      have hlen : (evP s p e0.rev).length < (evP s p t).length := by
        rw [← h4, List.length_drop]
        have := runL_pos e0 r
        rw [← he] at this
        rw [he] at *
        simp only [List.length_cons] at *
        omega
      have hM2 : ∀ x ∈ atP s p e0.rev, M ≤ x.cre := fun y hy => by
        by_cases hc : y.cre ≤ t
        · obtain ⟨x, hx, _, hcx⟩ := at_cre h (by omega) hy hc
          have := hM x hx
          omega
        · omega
      match n, hn with
      | 0, hn => omega
      | n + 1, hn =>
        have keep : newB (headL (atP s p t)) (headL (atP s p e0.rev)) = [] ∨ ∃ b, headL (atP s p e0.rev) = some b ∧ newB (headL (atP s p t)) (headL (atP s p e0.rev)) = [b] := by
          cases hb : headL (atP s p e0.rev) with
          | none => left; unfold newB; rfl
          | some b =>
            unfold newB
            cases ha : headL (atP s p t) with
            | none => right; exact ⟨b, rfl, rfl⟩
            | some a =>
              by_cases hk : kvEq b a = true
              · left; simp [hk]
              · right; exact ⟨b, rfl, by simp [hk]⟩
        rcases keep with e | ⟨b, hb, e⟩
        · rw [e, List.nil_append]
          exact terms_is h p n e0.rev M (by omega) h2 (by omega) hM2 (by omega)
        · rw [e]
          have hbm := headL_mem hb
          obtain ⟨b1, b2, b3⟩ := at_one h (by omega) hbm
          have ih := terms_is h p n e0.rev b.cre (by omega) h2 (by omega) (fun x hx => headL_least hb x hx) (by omega)
          refine ⟨⟨hM2 b hbm, ih.up⟩, ih.last, fun y hy => ?_⟩
          rcases List.mem_cons.1 hy with rfl | hy
          · exact ⟨e0.rev, by omega, h2, hbm⟩
          · exact ih.there y hy
theorem seen_none {s : St} (h : MaySt s) (p : ByteArray) : ∀ (n : Nat) (t : Int), s.low ≤ t → t ≤ s.rev → (evP s p t).length ≤ n → seen (atP s p t) (evP s p t) = [] → ∀ x, headL (fromL (nowL s) p) = some x → headL (atP s p t) = some x
  | n, t, hl, ht, hn, hs, x, hx => by
    cases he : evP s p t with
    | nil =>
      have hv := view_end h p hl ht
      rw [he] at hv
      have hv : atP s p t = fromL (nowL s) p := hv
      rw [hv]; exact hx
    | cons e0 r =>
      obtain ⟨h1, h2, h3, h4⟩ := ev_cut h p he
      rw [seen_step _ _ (by rw [he]; simp), h3, h4, view_step h p hl (by omega), List.append_eq_nil_iff] at hs
      have hlen : (evP s p e0.rev).length < (evP s p t).length := by
        rw [← h4, List.length_drop]
        have := runL_pos e0 r
        rw [← he] at this
        rw [he] at *
        simp only [List.length_cons] at *
        omega
      match n, hn with
      | 0, hn => omega
      | n + 1, hn =>
        have ih := seen_none h p n e0.rev (by omega) h2 (by omega) hs.2 x hx
        have h5 := hs.1
        rw [ih] at h5
        unfold newB at h5
        cases ha : headL (atP s p t) with
        | none => rw [ha] at h5; cases h5
        | some a =>
          rw [ha] at h5
          by_cases hk : kvEq x a = true
          · rw [kvEq_iff.1 hk]
          · simp [hk] at h5
/-- What was seen was there at its Mod. -/
theorem seen_there {s : St} (h : MaySt s) {p : ByteArray} {y : KV} {R : Int} (h1 : s.low ≤ R) (h2 : R ≤ s.rev) (hy : y ∈ atP s p R) (hm : s.low ≤ y.mod) : findL (atP s p y.mod) y.key = some y :=
  key_once' _ (at_rises h p hm) y (at_mod h (at_one h h1 hy).2.2 hy (Int.le_refl _))
theorem sorted_get {l : List Int} (hs : l.Pairwise (· ≤ ·)) {i k : Nat} {x y : Int} (hik : i ≤ k) (hx : l[i]? = some x) (hy : l[k]? = some y) : x ≤ y := by
  obtain ⟨h1, rfl⟩ := List.getElem?_eq_some_iff.1 hx
  obtain ⟨h2, rfl⟩ := List.getElem?_eq_some_iff.1 hy
  rcases Nat.lt_or_eq_of_le hik with h | h
  · exact List.pairwise_iff_getElem.1 hs i k h1 h2 h
  · subst h; exact Int.le_refl _
theorem terms_up {l : List Int} (hs : l.Pairwise (· ≤ ·)) : ∀ j, j ≤ l.length → (termsTo l j).Pairwise (· < ·) ∧ (∀ x ∈ termsTo l j, ∃ i, i < j ∧ l[i]? = some x) ∧ (0 < j → (termsTo l j)[0]? = l[0]?)
  | 0, _ => ⟨.nil, fun x hx => by simp [termsTo] at hx, fun h => absurd h (by omega)⟩
  | j + 1, hj => by
    obtain ⟨ih1, ih2, ih3⟩ := terms_up hs j (by omega)
    obtain ⟨a, ha⟩ : ∃ a, l[j]? = some a := ⟨_, List.getElem?_eq_getElem (by omega)⟩
    by_cases h : 0 < j ∧ l[j - 1]? = some a
    · rw [terms_old l j a ha h]
      refine ⟨ih1, fun x hx => ?_, fun _ => ih3 h.1⟩
      obtain ⟨i, hi, hx⟩ := ih2 x hx
      exact ⟨i, by omega, hx⟩
    · rw [terms_new l j a ha h]
      refine ⟨?_, fun x hx => ?_, fun _ => ?_⟩
      · rw [List.pairwise_append]
        refine ⟨ih1, List.pairwise_singleton _ _, fun x hx y hy => ?_⟩
        obtain rfl := List.mem_singleton.1 hy
        obtain ⟨i, hi, hx⟩ := ih2 x hx
        obtain ⟨z, hz⟩ : ∃ z, l[j - 1]? = some z := ⟨_, List.getElem?_eq_getElem (by omega)⟩
        have h1 := sorted_get hs (by omega) hx hz
        have h2 := sorted_get hs (by omega) hz ha
        have h3 : z ≠ y := fun e => h ⟨by omega, by rw [hz, e]⟩
        omega
      · rcases List.mem_append.1 hx with hx | hx
        · obtain ⟨i, hi, hx⟩ := ih2 x hx
          exact ⟨i, by omega, hx⟩
        · obtain rfl := List.mem_singleton.1 hx
          exact ⟨j, by omega, ha⟩
      · by_cases hj0 : j = 0
        · subst hj0
          rw [ha]
          rfl
        · have hpos : (termsTo l j)[0]? = l[0]? := ih3 (by omega)
          obtain ⟨z, hz⟩ : ∃ z, l[0]? = some z := ⟨_, List.getElem?_eq_getElem (by omega)⟩
          rw [hz] at hpos ⊢
          rw [List.getElem?_append_left (List.getElem?_eq_some_iff.1 hpos).1]
          exact hpos
theorem upL_mem : ∀ {M : Int} {S : List KV}, upL M S → ∀ y ∈ S, M ≤ y.cre
  | _, [], _, y, hy => by cases hy
  | M, x :: r, h, y, hy => by
    rcases List.mem_cons.1 hy with rfl | hy
    · exact h.1
    · have := upL_mem h.2 y hy
      have := h.1
      omega
theorem upL_sorted : ∀ {M : Int} {S : List KV}, upL M S → (cresL S).Pairwise (· ≤ ·)
  | _, [], _ => .nil
  | M, x :: r, h => by
    show (x.cre :: cresL r).Pairwise _
    refine .cons (fun z hz => ?_) (upL_sorted h.2)
    obtain ⟨y, hy, rfl⟩ := List.mem_map.1 hz
    exact upL_mem h.2 y hy
theorem lastC_is : ∀ (M : Int) (S : List KV) (y : KV), S[S.length - 1]? = some y → lastC M S = y.cre
  | _, [], y, h => by cases h
  | M, [x], y, h => by obtain rfl := Option.some.inj h; rfl
  | M, x :: z :: r, y, h => lastC_is x.cre (z :: r) y (by simpa using h)
/-- The terms, one behind another. -/
theorem terms_rise {M : Int} {S : List KV} (h : upL M S) {i : Nat} {a b : Int} (ha : (termsL (cresL S))[i]? = some a) (hb : (termsL (cresL S))[i + 1]? = some b) : a < b := by
  obtain ⟨h1, rfl⟩ := List.getElem?_eq_some_iff.1 ha
  obtain ⟨h2, rfl⟩ := List.getElem?_eq_some_iff.1 hb
  exact List.pairwise_iff_getElem.1 (terms_up (upL_sorted h) _ (Nat.le_refl _)).1 i (i + 1) h1 h2 (Nat.lt_succ_self _)
theorem terms_first {M : Int} {S : List KV} (h : upL M S) {a : Int} (ha : (termsL (cresL S))[0]? = some a) : M ≤ a := by
  cases S with
  | nil => cases ha
  | cons x r =>
    have := (terms_up (upL_sorted h) _ (Nat.le_refl _)).2.2 (by simp [cresL])
    unfold termsL at ha
    rw [this] at ha
    obtain rfl := Option.some.inj ha
    exact h.1
end Go.Proofs.YtjjngablalnbeaaDoor.P
/- The document's watch: the events of a prefix from a revision on, few at a time; all of them. -/
namespace Go.Proofs.YtjjngablalnbeaaDoor.P
open Go.RowKit Go.Sort
set_option maxHeartbeats 4000000
set_option linter.unusedVariables false
set_option linter.unusedSimpArgs false
set_option maxRecDepth 100000

theorem beginsr_any (k p : ByteArray) (w : World) (hm : k.size ≤ maxLen) (hm2 : p.size ≤ maxLen) :
    Calls Tryd.prog 54 #[.string k, .string p] w fun e w' => e = .returned (.bool (begins p k)) ∧ w = w' := by
  unfold maxLen at hm hm2
  have hk1 : (k.size : Int) ≤ 9223372036854775807 := by omega
  have hp1 : (p.size : Int) ≤ 9223372036854775807 := by omega
  by_cases h : p.size ≤ k.size
  · have HB := Lib.hid (begins_fit p k)
    have h1 : decide ((p.size : Int) ≤ (k.size : Int)) = true := decide_eq_true (by omega)
    cases hb : begins p k with
    | true =>
      have he : ((k.extract 0 p.size).toList == p.toList) = true := by rw [← HB.out, hb]
      clear hb
      go_enter Tryd.func54, Tryd.ntmps54
      go_wp2
      go_ret
      exact ⟨rfl, rfl⟩
    | false =>
      have he : ((k.extract 0 p.size).toList == p.toList) = false := by rw [← HB.out, hb]
      clear hb
      go_enter Tryd.func54, Tryd.ntmps54
      go_wp2
      go_ret
      exact ⟨rfl, rfl⟩
  · rw [begins_long (by omega)]
    have h1 : decide ((p.size : Int) ≤ (k.size : Int)) = false := decide_eq_false (by omega)
    go_enter Tryd.func54, Tryd.ntmps54
    go_wp2
    go_ret
    exact ⟨rfl, rfl⟩
theorem Ev.cells_len8 (x : Ev) : x.cells.length = 8 := rfl
theorem ev_one {x : Ev} : ∀ v ∈ x.cells, v.oneCell' = true := fun v hv => by simp [Ev.cells] at hv; rcases hv with rfl | rfl | rfl | rfl | rfl | rfl | rfl | rfl <;> rfl
theorem ev_infoR : (Tryd.prog.info? 54).map (fun i => (i.zero, i.size, i.bytes)) = some (some (.agg #[.int .i64 0, .bool false, .string ⟨#[]⟩, .string ⟨#[]⟩, .int .i64 0, .int .i64 0, .int .i64 0, .int .i64 0]), 8, 80) := by kernel_rfl
theorem app_ev (base : Nat) (B : Option Addr) (n d : Nat) (xs : List Ev) (w : World) (hown : ownG Ev.cells 8 54 w base B n d xs) (A : Option Addr) (m c : Nat) (l : List Ev) (h : RowsOf Ev.cells 8 w A m c l) (hn : n + m ≤ 1000000) (hb : base ≤ w.heap.size) :
    ∃ B' d' w', (Builtin.append_ #[35, 35] 35 #[.slice B n d, .slice A m c]).run Tryd.prog w = .ok (.slice B' (n + m) d') w' ∧ ownG Ev.cells 8 54 w' base B' (n + m) d' (xs ++ l) ∧ Below base w w' ∧ w.grownBy w' (Value.slice B n d).ownBlock := by
  obtain ⟨i0, hi0, hz0, hz1, hz2⟩ := info_partsT ev_infoR
  exact app_rows Ev.cells_len8 (by omega) (fun x v hv => ev_one v hv) Tryd.underlying35 hi0 hz0 hz1 hz2 rfl (by omega) base B n d xs w hown A m c l h hn hb
/-- The events of a prefix from a revision on. -/
def fltS (s : St) (p : ByteArray) (rev : Int) : List Ev := s.log.filter fun e => decide (rev ≤ e.rev) && begins p e.kv.key
def fltTo (s : St) (p : ByteArray) (rev : Int) (j : Nat) : List Ev := (s.log.take j).filter fun e => decide (rev ≤ e.rev) && begins p e.kv.key
theorem fltTo_yes {s : St} {p : ByteArray} {rev : Int} {j : Nat} {e : Ev} (h : s.log[j]? = some e) (h1 : rev ≤ e.rev) (h2 : begins p e.kv.key = true) : fltTo s p rev (j + 1) = fltTo s p rev j ++ [e] := by
  unfold fltTo
  rw [take_succ s.log j e h, List.filter_append, List.filter_cons_of_pos (by simp [h1, h2])]
  rfl
theorem fltTo_no {s : St} {p : ByteArray} {rev : Int} {j : Nat} {e : Ev} (h : s.log[j]? = some e) (h1 : ¬ (rev ≤ e.rev ∧ begins p e.kv.key = true)) : fltTo s p rev (j + 1) = fltTo s p rev j := by
  unfold fltTo
  rw [take_succ s.log j e h, List.filter_append, List.filter_cons_of_neg (by simpa using h1)]
  simp
theorem fltTo_len (s : St) (p : ByteArray) (rev : Int) (j : Nat) : (fltTo s p rev j).length ≤ j := Nat.le_trans (List.length_filter_le _ _) (by rw [List.length_take]; omega)
theorem fltTo_mem {s : St} {p : ByteArray} {rev : Int} {j : Nat} {x : Ev} (h : x ∈ fltTo s p rev j) : x ∈ s.log := List.mem_of_mem_take (List.mem_filter.1 h).1
/-- What is told, where so many may be told: the events, where to go on, and what is wrong. -/
def sinceV (s : St) (al : List Ev) (most : Nat) : List Ev × Int × Int :=
  if al.length ≤ most then (al, s.rev + 1, 0) else
  match al[most]?, al[0]? with
  | some e, some f => if e.rev = f.rev then ([], 0, 4) else (al.takeWhile fun x => decide (x.rev < e.rev), e.rev, 0)
  | _, _ => ([], 0, 4)
def sinceR (s : St) (p : ByteArray) (rev : Int) (most : Nat) : List Ev × Int × Int := if rev ≤ s.low then ([], 0, 9) else sinceV s (fltS s p rev) most
def SinceEnd (r : List Ev × Int × Int) (w : World) (e : Ending) (w' : World) : Prop := ∃ B d, e = .returned (.tuple #[.slice B r.1.length d, .int .i64 r.2.1, .int .i64 r.2.2]) ∧ RowsOf Ev.cells 8 w' B r.1.length d r.1 ∧ (∀ x ∈ r.1, x.ok) ∧ Below w.heap.size w w'
theorem SinceEnd.mk {r : List Ev × Int × Int} {l : List Ev} {a b : Int} {w : World} {e : Ending} {w' : World} {B : Option Addr} {d : Nat} (h : r = (l, a, b)) (he : e = .returned (.tuple #[.slice B l.length d, .int .i64 a, .int .i64 b])) (hr : RowsOf Ev.cells 8 w' B l.length d l) (ok : ∀ x ∈ l, x.ok) (hb : Below w.heap.size w w') : SinceEnd r w e w' := by
  subst h
  exact ⟨B, d, he, hr, ok, hb⟩
theorem while_is {al : List Ev} {nx : Int} {j : Nat} {y : Ev} (h : ∀ k x, k < j → al[k]? = some x → x.rev < nx) (hy : al[j]? = some y) (hn : ¬ y.rev < nx) : (al.takeWhile fun x => decide (x.rev < nx)) = al.take j := by
  induction al generalizing j with
  | nil => simp
  | cons a r ih =>
    cases j with
    | zero =>
      obtain rfl : a = y := by simpa using hy
      rw [List.takeWhile_cons_of_neg (by simpa using hn)]
      rfl
    | succ j =>
      have h0 := h 0 a (by omega) rfl
      rw [List.takeWhile_cons_of_pos (by simpa using h0), List.take_succ_cons]
      congr 1
      exact ih (fun k x hk hx => h (k + 1) x (by omega) (by simpa using hx)) (by simpa using hy)
theorem since_any (s : St) (A : Option Addr) (n c : Nat) (B : Option Addr) (m d : Nat) (p : ByteArray) (rev : Int) (most : Nat) (w : World) (h : StAt w s A n c B m d) (hm : m ≤ 1000) (hp : p.size ≤ maxLen) (hs : s.rev ≤ 1099511627774) (h1 : 1 ≤ rev) (h2 : rev ≤ s.rev + 1) (hm1 : 1 ≤ most) (hm2 : most ≤ 30) :
    Calls Tryd.prog 44 #[s.agg A n c B m d, .string p, .int .i64 rev, .int .i64 most] w (SinceEnd (sinceR s p rev most) w) := by
  obtain ⟨r1, r2⟩ := h.rev
  obtain ⟨l1, l2⟩ := h.low
  have hn := h.ev.len
  have OKE := Lib.hid h.ev.ok
  have HP := Lib.hid hp
  have H0 := Lib.hid (h.keep (new1 w (.cells (stCells s A n c B m d) 42)))
  have O0 := Lib.hid (own_new w (stCells s A n c B m d) 42)
  have B0 := Lib.hid (new1 w (.cells (stCells s A n c B m d) 42))
  have G0 : Hid (w.heap.size ≤ w.heap.size ∧ w.heap.size < (w.alloc (.cells (stCells s A n c B m d) 42)).heap.size) := Lib.hid ⟨Nat.le_refl _, by simp⟩
  have d1 : decide ((most : Int) < 1) = false := decide_eq_false (by omega)
  have d2 : decide ((30 : Int) < (most : Int)) = false := decide_eq_false (by omega)
  have d3 : decide (rev < 1) = false := decide_eq_false (by omega)
  have d4 : decide (s.rev + 1 < rev) = false := decide_eq_false (by omega)
  have HN := Lib.hid hn
  clear h hp hn
  by_cases hlow : rev ≤ s.low
  · have hl1 : decide (rev ≤ s.low) = true := decide_eq_true hlow
    have HV := Lib.hid (show sinceR s p rev most = ([], 0, 9) by unfold sinceR; rw [if_pos hlow])
    have q0 := O0.out.cell 0 (.int .i64 s.rev) rfl
    have q1 := O0.out.cell 1 (.int .i64 s.low) rfl
    go_enter Tryd.func44, Tryd.ntmps44
    go_wp2
    exact bodyPost_ret (v := .tuple #[.slice none 0 0, .int .i64 0, .int .i64 9]) (by simp [results, Tryd.results44, go_sem]) rfl (SinceEnd.mk HV.out rfl (RowsOf.bare _) (fun x hx => by cases hx) B0.out)
  · have hl1 : decide (rev ≤ s.low) = false := decide_eq_false hlow
    have HV := Lib.hid (show sinceR s p rev most = sinceV s (fltTo s p rev m) most by
      unfold sinceR
      rw [if_neg hlow]
      unfold fltTo fltS
      rw [List.take_of_length_le (by rw [HN.out]; exact Nat.le_refl _)])
    clear hlow
    have q0 := O0.out.cell 0 (.int .i64 s.rev) rfl
    have q1 := O0.out.cell 1 (.int .i64 s.low) rfl
    go_enter Tryd.func44, Tryd.ntmps44
    go_upto_region 7 with fail
    clear q0 q1
    generalize w.alloc (.cells (stCells s A n c B m d) 42) = w0 at *
    go_wp2
    go_loopw [11, 12] (fun v iv wr => ∃ (j : Nat) (X : Option Addr) (dX : Nat), j ≤ m ∧ iv = .int .i64 j ∧ v = .slice X (fltTo s p rev j).length dX ∧ ownG Ev.cells 8 54 wr w0.heap.size X (fltTo s p rev j).length dX (fltTo s p rev j) ∧ Below w0.heap.size w0 wr) (fun _ iv _ => m - (intOf iv).toNat)
    case atStart => exact ⟨0, none, 0, Nat.zero_le _, rfl, rfl, ownG_nil _ _ _ _ _, Below.refl _ _⟩
    case round =>
      rename World => wr
      obtain ⟨j, X, dX, hj, rfl, rfl, hX, hb⟩ := hrel
      have XO := Lib.hid hX
      have BR := Lib.hid hb
      have OR := Lib.hid (O0.out.below hb)
      have HR := Lib.hid (H0.out.keep hb)
      have hfl := fltTo_len s p rev j
      clear hX hb
      have q3 := OR.out.cell 3 (.slice B m d) rfl
      by_cases hlt : j < m
      · obtain ⟨b, e, rfl, hbl, hx, hok, hc⟩ := HR.out.ev.at_ hlt
        have hlt1 : (j : Int) < m := by omega
        have YES := Lib.hid (fltTo_yes (p := p) (rev := rev) hx)
        have NO := Lib.hid (fltTo_no (p := p) (rev := rev) hx)
        have HX := Lib.hid hx
        have KOK := Lib.hid hok.kv.key
        obtain ⟨e0, e1, e2, e3, e4, e5, e6, e7⟩ := hc
        clear hx hok
        generalize fltTo s p rev j = o at *
        by_cases hr : rev ≤ e.rev
        · have hr1 : decide (rev ≤ e.rev) = true := decide_eq_true hr
          have cb := beginsr_any e.kv.key p wr KOK.out HP.out
          cases hbg : begins p e.kv.key with
          | true =>
            rw [hbg] at cb
            have HE := Lib.hid (YES.out hr hbg)
            clear YES NO hr hbg
            obtain ⟨X', dX', w4, hr4, ho4, hb4, _⟩ := app_ev w0.heap.size X o.length dX o _ (ownG_keep XO.out (new1 wr (e.obj 54))) (some ⟨wr.heap.size, 0, none⟩) 1 1 [e] (rows_new Ev.cells_len8 wr e _ rfl) (by omega) (Nat.le_trans BR.out.size (new1 wr (e.obj 54)).size)
            have B4 := Lib.hid ((BR.out.trans ((new1 wr (e.obj 54)).mono BR.out.size)).trans hb4)
            have O4 := Lib.hid ho4
            clear hb4 ho4
            go_wp2_with fail
            refine cb.mono ?_; rintro _ w' ⟨rfl, rfl⟩
            go_wp2_with (at_builtin; refine wpList_append_eq _ rfl (.tmp 61) (.tmp 67) _ _ rfl _ _ rfl rfl hr4 ?_)
            go_roundw
            case rel => exact ⟨j + 1, X', dX', by omega, by go_num, by rw [HE.out, List.length_append]; rfl, by rw [HE.out, List.length_append]; exact O4.out, B4.out⟩
            case measure => simp [intOf]; omega
          | false =>
            rw [hbg] at cb
            have HE := Lib.hid (NO.out (fun h => by rw [hbg] at h; cases h.2))
            clear YES NO hr hbg
            go_wp2_with fail
            refine cb.mono ?_; rintro _ w' ⟨rfl, rfl⟩
            go_wp2
            go_roundw
            case rel => exact ⟨j + 1, X, dX, by omega, by go_num, by rw [HE.out], by rw [HE.out]; exact XO.out, BR.out⟩
            case measure => simp [intOf]; omega
        · have hr1 : decide (rev ≤ e.rev) = false := decide_eq_false hr
          have HE := Lib.hid (NO.out (fun h => hr h.1))
          clear YES NO hr
          go_wp2
          go_roundw
          case rel => exact ⟨j + 1, X, dX, by omega, by go_num, by rw [HE.out], by rw [HE.out]; exact XO.out, BR.out⟩
          case measure => simp [intOf]; omega
      · have hjm : m = j := by omega
        subst hjm
        have ALOK := Lib.hid (show ∀ x ∈ fltTo s p rev m, x.ok from fun x hx => OKE.out x (fltTo_mem hx))
        have q0 := OR.out.cell 0 (.int .i64 s.rev) rfl
        generalize fltTo s p rev m = al at *
        have RW := Lib.hid (ownG_rows Ev.cells_len8 (by omega) XO.out)
        have BF := Lib.hid (B0.out.trans (BR.out.mono (by have := G0.out; omega)))
        by_cases hle : al.length ≤ most
        · have hle1 : decide ((al.length : Int) ≤ (most : Int)) = true := decide_eq_true (by omega)
          have hle2 : (al.length : Int) ≤ (most : Int) := by omega
          have HV2 := Lib.hid (HV.out.trans (show sinceV s al most = (al, s.rev + 1, 0) by unfold sinceV; rw [if_pos hle]))
          clear hle
          go_wp2
          go_quiet (fail)
          go_wp2
          refine bodyPost_ret (v := .tuple #[.slice X al.length dX, .int .i64 (s.rev + 1), .int .i64 0]) (by simp [results, Tryd.results44, go_sem]) rfl (SinceEnd.mk HV2.out rfl (RW.out.below (below_drewN (Below.refl _ _) _)) ALOK.out (below_drewN BF.out _))
        · have hle1 : decide ((al.length : Int) ≤ (most : Int)) = false := decide_eq_false (by omega)
          have hle2 : ¬ ((al.length : Int) ≤ (most : Int)) := by omega
          have hmo : most < al.length := by omega
          have hmo1 : (most : Int) < (al.length : Int) := by omega
          have hal0 : 0 < al.length := by omega
          have hal1 : (0 : Int) < (al.length : Int) := by omega
          have EV := Lib.hid (ev_of_rows RW.out ALOK.out)
          obtain ⟨b, ee, hXb, hbl, hee, _, hce⟩ := EV.out.at_ hmo
          obtain ⟨b', ef, eb, _, hef, _, hcf⟩ := EV.out.at_ hal0
          rw [hXb] at eb
          obtain rfl := Option.some.inj eb
          subst hXb
          rw [Nat.zero_mul, Addr.add_zero'] at hcf
          have ee0 := hce.c0
          have ef0 := hcf.c0
          clear hce hcf eb
          by_cases hsame : ee.rev = ef.rev
          · have hs1 : (ee.rev == ef.rev) = true := by simp [hsame]
            have HV2 := Lib.hid (HV.out.trans (show sinceV s al most = ([], 0, 4) by unfold sinceV; rw [if_neg hle, hee, hef]; simp only; rw [if_pos hsame]))
            clear hle hsame hee hef
            go_wp2
            exact bodyPost_ret (v := .tuple #[.slice none 0 0, .int .i64 0, .int .i64 4]) (by simp [results, Tryd.results44, go_sem]) rfl (SinceEnd.mk HV2.out rfl (RowsOf.bare _) (fun x hx => by cases hx) BF.out)
          · have hs1 : (ee.rev == ef.rev) = false := by simp [hsame]
            have HV2 := Lib.hid (HV.out.trans (show sinceV s al most = (al.takeWhile (fun x => decide (x.rev < ee.rev)), ee.rev, 0) by unfold sinceV; rw [if_neg hle, hee, hef]; simp only; rw [if_neg hsame]))
            have NXE : Hid (∀ y, al[most]? = some y → ¬ y.rev < ee.rev) := Lib.hid (fun y hy => by rw [hee] at hy; obtain rfl := Option.some.inj hy; omega)
            clear hle hsame hee hef HV
            generalize ee.rev = nx at *
            go_wp2
            go_loopw [14, 15] (fun v iv wq => ∃ (k : Nat) (Y : Option Addr) (dY : Nat), k ≤ most ∧ iv = .int .i64 k ∧ v = .slice Y k dY ∧ ownG Ev.cells 8 54 wq wr.heap.size Y k dY (al.take k) ∧ (∀ i x, i < k → al[i]? = some x → x.rev < nx) ∧ Below wr.heap.size wr wq) (fun _ iv _ => most - (intOf iv).toNat)
            case atStart => exact ⟨0, none, 0, Nat.zero_le _, rfl, rfl, ownG_nil _ _ _ _ _, fun i x hi => by omega, Below.refl _ _⟩
            case round =>
              rename World => wq
              obtain ⟨k, Y, dY, hk, rfl, rfl, hY, hall, hb⟩ := hrel
              have YO := Lib.hid hY
              have BQ := Lib.hid hb
              have ALL := Lib.hid hall
              have EVq := Lib.hid (EV.out.keep hb)
              clear hY hb hall
              have hkl : k < al.length := by omega
              have hkl1 : (k : Int) < (al.length : Int) := by omega
              have hkb : decide (k < al.length) = true := decide_eq_true hkl
              have hkb1 : decide ((k : Int) < (al.length : Int)) = true := decide_eq_true hkl1
              obtain ⟨b', x, eb, _, hx, _, hc⟩ := EVq.out.at_ hkl
              obtain rfl := Option.some.inj eb
              obtain ⟨x0, x1, x2, x3, x4, x5, x6, x7⟩ := hc
              have HX := Lib.hid hx
              clear eb hx
              by_cases hxn : x.rev < nx
              · have hx1 : decide (x.rev < nx) = true := decide_eq_true hxn
                have HNX := Lib.hid hxn
                have hkm : k < most := by
                  rcases Nat.lt_or_eq_of_le hk with h | h
                  · exact h
                  · exfalso
                    have hq := NXE.out x (by rw [← h]; exact HX.out)
                    omega
                have TK := Lib.hid (take_succ al k x HX.out)
                clear hxn
                obtain ⟨Y', dY', w4, hr4, ho4, hb4, _⟩ := app_ev wr.heap.size Y k dY (al.take k) _ (ownG_keep YO.out (new1 wq (x.obj 54))) (some ⟨wq.heap.size, 0, none⟩) 1 1 [x] (rows_new Ev.cells_len8 wq x _ rfl) (by omega) (Nat.le_trans BQ.out.size (new1 wq (x.obj 54)).size)
                have B4 := Lib.hid ((BQ.out.trans ((new1 wq (x.obj 54)).mono BQ.out.size)).trans hb4)
                have O4 := Lib.hid ho4
                clear hb4 ho4
                go_wp2_with (at_builtin; refine wpList_append_eq _ rfl (.tmp 103) (.tmp 108) _ _ rfl _ _ rfl rfl hr4 ?_)
                go_roundw
                case rel => exact ⟨k + 1, Y', dY', by omega, by go_num, rfl, by rw [TK.out]; exact O4.out, (fun i y hi hy => by
                  by_cases e : i = k
                  · subst e; rw [HX.out] at hy; obtain rfl := Option.some.inj hy; exact HNX.out
                  · exact ALL.out i y (by omega) hy), B4.out⟩
                case measure => simp [intOf]; omega
              · have hx1 : decide (x.rev < nx) = false := decide_eq_false hxn
                have HW := Lib.hid (while_is ALL.out HX.out hxn)
                clear hxn
                have HLT : Hid ((al.take k).length = k) := Lib.hid (by rw [List.length_take]; omega)
                have RQ := Lib.hid (ownG_rows Ev.cells_len8 (by omega) YO.out)
                go_wp2
                refine bodyPost_ret (v := .tuple #[.slice Y k dY, .int .i64 nx, .int .i64 0]) (by simp [results, Tryd.results44, go_sem]) rfl (SinceEnd.mk (l := al.take k) (a := nx) (b := 0) (B := Y) (d := dY) (by rw [HV2.out, HW.out]) (by rw [HLT.out]) (by rw [HLT.out]; exact RQ.out) (fun x hx => ALOK.out x (List.mem_of_mem_take hx)) (BF.out.trans (BQ.out.mono BF.out.size)))
end Go.Proofs.YtjjngablalnbeaaDoor.P
/- The document's watch: all events of a prefix from a revision on, gone on to the end. -/
namespace Go.Proofs.YtjjngablalnbeaaDoor.P
open Go.RowKit Go.Sort
set_option maxHeartbeats 4000000
set_option linter.unusedVariables false
set_option linter.unusedSimpArgs false
set_option maxRecDepth 100000

theorem while_sorted (nx : Int) : ∀ l : List Ev, l.Pairwise (fun x y => x.rev ≤ y.rev) → l = (l.takeWhile fun x => decide (x.rev < nx)) ++ l.filter fun x => decide (nx ≤ x.rev)
  | [], _ => rfl
  | a :: r, h => by
    rw [List.pairwise_cons] at h
    by_cases ha : a.rev < nx
    · rw [List.takeWhile_cons_of_pos (by simpa using ha), List.filter_cons_of_neg (by simp; omega), List.cons_append, ← while_sorted nx r h.2]
    · rw [List.takeWhile_cons_of_neg (by simpa using ha), List.nil_append, eq_comm, List.filter_eq_self]
      intro x hx
      rcases List.mem_cons.1 hx with rfl | hx
      · simp; omega
      · have := h.1 x hx
        simp; omega
theorem flt_end {s : St} (h : MaySt s) (p : ByteArray) {nx : Int} (hn : s.rev < nx) : fltS s p nx = [] := by
  unfold fltS
  rw [List.filter_eq_nil_iff]
  intro e he
  have := (mayLog_in _ _ _ h.log e he).2
  simp
  intro h1
  omega
theorem since_ok {s : St} (h : MaySt s) (p : ByteArray) {rev : Int} {most : Nat} {out : List Ev} {nx : Int} (hr : rev ≤ s.rev + 1) (hm : 1 ≤ most) (e : sinceR s p rev most = (out, nx, 0)) :
    (nx ≤ s.rev → rev < nx) ∧ nx ≤ s.rev + 1 ∧ fltS s p rev = out ++ fltS s p nx := by
  unfold sinceR at e
  split at e
  · cases e
  · unfold sinceV at e
    split at e
    · cases e
      exact ⟨fun h => by omega, by omega, by rw [flt_end h p (show s.rev < s.rev + 1 by omega), List.append_nil]⟩
    · rename_i hle
      have hpw : (fltS s p rev).Pairwise fun x y => x.rev ≤ y.rev := h.sorted.filter _
      have hin : ∀ x ∈ fltS s p rev, rev ≤ x.rev ∧ x.rev ≤ s.rev := fun x hx => by
        obtain ⟨h1, h2⟩ := List.mem_filter.1 hx
        rw [Bool.and_eq_true, decide_eq_true_eq] at h2
        exact ⟨h2.1, (mayLog_in _ _ _ h.log x h1).2⟩
      cases he : (fltS s p rev)[most]? with
      | none => rw [he] at e; cases e
      | some x =>
        cases hf : (fltS s p rev)[0]? with
        | none => rw [he, hf] at e; cases e
        | some f =>
          rw [he, hf] at e
          simp only at e
          split at e
          · cases e
          · rename_i hne
            cases e
            have hx := hin x (List.mem_of_getElem? he)
            have hff := hin f (List.mem_of_getElem? hf)
            have hfx : f.rev ≤ x.rev := by
              obtain ⟨g1, rfl⟩ := List.getElem?_eq_some_iff.1 he
              obtain ⟨g2, rfl⟩ := List.getElem?_eq_some_iff.1 hf
              exact List.pairwise_iff_getElem.1 hpw 0 most g2 g1 (by omega)
            refine ⟨fun _ => by omega, by omega, ?_⟩
            conv => lhs; rw [while_sorted x.rev _ hpw]
            congr 1
            unfold fltS
            rw [List.filter_filter]
            congr 1
            funext y
            by_cases h1 : x.rev ≤ y.rev
            · simp [h1, show rev ≤ y.rev by omega]
            · simp [h1]
def AllEnd (l : List Ev) (w : World) (e : Ending) (w' : World) : Prop := ∃ B d o er, e = .returned (.tuple #[.slice B (o : List Ev).length d, .int .i64 er]) ∧ Evs w' B o.length d o ∧ (er = 0 → o = l) ∧ Below w.heap.size w w'
theorem all_ref (s : St) (A : Option Addr) (n c : Nat) (B : Option Addr) (m d : Nat) (p : ByteArray) (rev : Int) (w : World) (h : StAt w s A n c B m d) (hs : MaySt s) (hp : p.size ≤ maxLen) (h1 : 1 ≤ rev) (h2 : rev ≤ s.rev + 1) :
    Calls Tryd.prog 25 #[s.agg A n c B m d, .string p, .int .i64 rev, .int .i64 30] w (AllEnd (fltS s p rev) w) := by
  have hlog := hs.len
  have hmax := hs.max
  have hm : m ≤ 60 := by rw [← h.ev.len]; exact hlog
  have OKE := Lib.hid h.ev.ok
  have HS := Lib.hid hs
  have HP := Lib.hid hp
  have HLN := Lib.hid h.ev.len
  have H0 := Lib.hid (h.keep (new1 w (.cells (stCells s A n c B m d) 42)))
  have O0 := Lib.hid (own_new w (stCells s A n c B m d) 42)
  have B0 := Lib.hid (new1 w (.cells (stCells s A n c B m d) 42))
  have G0 : Hid (w.heap.size ≤ w.heap.size ∧ w.heap.size < (w.alloc (.cells (stCells s A n c B m d) 42)).heap.size) := Lib.hid ⟨Nat.le_refl _, by simp⟩
  clear h hp hs hlog
  go_enter Tryd.func25, Tryd.ntmps25
  go_upto_region 1 with fail
  generalize w.alloc (.cells (stCells s A n c B m d) 42) = w0 at *
  go_wp2
  go_loopw [2, 10] (fun rvv ov wr => ∃ (rv : Int) (X : Option Addr) (dX : Nat) (o : List Ev), rvv = .int .i64 rv ∧ ov = .slice X o.length dX ∧ ownG Ev.cells 8 54 wr w0.heap.size X o.length dX o ∧ 1 ≤ rv ∧ rv ≤ s.rev + 1 ∧ Hid (o ++ fltS s p rv = fltS s p rev) ∧ Below w0.heap.size w0 wr) (fun rvv _ _ => (s.rev + 1 - intOf rvv).toNat)
  case atStart => exact ⟨rev, none, 0, [], rfl, rfl, ownG_nil _ _ _ _ _, h1, h2, Lib.hid rfl, Below.refl _ _⟩
  case round =>
    rename World => wr
    obtain ⟨rv, X, dX, o, rfl, rfl, hX, g1, g2, HO, hb⟩ := hrel
    have XO := Lib.hid hX
    have BR := Lib.hid hb
    have OR := Lib.hid (O0.out.below hb)
    have HR := Lib.hid (H0.out.keep hb)
    have hol : o.length ≤ 60 := by
      have h3 := congrArg List.length HO.out
      rw [List.length_append] at h3
      have h4 : (fltS s p rev).length ≤ s.log.length := List.length_filter_le _ _
      rw [HLN.out] at h4
      omega
    have q0 := OR.out.cell 0 (.int .i64 s.rev) rfl
    have q1 := OR.out.cell 1 (.int .i64 s.low) rfl
    have q2 := OR.out.cell 2 (.slice A n c) rfl
    have q3 := OR.out.cell 3 (.slice B m d) rfl
    have cs := since_any s A n c B m d p rv 30 wr HR.out (by omega) HP.out hmax g1 g2 (by omega) (by omega)
    have OKS := Lib.hid (fun (out : List Ev) (nx : Int) (e : sinceR s p rv 30 = (out, nx, 0)) => since_ok HS.out p g2 (by omega) e)
    clear hX hb
    rcases hq : sinceR s p rv 30 with ⟨out, nx, er⟩
    rw [hq] at cs OKS
    clear hq
    unfold SinceEnd at cs
    simp only at cs
    go_wp2_with fail
    refine cs.mono ?_; rintro e w2 ⟨S, dS, rfl, hr, hok, hb⟩
    have RS := Lib.hid hr
    have OKO := Lib.hid hok
    have X2 := Lib.hid (ownG_keep XO.out hb)
    have B2 := Lib.hid (BR.out.trans (hb.mono BR.out.size))
    clear hr hok hb cs q0 q1 q2 q3 XO BR OR HR
    by_cases her : er = 0
    · subst her
      obtain ⟨k1, k2, k3⟩ := OKS.out out nx rfl
      have HNX := Lib.hid k1
      have hout : out.length ≤ 60 := by
        have h3 := congrArg List.length k3
        rw [List.length_append] at h3
        have h4 : (fltS s p rv).length ≤ s.log.length := List.length_filter_le _ _
        rw [HLN.out] at h4
        omega
      have HO2 : Hid ((o ++ out) ++ fltS s p nx = fltS s p rev) := Lib.hid (by rw [List.append_assoc, ← k3]; exact HO.out)
      clear k1 k3 OKS
      obtain ⟨X', dX', w4, hr4, ho4, hb4, _⟩ := app_ev w0.heap.size X o.length dX o w2 X2.out S out.length dS out RS.out (by omega) B2.out.size
      have B4 := Lib.hid (B2.out.trans hb4)
      have O4 := Lib.hid ho4
      have q0 := (O0.out.low B4.out (by have := G0.out; omega)).cell 0 (.int .i64 s.rev) rfl
      clear hb4 ho4 X2 B2 RS
      by_cases hnx : s.rev < nx
      · have hn1 : decide (s.rev < nx) = true := decide_eq_true hnx
        have HE : Hid (o ++ out = fltS s p rev) := Lib.hid (by have h3 := HO2.out; rwa [flt_end HS.out p hnx, List.append_nil] at h3)
        have EOK := Lib.hid (show ∀ x ∈ o ++ out, x.ok from fun x hx => by rw [HE.out] at hx; exact OKE.out x (List.mem_filter.1 hx).1)
        have HLE : Hid (o.length + out.length = (o ++ out).length) := Lib.hid List.length_append.symm
        have RW := Lib.hid (ev_of_rows (ownG_rows Ev.cells_len8 (by omega) O4.out) EOK.out)
        clear hnx
        go_wp2_with (at_builtin; refine wpList_append_eq _ rfl (.tmp 26) (.tmp 27) _ _ rfl _ _ rfl rfl hr4 ?_)
        refine bodyPost_ret (v := .tuple #[.slice X' (o.length + out.length) dX', .int .i64 0]) (by simp [results, Tryd.results25, go_sem]) rfl ⟨X', dX', o ++ out, 0, by rw [HLE.out], by rw [← HLE.out]; exact RW.out, fun _ => HE.out, B0.out.trans (B4.out.mono (by have := G0.out; omega))⟩
      · have hn1 : decide (s.rev < nx) = false := decide_eq_false hnx
        have hrv := HNX.out (by omega)
        go_wp2_with (at_builtin; refine wpList_append_eq _ rfl (.tmp 26) (.tmp 27) _ _ rfl _ _ rfl rfl hr4 ?_)
        go_roundw
        case rel => exact ⟨nx, X', dX', o ++ out, rfl, by rw [List.length_append], by rw [List.length_append]; exact O4.out, by omega, k2, HO2.out, B4.out⟩
        case measure => simp [intOf]; omega
    · have hne : (er != 0) = true := by simp [her]
      have HER := Lib.hid her
      clear her
      go_wp2
      refine bodyPost_ret (v := .tuple #[.slice none 0 0, .int .i64 er]) (by simp [results, Tryd.results25, go_sem]) rfl ⟨none, 0, [], er, rfl, evs_bare _, fun h => absurd h HER.out, B0.out.trans (B2.out.mono (by have := G0.out; omega))⟩
end Go.Proofs.YtjjngablalnbeaaDoor.P
/- What the law ElectTerms wants, plain, in the words of the store's own answers. -/
namespace Go.Proofs.YtjjngablalnbeaaDoor.P
open Go.RowKit Go.Sort
set_option maxHeartbeats 1000000
set_option linter.unusedVariables false
set_option linter.unusedSimpArgs false

theorem flt_ev (s : St) (p : ByteArray) (t : Int) : fltS s p (t + 1) = evP s p t := by
  unfold fltS evP above
  rw [List.filter_filter]
  congr 1
  funext e
  by_cases h : e.rev ≤ t
  · simp [h, show ¬ t + 1 ≤ e.rev by omega]
  · simp [h, show t + 1 ≤ e.rev by omega]
theorem at_kept {s : St} {t : Int} (h1 : 1 ≤ t) (h : atE s t = 0) : s.low ≤ t ∧ t ≤ s.rev ∧ atL s t = foldL s.base s.log t := by
  unfold atE at h
  rw [if_neg (by omega)] at h
  obtain ⟨k1, k2, k3⟩ := kept_le h
  refine ⟨k2, k3, ?_⟩
  unfold atL
  rw [if_neg (by omega), if_pos h]
structure TermsAll (s : St) (p : ByteArray) (S : List KV) (x y : KV) (b c : Bool) : Prop where
  rise : ∀ i u v, (termsL (cresL S))[i]? = some u → (termsL (cresL S))[i + 1]? = some v → u < v
  first : ∀ u, (termsL (cresL S))[0]? = some u → x.cre ≤ u
  last : c = true → ∀ z, S[S.length - 1]? = some z → z.cre ≤ y.cre
  none_ : c = true → S = [] → b = true ∧ y = x
  there : ∀ z ∈ S, 1 ≤ z.mod ∧ (atE s z.mod = 0 → findL (fromL (atL s z.mod) p) z.key = some z)
theorem terms_all {s : St} (h : MaySt s) (p : ByteArray) {t : Int} (h1 : 1 ≤ t) (he : atE s t = 0) :
    viewL (fromL (atL s t) p) (fltS s p (t + 1)) = fromL (nowL s) p ∧
    TermsAll s p (seen (fromL (atL s t) p) (fltS s p (t + 1))) ((headL (fromL (atL s t) p)).getD zK) ((headL (fromL (nowL s) p)).getD zK) (headL (fromL (atL s t) p)).isSome (headL (fromL (nowL s) p)).isSome := by
  obtain ⟨k1, k2, k3⟩ := at_kept h1 he
  rw [k3, flt_ev]
  have e1 : fromL (foldL s.base s.log t) p = atP s p t := rfl
  rw [e1]
  have hM : ∀ z ∈ atP s p t, ((headL (atP s p t)).getD zK).cre ≤ z.cre := fun z hz => by
    cases hh : headL (atP s p t) with
    | none =>
      have h0 := headL_some (atP s p t)
      rw [hh] at h0
      cases hq : atP s p t with
      | nil => rw [hq] at hz; cases hz
      | cons a r => rw [hq] at h0; cases h0
    | some x => exact headL_least hh z hz
  have hMt : ((headL (atP s p t)).getD zK).cre ≤ t := by
    cases hh : headL (atP s p t) with
    | none => show (0 : Int) ≤ t; omega
    | some x =>
      obtain ⟨o1, o2, o3⟩ := at_one h k1 (headL_mem hh)
      show x.cre ≤ t
      omega
  have TI := terms_is h p _ t ((headL (atP s p t)).getD zK).cre k1 k2 (Nat.le_refl _) hM hMt
  refine ⟨view_end h p k1 k2, ⟨fun i u v => terms_rise TI.up, fun u => terms_first TI.up, fun hc z hz => ?_, fun hc hs => ?_, fun z hz => ?_⟩⟩
  · cases hh : headL (fromL (nowL s) p) with
    | none => rw [hh] at hc; cases hc
    | some y =>
      have := TI.last y (headL_mem hh)
      rw [lastC_is _ _ z hz] at this
      exact this
  · cases hh : headL (fromL (nowL s) p) with
    | none => rw [hh] at hc; cases hc
    | some y =>
      have := seen_none h p _ t k1 k2 (Nat.le_refl _) hs y hh
      rw [this]
      exact ⟨rfl, rfl⟩
  · obtain ⟨R, r1, r2, hzR⟩ := TI.there z hz
    obtain ⟨o1, o2, o3⟩ := at_one h r1 hzR
    refine ⟨by omega, fun hk => ?_⟩
    obtain ⟨j1, j2, j3⟩ := at_kept (by omega) hk
    rw [j3]
    exact seen_there h r1 r2 hzR j1
end Go.Proofs.YtjjngablalnbeaaDoor.P
