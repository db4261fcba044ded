/- Layer 7, plain: the events of a prefix, the revisions that they have, and which are told. -/
import Derived.Test.YtkikfaeigoeogaaMvPure
import Derived.Test.YtkikfaeigoeogaaRiPure
namespace Go.Proofs.Ytkikfaeigoeogaa.P
open Go Go.RowKit
set_option linter.unusedVariables false
set_option linter.unusedSimpArgs false
/-- The events of a prefix from a revision on. -/
def fltS (s : St) (p : ByteArray) (rev : Int) : List Ev := s.log.filter fun e => decide (rev ≤ e.rev) && begins p e.kv.key
def fltTo (s : St) (p : ByteArray) (rev : Int) (j : Nat) : List Ev := (s.log.take j).filter fun e => decide (rev ≤ e.rev) && begins p e.kv.key
theorem fltTo_yes {s : St} {p : ByteArray} {rev : Int} {j : Nat} {e : Ev} (h : s.log[j]? = some e) (h1 : rev ≤ e.rev) (h2 : begins p e.kv.key = true) : fltTo s p rev (j + 1) = fltTo s p rev j ++ [e] := by
  unfold fltTo
  rw [take_succ s.log j e h, List.filter_append, List.filter_cons_of_pos (by simp [h1, h2])]
  rfl
theorem fltTo_no {s : St} {p : ByteArray} {rev : Int} {j : Nat} {e : Ev} (h : s.log[j]? = some e) (h1 : ¬ (rev ≤ e.rev ∧ begins p e.kv.key = true)) : fltTo s p rev (j + 1) = fltTo s p rev j := by
  unfold fltTo
  rw [take_succ s.log j e h, List.filter_append, List.filter_cons_of_neg (by simpa using h1)]
  simp
theorem fltTo_len (s : St) (p : ByteArray) (rev : Int) (j : Nat) : (fltTo s p rev j).length ≤ j := Nat.le_trans (List.length_filter_le _ _) (by rw [List.length_take]; omega)
theorem fltTo_mem {s : St} {p : ByteArray} {rev : Int} {j : Nat} {x : Ev} (h : x ∈ fltTo s p rev j) : x ∈ s.log := List.mem_of_mem_take (List.mem_filter.1 h).1
/-- What is told, where so many may be told: the events, where to go on, and what is wrong. -/
def sinceV (s : St) (al : List Ev) (most : Nat) : List Ev × Int × Int :=
  if al.length ≤ most then (al, s.rev + 1, 0) else
  match al[most]?, al[0]? with
  | some e, some f => if e.rev = f.rev then ([], 0, 4) else (al.takeWhile fun x => decide (x.rev < e.rev), e.rev, 0)
  | _, _ => ([], 0, 4)
def sinceR (s : St) (p : ByteArray) (rev : Int) (most : Nat) : List Ev × Int × Int := if rev ≤ s.low then ([], 0, 9) else sinceV s (fltS s p rev) most
theorem while_is {al : List Ev} {nx : Int} {j : Nat} {y : Ev} (h : ∀ k x, k < j → al[k]? = some x → x.rev < nx) (hy : al[j]? = some y) (hn : ¬ y.rev < nx) : (al.takeWhile fun x => decide (x.rev < nx)) = al.take j := by
  induction al generalizing j with
  | nil => simp
  | cons a r ih =>
    cases j with
    | zero =>
      obtain rfl : a = y := by simpa using hy
      rw [List.takeWhile_cons_of_neg (by simpa using hn)]
      rfl
    | succ j =>
      have h0 := h 0 a (by omega) rfl
      rw [List.takeWhile_cons_of_pos (by simpa using h0), List.take_succ_cons]
      congr 1
      exact ih (fun k x hk hx => h (k + 1) x (by omega) (by simpa using hx)) (by simpa using hy)

/-! Revisions, each with the number of its events. -/
def revsL (es : List Ev) : List Int := es.map (·.rev)
def cntL (es : List Ev) (r : Int) : Nat := es.countP fun e => decide (e.rev = r)
def grpL (es : List Ev) : List (Int × Int) := (riseL (revsL es)).map fun r => (r, (cntL es r : Int))
/-- How many events have one of these revisions. -/
def toldK (es : List Ev) (ks : List Int) : Nat := es.countP fun e => decide (e.rev ∈ ks)
theorem toldK_nil (es : List Ev) : toldK es [] = 0 := by unfold toldK; simp
theorem countP_or {α : Type} (p q : α → Bool) : ∀ l : List α, (∀ x ∈ l, ¬ (p x = true ∧ q x = true)) → l.countP (fun x => p x || q x) = l.countP p + l.countP q
  | [], _ => rfl
  | x :: r, h => by
    have ih := countP_or p q r (fun y hy => h y (List.mem_cons_of_mem _ hy))
    have h0 := h x List.mem_cons_self
    rw [List.countP_cons, List.countP_cons, List.countP_cons, ih]
    cases hp : p x <;> cases hq : q x <;> simp [hp, hq] at h0 ⊢ <;> omega
theorem toldK_snoc {es : List Ev} {ks : List Int} {r : Int} (h : r ∉ ks) : toldK es (ks ++ [r]) = toldK es ks + cntL es r := by
  unfold toldK cntL
  rw [← countP_or _ _ es (fun e _ hh => by
    obtain ⟨h1, h2⟩ := hh
    rw [decide_eq_true_eq] at h1 h2
    rw [h2] at h1; exact h h1)]
  congr 1
  funext e
  by_cases h1 : e.rev ∈ ks <;> by_cases h2 : e.rev = r <;> simp [h1, h2]
theorem toldK_le (es : List Ev) (ks : List Int) : toldK es ks ≤ es.length := List.countP_le_length
theorem cnt_le (es : List Ev) (r : Int) : cntL es r ≤ es.length := List.countP_le_length
theorem cnt_pos {es : List Ev} {r : Int} (h : r ∈ revsL es) : 0 < cntL es r := by
  obtain ⟨e, he, rfl⟩ := List.mem_map.1 h
  exact List.countP_pos_iff.2 ⟨e, he, by simp⟩
theorem toldK_all {es : List Ev} {ks : List Int} (h : ∀ e ∈ es, e.rev ∈ ks) : toldK es ks = es.length := by
  unfold toldK; rw [List.countP_eq_length]; intro e he; simpa using h e he
theorem grp_fst (es : List Ev) : (grpL es).map (·.1) = riseL (revsL es) := by unfold grpL; rw [List.map_map]; simp [Function.comp_def]
theorem grp_at {es : List Ev} {i : Nat} {r : Int} (h : (riseL (revsL es))[i]? = some r) : (grpL es)[i]? = some (r, (cntL es r : Int)) := by unfold grpL; rw [List.getElem?_map, h]; rfl
theorem grp_len (es : List Ev) : (grpL es).length = (riseL (revsL es)).length := by unfold grpL; simp
/-- A part of the groups, and the one behind it. -/
theorem grp_cut {es : List Ev} {p0 : List (Int × Int)} {x : Int × Int} (h : p0 ++ [x] <+: grpL es) :
    x.2 = (cntL es x.1 : Int) ∧ x.1 ∉ p0.map (·.1) ∧ x.1 ∈ revsL es ∧ (∀ e ∈ es, (e.rev ∈ p0.map (·.1) ↔ e.rev < x.1)) := by
  obtain ⟨t, ht⟩ := h
  have hx : x ∈ grpL es := by rw [← ht]; simp
  have hf := grp_fst es
  rw [← ht, List.map_append, List.map_append] at hf
  have hup := (rise_up (revsL es)).1
  have hmem := (rise_up (revsL es)).2
  rw [← hf] at hup hmem
  rw [List.pairwise_append, List.pairwise_append] at hup
  obtain ⟨⟨h1, _, h2⟩, h3, h4⟩ := hup
  have hlt : ∀ a ∈ p0.map (·.1), a < x.1 := fun a ha => h2 a ha x.1 (by simp)
  refine ⟨?_, fun hm => by have := hlt _ hm; omega, (hmem x.1).1 (by simp), fun e he => ⟨hlt _, fun hl => ?_⟩⟩
  · unfold grpL at hx
    obtain ⟨r, _, rfl⟩ := List.mem_map.1 hx
    rfl
  · have hm := (hmem e.rev).2 (List.mem_map.2 ⟨e, he, rfl⟩)
    rcases List.mem_append.1 hm with hm | hm
    · rcases List.mem_append.1 hm with hm | hm
      · exact hm
      · simp at hm; omega
    · have := h4 x.1 (by simp) e.rev hm; omega
/-- What the program tells: the groups come, till one doesn't fit any more. -/
theorem first_stop {es : List Ev} (hs : es.Pairwise fun a b => a.rev ≤ b.rev) {p0 : List (Int × Int)} {x : Int × Int} (h : p0 ++ [x] <+: grpL es) {most : Nat} (h1 : toldK es (p0.map (·.1)) ≤ most) (h2 : most < toldK es (p0.map (·.1)) + cntL es x.1) :
    ¬ es.length ≤ most ∧ (∃ e, es[most]? = some e ∧ e.rev = x.1) ∧ (p0 = [] → ∃ f, es[0]? = some f ∧ f.rev = x.1) ∧ (p0 ≠ [] → ∃ f, es[0]? = some f ∧ f.rev ≠ x.1) ∧ (es.filter fun e => decide (e.rev < x.1)) = es.takeWhile fun e => decide (e.rev < x.1) := by
  obtain ⟨hc, hn, hin, hlt⟩ := grp_cut h
  have hA : toldK es (p0.map (·.1)) = (es.filter fun e => decide (e.rev < x.1)).length := by
    unfold toldK
    rw [← List.countP_eq_length_filter]
    refine List.countP_congr fun e he => ?_
    simp [hlt e he]
  have key : ∀ l : List Ev, l.Pairwise (fun a b => a.rev ≤ b.rev) → l = (l.filter fun e => decide (e.rev < x.1)) ++ ((l.filter fun e => decide (e.rev = x.1)) ++ l.filter fun e => decide (x.1 < e.rev)) ∧ (l.filter fun e => decide (e.rev < x.1)) = l.takeWhile fun e => decide (e.rev < x.1) := by
    intro l
    induction l with
    | nil => intro _; exact ⟨rfl, rfl⟩
    | cons a r ih =>
      intro hp
      rw [List.pairwise_cons] at hp
      obtain ⟨i1, i2⟩ := ih hp.2
      rcases Int.lt_trichotomy a.rev x.1 with ha | ha | ha
      · rw [List.filter_cons_of_pos (by simpa using ha), List.filter_cons_of_neg (by simp; omega), List.filter_cons_of_neg (by simp; omega), List.takeWhile_cons_of_pos (by simpa using ha)]
        exact ⟨by rw [List.cons_append, ← i1], by rw [i2]⟩
      · have h0 : (r.filter fun e => decide (e.rev < x.1)) = [] := List.filter_eq_nil_iff.2 fun e he => by have := hp.1 e he; simp; omega
        rw [h0, List.nil_append] at i1
        rw [List.filter_cons_of_neg (by simp; omega), List.filter_cons_of_pos (by simpa using ha), List.filter_cons_of_neg (by simp; omega), List.takeWhile_cons_of_neg (by simp; omega), h0]
        exact ⟨by rw [List.nil_append, List.cons_append, ← i1], rfl⟩
      · have h0 : (r.filter fun e => decide (e.rev < x.1)) = [] := List.filter_eq_nil_iff.2 fun e he => by have := hp.1 e he; simp; omega
        have h1 : (r.filter fun e => decide (e.rev = x.1)) = [] := List.filter_eq_nil_iff.2 fun e he => by have := hp.1 e he; simp; omega
        rw [h0, h1, List.nil_append, List.nil_append] at i1
        rw [List.filter_cons_of_neg (by simp; omega), List.filter_cons_of_neg (by simp; omega), List.filter_cons_of_pos (by simpa using ha), List.takeWhile_cons_of_neg (by simp; omega), h0, h1]
        exact ⟨by rw [List.nil_append, List.nil_append, ← i1], rfl⟩
  obtain ⟨hsp, htw⟩ := key es hs
  have hB : cntL es x.1 = (es.filter fun e => decide (e.rev = x.1)).length := by unfold cntL; rw [← List.countP_eq_length_filter]
  rw [hA] at h1 h2
  rw [hB] at h2
  have hlen := congrArg List.length hsp
  rw [List.length_append, List.length_append] at hlen
  refine ⟨by omega, ?_, fun hp => ?_, fun hp => ?_, htw⟩
  · have hx : ((es.filter fun e => decide (e.rev < x.1)) ++ ((es.filter fun e => decide (e.rev = x.1)) ++ es.filter fun e => decide (x.1 < e.rev)))[most]? = (es.filter fun e => decide (e.rev = x.1))[most - (es.filter fun e => decide (e.rev < x.1)).length]? := by
      rw [List.getElem?_append_right h1, List.getElem?_append_left (by omega)]
    have hlt2 : most - (es.filter fun e => decide (e.rev < x.1)).length < (es.filter fun e => decide (e.rev = x.1)).length := by omega
    rw [List.getElem?_eq_getElem hlt2] at hx
    refine ⟨_, by rw [hsp]; exact hx, ?_⟩
    have := (List.mem_filter.1 (List.getElem_mem hlt2)).2
    simpa using this
  · have h0 : (es.filter fun e => decide (e.rev < x.1)) = [] := by
      rw [List.filter_eq_nil_iff]; intro e he
      have := (hlt e he)
      rw [hp] at this
      simp at this
      simp; omega
    rw [h0, List.nil_append] at hsp
    have hp2 : 0 < (es.filter fun e => decide (e.rev = x.1)).length := by rw [← hB]; exact cnt_pos hin
    have hx : ((es.filter fun e => decide (e.rev = x.1)) ++ es.filter fun e => decide (x.1 < e.rev))[0]? = some ((es.filter fun e => decide (e.rev = x.1))[0]) := by rw [List.getElem?_append_left hp2, List.getElem?_eq_getElem hp2]
    refine ⟨_, by rw [hsp]; exact hx, ?_⟩
    have := (List.mem_filter.1 (List.getElem_mem hp2)).2
    simpa using this
  · obtain ⟨y, r0, rfl⟩ := List.exists_cons_of_ne_nil hp
    have hyin : y.1 ∈ revsL es := by
      have hy : y ∈ grpL es := by obtain ⟨t, ht⟩ := h; rw [← ht]; simp
      have h9 : y.1 ∈ (grpL es).map (·.1) := List.mem_map.2 ⟨y, hy, rfl⟩
      rw [grp_fst] at h9
      exact ((rise_up _).2 _).1 h9
    obtain ⟨e, he, hey⟩ := List.mem_map.1 hyin
    have hel : e ∈ es.filter fun e => decide (e.rev < x.1) := List.mem_filter.2 ⟨he, by simpa using (hlt e he).1 (by simp [hey])⟩
    have hp2 : 0 < (es.filter fun e => decide (e.rev < x.1)).length := List.length_pos_of_mem hel
    have hx : ((es.filter fun e => decide (e.rev < x.1)) ++ ((es.filter fun e => decide (e.rev = x.1)) ++ es.filter fun e => decide (x.1 < e.rev)))[0]? = some ((es.filter fun e => decide (e.rev < x.1))[0]) := by rw [List.getElem?_append_left hp2, List.getElem?_eq_getElem hp2]
    refine ⟨_, by rw [hsp]; exact hx, ?_⟩
    have := (List.mem_filter.1 (List.getElem_mem hp2)).2
    have h9 : ((es.filter fun e => decide (e.rev < x.1))[0]).rev < x.1 := by simpa using this
    omega
end Go.Proofs.Ytkikfaeigoeogaa.P
