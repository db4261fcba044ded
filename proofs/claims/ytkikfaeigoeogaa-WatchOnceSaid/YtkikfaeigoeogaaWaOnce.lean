/- WatchOnce's plain side: who goes on where he was told sees each event once. -/
import Derived.Test.YtkikfaeigoeogaaWaPlain
namespace Go.Proofs.Ytkikfaeigoeogaa.P
open Go.RowKit Go.Sort
set_option maxHeartbeats 1000000
set_option linter.unusedVariables false
set_option linter.unusedSimpArgs false
theorem while_len {α : Type} {q : α → Bool} : ∀ {l : List α} {i : Nat} {e : α}, l[i]? = some e → q e = false → (l.takeWhile q).length ≤ i
  | [], i, e, h, _ => by simp
  | x :: r, 0, e, h, hq => by
    obtain rfl : x = e := by simpa using h
    rw [List.takeWhile_cons, hq]; simp
  | x :: r, i + 1, e, h, hq => by
    rw [List.takeWhile_cons]
    have := while_len (q := q) (l := r) (i := i) (e := e) (by simpa using h) hq
    split
    · simp only [List.length_cons]; omega
    · simp
theorem while_mem {α : Type} {q : α → Bool} : ∀ {l : List α} {x : α}, x ∈ l.takeWhile q → q x = true
  | [], x, h => by simp at h
  | y :: r, x, h => by
    rw [List.takeWhile_cons] at h
    split at h
    · rcases List.mem_cons.1 h with rfl | h
      · assumption
      · exact while_mem h
    · simp at h
theorem once_fit {s : St} (hs : MaySt s) {p : ByteArray} {rev most : Int} {l : List Ev} {nx : Int} (h : sinceF s p rev most = (l, nx, 0)) : (l.length : Int) ≤ most ∧ ∀ x ∈ l, x.rev < nx := by
  obtain ⟨h1, h2, h3, h4, h5⟩ := sinceF_ok h
  unfold sinceR at h5
  split at h5
  · simp at h5
  · unfold sinceV at h5
    split at h5
    · rename_i hle
      simp only [Prod.mk.injEq, and_true] at h5
      obtain ⟨rfl, rfl⟩ := h5
      exact ⟨by omega, fun x hx => by have := (mayLog_in _ _ _ hs.log x (List.mem_filter.1 hx).1).2; omega⟩
    · split at h5
      · rename_i e f he hf
        split at h5
        · simp at h5
        · simp only [Prod.mk.injEq, and_true] at h5
          obtain ⟨rfl, rfl⟩ := h5
          refine ⟨?_, fun x hx => of_decide_eq_true (while_mem (q := fun x : Ev => decide (x.rev < e.rev)) hx)⟩
          have := while_len (q := fun x : Ev => decide (x.rev < e.rev)) he (by simp)
          omega
      · simp at h5
def wanL (s : St) (p : ByteArray) (a b : Int) (j : Nat) : List Ev := (s.log.take j).filter fun e => decide (a ≤ e.rev) && decide (e.rev < b) && begins p e.kv.key
theorem wanL_yes {s : St} {p : ByteArray} {a b : Int} {j : Nat} {e : Ev} (h : s.log[j]? = some e) (h1 : a ≤ e.rev) (h2 : e.rev < b) (h3 : begins p e.kv.key = true) : wanL s p a b (j + 1) = wanL s p a b j ++ [e] := by
  unfold wanL; rw [take_succ s.log j e h, List.filter_append]; simp [h1, h2, h3]
theorem wanL_no {s : St} {p : ByteArray} {a b : Int} {j : Nat} {e : Ev} (h : s.log[j]? = some e) (h1 : ¬ (a ≤ e.rev ∧ e.rev < b ∧ begins p e.kv.key = true)) : wanL s p a b (j + 1) = wanL s p a b j := by
  unfold wanL; rw [take_succ s.log j e h, List.filter_append]
  have : (decide (a ≤ e.rev) && decide (e.rev < b) && begins p e.kv.key) = false := by
    cases hh : (decide (a ≤ e.rev) && decide (e.rev < b) && begins p e.kv.key) with
    | false => rfl
    | true => simp only [Bool.and_eq_true, decide_eq_true_eq] at hh; exact absurd ⟨hh.1.1, hh.1.2, hh.2⟩ h1
  simp [this]
theorem wanL_len (s : St) (p : ByteArray) (a b : Int) (j : Nat) : (wanL s p a b j).length ≤ j := Nat.le_trans (List.length_filter_le _ _) (by rw [List.length_take]; omega)
theorem wanL_mem {s : St} {p : ByteArray} {a b : Int} {j : Nat} {x : Ev} (h : x ∈ wanL s p a b j) : x ∈ s.log := List.mem_of_mem_take (List.mem_filter.1 h).1
theorem once_want {s : St} (hs : MaySt s) {p : ByteArray} {rev most : Int} {l : List Ev} {nx : Int} (h : sinceF s p rev most = (l, nx, 0)) {m : Nat} (hm : s.log.length = m) : wanL s p rev nx m = l := by
  obtain ⟨_, _, _, _, h5⟩ := sinceF_go hs h
  have hf := (once_fit hs h).2
  have e1 : wanL s p rev nx m = (fltS s p rev).filter fun e => decide (e.rev < nx) := by
    unfold wanL fltS
    rw [List.take_of_length_le (by omega), List.filter_filter]
    congr 1
    funext e
    cases decide (rev ≤ e.rev) <;> cases decide (e.rev < nx) <;> cases begins p e.kv.key <;> rfl
  rw [e1, h5, List.filter_append, List.filter_eq_self.2 (fun x hx => decide_eq_true (hf x hx))]
  have e2 : ((fltS s p nx).filter fun e => decide (e.rev < nx)) = [] := by
    rw [List.filter_eq_nil_iff]
    intro e he
    have := (List.mem_filter.1 he).2
    simp only [Bool.and_eq_true, decide_eq_true_eq] at this
    simp; omega
  rw [e2, List.append_nil]
theorem once_rest {s : St} (hs : MaySt s) {p : ByteArray} {rev most : Int} {l : List Ev} {nx : Int} (h : sinceF s p rev most = (l, nx, 0)) :
    ∃ (all rest : List Ev) (f : Int), allF s p rev most = (all, f) ∧ allF s p nx most = (rest, f) ∧ (f = 0 → all = l ++ rest) := by
  obtain ⟨h1, h2, h3, h4, h5⟩ := sinceF_ok h
  by_cases hn : s.rev < nx
  · have hg := (sinceF_go hs h).2.2.2.1
    have hr : nx = s.rev + 1 := by omega
    have e1 : allF s p rev most = (l, 0) := by
      unfold allF
      rw [allG_end h hn, List.nil_append]
    have e2 : sinceF s p nx most = ([], s.rev + 1, 0) := by
      have := hs.le; have := hs.low
      unfold sinceF
      rw [if_neg (by omega), if_neg (by omega)]
      unfold sinceR
      rw [if_neg (by omega), flt_end hs p hn]
      unfold sinceV
      rw [if_pos (by simp)]
    have e3 : allF s p nx most = ([], 0) := by
      unfold allF
      rw [allG_end e2 (by omega)]; rfl
    exact ⟨l, [], 0, e1, e3, fun _ => by simp⟩
  · obtain ⟨⟨rest, f⟩, hr⟩ : ∃ r, allF s p nx most = r := ⟨_, rfl⟩
    have e1 := allF_step hs h hn
    rw [hr] at e1
    by_cases hf : f = 0
    · subst hf
      exact ⟨l ++ rest, rest, 0, e1, hr, fun _ => rfl⟩
    · rw [if_neg hf] at e1
      exact ⟨[], rest, f, e1, hr, fun h => absurd h hf⟩
theorem once_next {s : St} (hs : MaySt s) {p : ByteArray} {rev most : Int} {l : List Ev} {nx : Int} (h : sinceF s p rev most = (l, nx, 0)) : rev ≤ nx ∧ nx ≤ s.rev + 1 ∧ 1 ≤ rev := by
  obtain ⟨h1, h2, h3, h4, _⟩ := sinceF_go hs h
  exact ⟨by by_cases hn : nx ≤ s.rev; have := h3 hn; omega; omega, h4, h1⟩
end Go.Proofs.Ytkikfaeigoeogaa.P
