/- Layer 20, plain: of a resource that may be comes one that may be; the highest token is the last one; whose a token is. -/
import Derived.Test.YtimbklggifbibaaDoorFePure
namespace Go.Proofs.YtimbklggifbibaaDoor.P
open Go
set_option linter.unusedVariables false
theorem may_go {r : Rs} (h : mayR r = true) : goR zeroRs r.log = some r := by
  unfold mayR at h
  cases hg : goR zeroRs r.log with
  | none => rw [hg] at h; cases h
  | some a =>
    rw [hg] at h
    simp only [Bool.and_eq_true, decide_eq_true_eq] at h
    have hl := goR_log _ _ _ hg
    obtain ⟨h1, h2⟩ := h
    obtain ⟨ah, av, al⟩ := a
    obtain ⟨rh, rv, rl⟩ := r
    simp only [List.nil_append] at h1 h2 hl
    subst h1 h2 hl
    rfl
theorem go_may {r : Rs} (h : goR zeroRs r.log = some r) : mayR r = true := by
  unfold mayR; rw [h]; simp
theorem may_wr {r : Rs} {x : Ac} (h : mayR r = true) : mayR (wrR r x) = true := by
  by_cases he : wrE r x = 0
  · refine go_may ?_
    have h1 := may_go h
    rw [wr_ok he]
    show goR zeroRs (r.log ++ [x]) = _
    rw [goR_snoc, h1]
    show (if wrE r x = 0 then some (wrR r x) else none) = _
    rw [if_pos he, wr_ok he]
  · rw [wr_err he]; exact h
theorem may_few {r : Rs} (h : mayR r = true) : r.log.length ≤ 40 := (mayR_up h).2.1
theorem up_le {l : List Ac} (h : UpTo l l.length) : ∀ (d i : Nat) (x y : Ac), l[i]? = some x → l[i + d]? = some y → x.tok ≤ y.tok
  | 0, i, x, y, hx, hy => by rw [Nat.add_zero, hx] at hy; have := Option.some.inj hy; subst this; exact Int.le_refl _
  | d + 1, i, x, y, hx, hy => by
    have hi : i + d + 1 < l.length := (List.getElem?_eq_some_iff.1 hy).1
    have hz : l[i + d]? = some l[i + d] := List.getElem?_eq_getElem (by omega)
    have h1 := up_le h d i x _ hx hz
    have h2 := h.up (i + d) _ y hi hz hy
    omega
theorem may_next {r : Rs} (h : mayR r = true) {i : Nat} {x y : Ac} (hx : r.log[i]? = some x) (hy : r.log[i + 1]? = some y) : ¬ x.tok > y.tok := by
  have := up_le (mayR_up h).1 1 i x y hx hy; omega
/-- The last of the tokens, each once, is the highest. -/
theorem rise_last {r : Rs} (h : mayR r = true) (hne : r.log ≠ []) : ∃ k, (riseL (toksL r.log)).length = k + 1 ∧ (riseL (toksL r.log))[k]? = some r.high := by
  obtain ⟨hu, _, _, hl⟩ := mayR_up h
  have hpos : 0 < r.log.length := List.length_pos_iff.2 hne
  obtain ⟨m, hm⟩ : ∃ m, r.log.length = m + 1 := ⟨r.log.length - 1, by omega⟩
  have hz : r.log[m]? = some r.log[m] := List.getElem?_eq_getElem (by omega)
  have hh := (hl m _ hm hz).1
  have hin : r.high ∈ riseL (toksL r.log) := (rise_up _).2 _ |>.2 (by rw [hh]; exact List.mem_map.2 ⟨r.log[m], List.getElem_mem _, rfl⟩)
  obtain ⟨i, hi, hv⟩ := List.mem_iff_getElem.1 hin
  refine ⟨(riseL (toksL r.log)).length - 1, by omega, ?_⟩
  by_cases hk : i = (riseL (toksL r.log)).length - 1
  · rw [← hk, List.getElem?_eq_getElem hi, hv]
  · exfalso
    have h1 := List.pairwise_iff_getElem.1 (rise_up (toksL r.log)).1 i ((riseL (toksL r.log)).length - 1) hi (by omega) (by omega)
    rw [hv] at h1
    have h2 : (riseL (toksL r.log))[(riseL (toksL r.log)).length - 1] ∈ toksL r.log := (rise_up _).2 _ |>.1 (List.getElem_mem _)
    obtain ⟨x, hx, hxt⟩ := List.mem_map.1 h2
    obtain ⟨j, hj, hxj⟩ := List.mem_iff_getElem.1 hx
    have h3 := up_le hu (m - j) j x r.log[m] (by rw [List.getElem?_eq_getElem hj, hxj]) (by rw [show j + (m - j) = m by omega]; exact hz)
    omega
theorem rise_none {r : Rs} (h : r.log = []) : (riseL (toksL r.log)).length = 0 := by
  have := rise_len (toksL r.log); rw [h] at this ⊢; simp [toksL] at this ⊢; omega
theorem tok_in {l : List Ac} {i : Nat} {x : Ac} (h : l[i]? = some x) : x.tok ∈ riseL (toksL l) := (rise_up _).2 _ |>.2 (List.mem_map.2 ⟨x, List.mem_of_getElem? h, rfl⟩)
theorem own_in {l : List Ac} {i : Nat} {x : Ac} (h : l[i]? = some x) : x.who ∈ riseL (ownsL l x.tok) := (rise_up _).2 _ |>.2 (List.mem_map.2 ⟨x, List.mem_filter.2 ⟨List.mem_of_getElem? h, by simp⟩, rfl⟩)
theorem rise_next {l : List Int} {i : Nat} {x y : Int} (hx : (riseL l)[i]? = some x) (hy : (riseL l)[i + 1]? = some y) : ¬ x ≥ y := by
  obtain ⟨h1, e1⟩ := List.getElem?_eq_some_iff.1 hx
  obtain ⟨h2, e2⟩ := List.getElem?_eq_some_iff.1 hy
  have := List.pairwise_iff_getElem.1 (rise_up l).1 i (i + 1) h1 h2 (by omega)
  rw [e1, e2] at this
  omega
theorem last_in {l : List Ac} {x : Ac} : x.tok ∈ riseL (toksL (l ++ [x])) ∧ x.who ∈ riseL (ownsL (l ++ [x]) x.tok) :=
  ⟨tok_in (i := l.length) (by simp), own_in (i := l.length) (by simp)⟩
end Go.Proofs.YtimbklggifbibaaDoor.P
