/- Layer 7's laws, their plain side. -/
import Derived.Test.YtkikfaeigoeogaaMgWx
namespace Go.Proofs.Ytkikfaeigoeogaa.P
open Go.RowKit Go.Sort
set_option maxHeartbeats 1000000
set_option linter.unusedVariables false
set_option linter.unusedSimpArgs false
theorem keepX {W w1 : World} (hb : Below W.heap.size W w1) {g : Nat} (hg : g < W.heap.size) {a b c d : Value} (h0 : W.cell? ⟨g, 0, none⟩ = some a) (h1 : W.cell? ⟨g, 1, none⟩ = some b) (h2 : W.cell? ⟨g, 2, none⟩ = some c) (h3 : W.cell? ⟨g, 3, none⟩ = some d) :
    w1.cell? ⟨g, 0, none⟩ = some a ∧ w1.cell? ⟨g, 1, none⟩ = some b ∧ w1.cell? ⟨g, 2, none⟩ = some c ∧ w1.cell? ⟨g, 3, none⟩ = some d := by
  obtain ⟨k, _⟩ := bcell hb
  exact ⟨by rw [k g 0 hg]; exact h0, by rw [k g 1 hg]; exact h1, by rw [k g 2 hg]; exact h2, by rw [k g 3 hg]; exact h3⟩
theorem WaIs.of {w : World} {s : St} {p : ByteArray} {A : Option Addr} {n c : Nat} {B : Option Addr} {m d : Nat} (h : MaySt s) (k : StAt w s A n c B m d) (hp : p.size ≤ 60) : WaIs s n m p := by
  have h1 := k.kv.len; have h2 := k.ev.len; have h3 := h.good.len; have h4 := h.len
  exact ⟨h, by omega, by omega, hp⟩
/-- A store that was shrunk tells what it told, or that it is gone. -/
theorem gone_same {s : St} {p : ByteArray} {r0 rev most : Int} (hs : MaySt s) (hk : keptE s r0 = 0) (h : r0 < rev ∨ (sinceF s p rev most).2.2 = 1 ∨ (sinceF s p rev most).2.2 = 8) : sinceF (shrinkS s r0) p rev most = sinceF s p rev most := by
  obtain ⟨k1, k2, k3⟩ := kept_le hk
  unfold sinceF at h ⊢
  show (if most < 1 ∨ 30 < most then ([], 0, 1) else if rev < 1 ∨ s.rev + 1 < rev then ([], 0, 8) else sinceR (shrinkS s r0) p rev most.toNat) = _
  by_cases h1 : most < 1 ∨ 30 < most
  · rw [if_pos h1, if_pos h1]
  · rw [if_neg h1] at h ⊢; rw [if_neg h1]
    by_cases h8 : rev < 1 ∨ s.rev + 1 < rev
    · rw [if_pos h8, if_pos h8]
    · rw [if_neg h8] at h ⊢; rw [if_neg h8]
      by_cases hr : r0 < rev
      · have ef : fltS (shrinkS s r0) p rev = fltS s p rev := by
          show (above r0 s.log).filter _ = s.log.filter _
          unfold above
          rw [List.filter_filter]
          congr 1
          funext e
          by_cases h3 : e.rev ≤ r0
          · simp [h3, show ¬ rev ≤ e.rev by omega]
          · simp [h3]
        unfold sinceR
        rw [ef, if_neg (show ¬ rev ≤ (shrinkS s r0).low from by show ¬ rev ≤ r0; omega), if_neg (show ¬ rev ≤ s.low by omega)]
        rfl
      · exfalso
        rcases h with h | h | h
        · exact hr h
        · unfold sinceR sinceV at h
          split at h
          · cases h
          · split at h
            · cases h
            · split at h
              · split at h <;> cases h
              · cases h
        · unfold sinceR sinceV at h
          split at h
          · cases h
          · split at h
            · cases h
            · split at h
              · split at h <;> cases h
              · cases h
theorem gone_gone {s : St} {p : ByteArray} {r0 rev most : Int} (hk : keptE s r0 = 0) (h : ¬ r0 < rev) (h1 : (sinceF s p rev most).2.2 ≠ 1) (h8 : (sinceF s p rev most).2.2 ≠ 8) : sinceF (shrinkS s r0) p rev most = ([], 0, 9) := by
  unfold sinceF at h1 h8 ⊢
  by_cases a : most < 1 ∨ 30 < most
  · rw [if_pos a] at h1; exact absurd rfl h1
  · rw [if_neg a] at h1 h8 ⊢
    by_cases b : rev < 1 ∨ s.rev + 1 < rev
    · rw [if_pos b] at h8; exact absurd rfl h8
    · show (if rev < 1 ∨ s.rev + 1 < rev then ([], 0, 8) else sinceR (shrinkS s r0) p rev most.toNat) = _
      rw [if_neg b]
      unfold sinceR
      rw [if_pos (show rev ≤ (shrinkS s r0).low from by show rev ≤ r0; omega)]
theorem rises_after {l : List KV} (e : Ev) (h : rises l = true) : rises (afterE l e) = true := by
  unfold afterE; split
  · exact rises_take _ _ h
  · exact rises_lay _ _ h
/-- What becomes of those of a prefix. -/
theorem vw_from (p : ByteArray) : ∀ (b : List Ev) (X : List KV), rises X = true → vwL (fromL X p) (b.filter fun e => begins p e.kv.key) = fromL (b.foldl afterE X) p
  | [], X, _ => rfl
  | e :: r, X, h => by
    have ih := vw_from p r (afterE X e) (rises_after e h)
    rw [List.foldl_cons, ← ih]
    cases hb : begins p e.kv.key with
    | true =>
      rw [List.filter_cons_of_pos (by simpa using hb)]
      show vwL (afterE (fromL X p) e) _ = _
      congr 1
      unfold afterE
      split
      · exact (from_take_in X e.kv.key p h).symm
      · exact (from_lay_in X e.kv p h hb).symm
    | false =>
      rw [List.filter_cons_of_neg (by simp [hb])]
      congr 1
      unfold afterE
      split
      · exact (from_take_out X e.kv.key p h hb).symm
      · exact (from_lay_out X e.kv p h hb).symm
theorem flt_above (s : St) (p : ByteArray) (t : Int) : fltS s p (t + 1) = (above t s.log).filter fun e => begins p e.kv.key := by
  unfold fltS above
  rw [List.filter_filter]
  congr 1
  funext e
  by_cases h : e.rev ≤ t
  · simp [h, show ¬ t + 1 ≤ e.rev by omega]
  · simp [h, show t + 1 ≤ e.rev by omega]
theorem vw_end {s : St} (h : MaySt s) (p : ByteArray) {t : Int} (hl : s.low ≤ t) (ht : t ≤ s.rev) : vwL (fromL (foldL s.base s.log t) p) (fltS s p (t + 1)) = fromL (nowL s) p := by
  rw [flt_above, vw_from p _ _ (mayP_rises (h.at_ t hl).may)]
  congr 1
  have h1 : foldL (foldL s.base s.log t) (above t s.log) s.rev = nowL s := shrink_at h (rev := t) (t := s.rev) ht
  rw [foldL_all (rev := s.rev) (above t s.log) (foldL s.base s.log t) (fun e he => (mayLog_in _ _ _ h.log e (List.mem_filter.1 he).1).2)] at h1
  exact h1
theorem sinceF_4 {s : St} {p : ByteArray} {rev most er : Int} {l : List Ev} {nx : Int} (h : sinceF s p rev most = (l, nx, er)) (h1 : 1 ≤ most) (h2 : most ≤ 30) (h3 : 1 ≤ rev) (h4 : rev ≤ s.rev + 1) (h5 : s.low < rev) : er = 0 ∨ er = 4 := by
  unfold sinceF at h
  rw [if_neg (by omega), if_neg (by omega)] at h
  unfold sinceR at h
  rw [if_neg (by omega)] at h
  unfold sinceV at h
  split at h
  · cases h; exact .inl rfl
  · split at h
    · split at h
      · cases h; exact .inr rfl
      · cases h; exact .inl rfl
    · cases h; exact .inr rfl
theorem allG_4 {s : St} (hs : MaySt s) {p : ByteArray} {most : Int} (h1 : 1 ≤ most) (h2 : most ≤ 30) : ∀ (f : Nat) (acc : List Ev) (rv : Int), 1 ≤ rv → rv ≤ s.rev + 1 → s.low < rv → (allG s p most f acc rv).2 = 0 ∨ (allG s p most f acc rv).2 = 4
  | 0, _, _, _, _, _ => .inr rfl
  | f + 1, acc, rv, h3, h4, h5 => by
    rcases hq : sinceF s p rv most with ⟨l, nx, er⟩
    by_cases he : er = 0
    · subst he
      by_cases hn : s.rev < nx
      · rw [allG_end hq hn]; exact .inl rfl
      · rw [allG_on hq hn]
        obtain ⟨g1, g2, g3, g4, _⟩ := sinceF_go hs hq
        have := g3 (by omega)
        exact allG_4 hs h1 h2 f _ _ (by omega) g4 (by omega)
    · rw [allG_err hq he]
      rcases sinceF_4 hq h1 h2 h3 h4 h5 with h | h
      · exact absurd h he
      · exact .inr h
theorem allF_4 {s : St} (hs : MaySt s) {p : ByteArray} {rev most er : Int} {l : List Ev} (h : allF s p rev most = (l, er)) (h1 : 1 ≤ most) (h2 : most ≤ 30) (h3 : 1 ≤ rev) (h4 : rev ≤ s.rev + 1) (h5 : s.low < rev) : er = 0 ∨ er = 4 := by
  have := allG_4 hs h1 h2 ((s.rev + 2 - rev).toNat + 1) [] rev h3 h4 h5 (p := p)
  unfold allF at h
  rw [h] at this
  exact this
theorem allF_9 {s : St} {p : ByteArray} {rev most : Int} (h1 : 1 ≤ most) (h2 : most ≤ 30) (h3 : 1 ≤ rev) (h4 : rev ≤ s.rev + 1) (h5 : rev ≤ s.low) : allF s p rev most = ([], 9) := by
  have h : sinceF s p rev most = ([], 0, 9) := by
    unfold sinceF
    rw [if_neg (by omega), if_neg (by omega)]
    unfold sinceR
    rw [if_pos h5]
  exact allG_err h (by decide)
end Go.Proofs.Ytkikfaeigoeogaa.P
