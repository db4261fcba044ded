/- A store with revisions, plain: what is done in either order. -/
import Derived.Test.YtkikfaeigoeogaaMvDone
namespace Go.Proofs.Ytkikfaeigoeogaa.P
open Go.RowKit
set_option linter.unusedVariables false

theorem find_apply_other {s : St} (h : MaySt s) {ms : List Mu} (he : applyE s ms = 0) {k : ByteArray} (hk : ∀ m ∈ ms, m.key ≠ k) : findL (nowL (applyS s ms)) k = findL (nowL s) k := by
  obtain ⟨hn, hd⟩ := apply_now h he
  rw [hn]
  exact (h.come (may_do hd).2).other k hk
theorem find_apply_in {s : St} (h : MaySt s) {ms : List Mu} (he : applyE s ms = 0) {m : Mu} (hm : m ∈ ms) : findL (nowL (applyS s ms)) m.key = if m.gone then none else some (laid (nowL s) m (s.rev + 1)) := by
  obtain ⟨hn, hd⟩ := apply_now h he
  obtain ⟨a, b, rfl⟩ := List.append_of_mem hm
  rw [hn]
  have := h.low; have := h.le; have := h.max
  exact come_find (may_do hd).2 h.now.may (by omega) (by omega) (fun x hx => by have := h.now.mod x hx; omega)
theorem events_len {s : St} (h : MaySt s) {ms : List Mu} (hd : doTo [] ms = true) : (eventsOf s ms).length = (ms.filter (tells (nowL s))).length := by
  have := come_len (rev := s.rev + 1) (l := nowL s) ms [] hd ([], nowL s, true) (fun _ _ => rfl)
  simp at this
  exact this
theorem apply_rev {s : St} {ms : List Mu} (he : applyE s ms = 0) : (applyS s ms).rev = s.rev + (if (eventsOf s ms).length = 0 then 0 else 1) ∧ (applyS s ms).log.length = s.log.length + (eventsOf s ms).length := by
  unfold applyS
  split
  · rename_i ha
    have : (eventsOf s ms).length ≠ 0 := fun e => ha.2 (List.eq_nil_of_length_eq_zero e)
    rw [if_neg this]
    exact ⟨rfl, by show (s.log ++ eventsOf s ms).length = _; rw [List.length_append]⟩
  · rename_i hn
    have hev : eventsOf s ms = [] := Classical.byContradiction fun hne => hn ⟨he, hne⟩
    rw [hev]; simp
def projK (x : KV) : KV := ⟨x.key, x.val, 0, 0, x.ver, x.lea⟩
theorem find_proj (k : ByteArray) : ∀ l : List KV, findL (l.map projK) k = (findL l k).map projK
  | [] => rfl
  | y :: r => by
    simp only [List.map_cons, findL]
    show (if teq y.key k = true then _ else _) = _
    split
    · rfl
    · exact find_proj k r
theorem rises_proj : ∀ l : List KV, rises l = true → rises (l.map projK) = true
  | [], _ => rfl
  | x :: r, h => by
    rw [List.map_cons]
    have ha := rises_all x r h
    refine rises_mk (fun y hy => ?_) (rises_proj r (rises_tail h))
    obtain ⟨z, hz, rfl⟩ := List.mem_map.1 hy
    exact ha z hz
theorem laid_proj {l l' : List KV} {m : Mu} {rev rev' : Int} (h : findL l m.key = findL l' m.key) : projK (laid l m rev) = projK (laid l' m rev') := by
  unfold laid
  rw [h]
  cases findL l' m.key <;> rfl
theorem apply_apart {s : St} (h : MaySt s) {a b : List Mu} (hab : ∀ x ∈ a, ∀ y ∈ b, x.key ≠ y.key) (h1 : applyE s a = 0) (h2 : applyE (applyS s a) b = 0) (h3 : applyE s b = 0) (h4 : applyE (applyS s b) a = 0) :
    (nowL (applyS (applyS s a) b)).map projK = (nowL (applyS (applyS s b) a)).map projK ∧ (applyS (applyS s a) b).rev = (applyS (applyS s b) a).rev ∧ (applyS (applyS s a) b).log.length = (applyS (applyS s b) a).log.length := by
  have ha := apply_may h a
  have hb := apply_may h b
  have hda := may_do (apply_now h h1).2
  have hdb := may_do (apply_now h h3).2
  have e1 : (eventsOf (applyS s a) b).length = (eventsOf s b).length := by
    rw [events_len ha hdb.2, events_len h hdb.2]
    congr 1
    refine List.filter_congr fun m hm => ?_
    unfold tells
    rw [find_apply_other h h1 (fun x hx => hab x hx m hm)]
  have e2 : (eventsOf (applyS s b) a).length = (eventsOf s a).length := by
    rw [events_len hb hda.2, events_len h hda.2]
    congr 1
    refine List.filter_congr fun m hm => ?_
    unfold tells
    rw [find_apply_other h h3 (fun y hy => (hab m hm y hy).symm)]
  obtain ⟨r1, g1⟩ := apply_rev h1
  obtain ⟨r2, g2⟩ := apply_rev h2
  obtain ⟨r3, g3⟩ := apply_rev h3
  obtain ⟨r4, g4⟩ := apply_rev h4
  rw [e1] at r2 g2
  rw [e2] at r4 g4
  refine ⟨?_, by rw [r2, r4, r1, r3]; omega, by rw [g2, g4, g1, g3]; omega⟩
  refine rises_ext _ _ (rises_proj _ (mayP_rises (apply_may ha b).now.may)) (rises_proj _ (mayP_rises (apply_may hb a).now.may)) fun k => ?_
  rw [find_proj, find_proj]
  by_cases hka : ∃ m ∈ a, m.key = k
  · obtain ⟨m, hm, rfl⟩ := hka
    rw [find_apply_other ha h2 (fun y hy => (hab m hm y hy).symm), find_apply_in h h1 hm, find_apply_in hb h4 hm]
    split
    · rfl
    · rw [Option.map_some, Option.map_some, laid_proj (find_apply_other h h3 (fun y hy => (hab m hm y hy).symm)).symm]
  · have hka' : ∀ m ∈ a, m.key ≠ k := fun m hm e => hka ⟨m, hm, e⟩
    rw [find_apply_other hb h4 hka']
    by_cases hkb : ∃ m ∈ b, m.key = k
    · obtain ⟨m, hm, rfl⟩ := hkb
      rw [find_apply_in ha h2 hm, find_apply_in h h3 hm]
      split
      · rfl
      · rw [Option.map_some, Option.map_some, laid_proj (find_apply_other h h1 (fun x hx => hab x hx m hm))]
    · have hkb' : ∀ m ∈ b, m.key ≠ k := fun m hm e => hkb ⟨m, hm, e⟩
      rw [find_apply_other ha h2 hkb', find_apply_other h h1 hka', find_apply_other h h3 hkb']
end Go.Proofs.Ytkikfaeigoeogaa.P
