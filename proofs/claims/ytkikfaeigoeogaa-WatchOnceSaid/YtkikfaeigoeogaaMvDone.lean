/- A store with revisions, plain: what follows of what is done. -/
import Derived.Test.YtkikfaeigoeogaaMvPure
namespace Go.Proofs.Ytkikfaeigoeogaa.P
open Go.RowKit
set_option linter.unusedVariables false

structure CInv (rev : Int) (l : List KV) (a : List Mu) (c : Come) : Prop where
  now : c.2.1 = c.1.foldl afterE l
  revs : ∀ e ∈ c.1, e.rev = rev
  len : c.1.length ≤ a.length
  other : ∀ k, (∀ m ∈ a, m.key ≠ k) → findL c.2.1 k = findL l k
  may : mayP oneB c.2.1 = true
  log : c.2.2 = true → mayLogB rev l rev c.1 = true
theorem come_step {rev : Int} {l : List KV} {a : List Mu} {c : Come} {m : Mu} (h : CInv rev l a c) (hf : fresh a m = true) (hm : mutB m = true) (h0 : 1 ≤ rev) (h1 : rev ≤ 1099511627775) (hl : ∀ x ∈ l, x.mod < rev) : CInv rev l (a ++ [m]) (stepC rev c m) := by
  have hne : ∀ y ∈ a, y.key ≠ m.key := fun y hy => by
    have := List.all_eq_true.1 hf y hy
    rw [Bool.not_eq_true', teq_ne] at this
    exact this
  have hfm := h.other m.key hne
  have ho : ∀ k, (∀ y ∈ a ++ [m], y.key ≠ k) → findL (stepC rev c m).2.1 k = findL l k := fun k hk => by
    rw [stepC_now (hk m (by simp)), h.other k (fun y hy => hk y (by simp [hy]))]
  cases he : evOf c.2.1 m rev with
  | none =>
    have e : stepC rev c m = c := by unfold stepC; rw [he]
    rw [e] at ho ⊢
    exact ⟨h.now, h.revs, by rw [List.length_append]; have := h.len; omega, ho, h.may, h.log⟩
  | some e =>
    have hr := ev_right he hm h.may h0 h1 (fun x hx => by rw [hfm] at hx; exact hl x (findL_mem _ _ _ hx).1)
    have e' : stepC rev c m = (c.1 ++ [e], afterE c.2.1 e, c.2.2 && decide ((afterE c.2.1 e).length ≤ 30)) := by unfold stepC; rw [he]
    have hrev := evOf_rev he
    rw [e'] at ho ⊢
    refine ⟨?_, fun x hx => ?_, ?_, ho, ?_, fun hfit => ?_⟩
    · show afterE c.2.1 e = _
      rw [List.foldl_append, ← h.now]; rfl
    · rcases List.mem_append.1 hx with hx | hx
      · exact h.revs x hx
      · simp at hx; subst hx; exact hrev
    · show (c.1 ++ [e]).length ≤ _
      rw [List.length_append, List.length_append]; have := h.len; simp; omega
    · show mayP oneB (afterE c.2.1 e) = true
      unfold afterE; split
      · exact mayP_take h.may
      · exact mayP_lay h.may hr.1
    · show mayLogB rev l rev (c.1 ++ [e]) = true
      have hfit' : c.2.2 = true ∧ (afterE c.2.1 e).length ≤ 30 := by
        have : (c.2.2 && decide ((afterE c.2.1 e).length ≤ 30)) = true := hfit
        simpa using this
      rw [mayLog_app]
      refine ⟨h.log hfit'.1, ?_⟩
      rw [← h.now, mayLog_cons]
      have hla : lastR rev c.1 ≤ rev := last_le (Int.le_refl _) fun x hx => by have := h.revs x hx; omega
      exact ⟨by omega, by omega, hr, hfit'.2, rfl⟩
theorem come_zero (rev : Int) {l : List KV} (hl : mayP oneB l = true) : CInv rev l [] (comeL rev l []) := ⟨rfl, fun e he => by simp [comeL] at he, Nat.le_refl _, fun _ _ => rfl, hl, fun _ => rfl⟩
theorem come_inv {rev : Int} {l : List KV} (h0 : 1 ≤ rev) (h1 : rev ≤ 1099511627775) (hl : ∀ x ∈ l, x.mod < rev) :
    ∀ (b a : List Mu), CInv rev l a (comeL rev l a) → doTo a b = true → CInv rev l (a ++ b) (comeL rev l (a ++ b))
  | [], a, h, _ => by simpa using h
  | m :: r, a, h, hd => by
    simp only [doTo, Bool.and_eq_true] at hd
    have hs := come_step h hd.1.1 hd.1.2 h0 h1 hl
    rw [← come_snoc] at hs
    have := come_inv h0 h1 hl r (a ++ [m]) hs hd.2
    simpa using this
theorem MaySt.come {s : St} (h : MaySt s) {ms : List Mu} (hd : doTo [] ms = true) : CInv (s.rev + 1) (nowL s) ms (comeL (s.rev + 1) (nowL s) ms) := by
  have hn := h.now
  have := h.low; have := h.le; have := h.max
  exact come_inv (by omega) (by omega) (fun x hx => by have := hn.mod x hx; omega) ms [] (come_zero _ hn.may) hd
theorem may_do {ms : List Mu} (h : mayDoB ms = true) : ms.length ≤ 30 ∧ doTo [] ms = true := by
  unfold mayDoB at h; simpa using h
theorem applied_iff {s : St} {ms : List Mu} (h : applied s ms) : mayDoB ms = true ∧ (comeL (s.rev + 1) (nowL s) ms).2.2 = true ∧ s.rev ≠ 1099511627774 ∧ s.log.length + (eventsOf s ms).length ≤ 60 := by
  obtain ⟨h1, h2⟩ := h
  unfold applyE at h1
  by_cases hd : mayDoB ms = false
  · rw [if_pos hd] at h1; cases h1
  · rw [if_neg hd, if_neg h2] at h1
    by_cases hn : (comeL (s.rev + 1) (nowL s) ms).2.2 = false ∨ s.rev = 1099511627774 ∨ 60 < s.log.length + (eventsOf s ms).length
    · rw [if_pos hn] at h1; cases h1
    · refine ⟨by simpa using hd, ?_, fun e => hn (.inr (.inl e)), by have : ¬ 60 < s.log.length + (eventsOf s ms).length := fun e => hn (.inr (.inr e)); omega⟩
      cases hb : (comeL (s.rev + 1) (nowL s) ms).2.2
      · exact absurd (.inl hb) hn
      · rfl
theorem done_may {s : St} (h : MaySt s) {ms : List Mu} (ha : applied s ms) : MaySt (doneS s ms) := by
  obtain ⟨hd, hfit, hrev, hlen⟩ := applied_iff ha
  have hc := h.come (may_do hd).2
  have hmax := h.max
  refine ⟨h.low, by have := h.le; show s.low ≤ s.rev + 1; omega, by show s.rev + 1 ≤ 1099511627774; omega, h.good, by show (s.log ++ eventsOf s ms).length ≤ 60; rw [List.length_append]; exact hlen, ?_⟩
  show mayLogB (s.rev + 1) s.base (s.low + 1) (s.log ++ eventsOf s ms) = true
  rw [mayLog_app]
  refine ⟨mayLog_top (by omega) _ _ _ h.log, ?_⟩
  rw [← h.now_all]
  exact mayLog_least (hc.log hfit) fun e he => by
    have h1 := hc.revs e he
    have h2 := last_le (b := s.log) (low := s.low + 1) (t := s.rev + 1) (by have := h.le; omega) (fun e he => by have := (mayLog_in _ _ _ h.log e he).2; omega)
    omega
theorem done_at {s : St} (h : MaySt s) {ms : List Mu} (hd : doTo [] ms = true) {t : Int} (ht : t ≤ s.rev) : foldL (doneS s ms).base (doneS s ms).log t = foldL s.base s.log t := by
  show foldL s.base (s.log ++ eventsOf s ms) t = _
  rw [foldL_app, foldL_none (eventsOf s ms) _ fun e he => by have := (h.come hd).revs e he; omega]
theorem done_now {s : St} (h : MaySt s) {ms : List Mu} (hd : doTo [] ms = true) : nowL (doneS s ms) = (comeL (s.rev + 1) (nowL s) ms).2.1 := by
  have hc := h.come hd
  show foldL s.base (s.log ++ eventsOf s ms) (s.rev + 1) = _
  rw [foldL_app, foldL_all s.log, ← h.now_all, foldL_all (eventsOf s ms), hc.now]
  · rfl
  · intro e he; have := hc.revs e he; omega
  · intro e he; have := (mayLog_in _ _ _ h.log e he).2; omega
theorem apply_may {s : St} (h : MaySt s) (ms : List Mu) : MaySt (applyS s ms) := by
  unfold applyS; split
  · exact done_may h ‹_›
  · exact h
theorem come_none {rev : Int} : ∀ (ms : List Mu) (c : Come), (ms.foldl (stepC rev) c).1 = [] → c.1 = []
  | [], _, h => h
  | m :: r, c, h => by
    have := come_none r _ h
    unfold stepC at this
    split at this
    · exact this
    · simp at this
/-- Without events all is as it was. -/
theorem come_idle {rev : Int} : ∀ (ms : List Mu) (c : Come), (ms.foldl (stepC rev) c).1 = [] → ms.foldl (stepC rev) c = c
  | [], _, _ => rfl
  | m :: r, c, h => by
    have h1 := come_none r _ h
    have h2 := come_idle r _ h
    rw [List.foldl_cons, h2]
    unfold stepC at h1 ⊢
    split at h1
    · first | rfl | (rename_i he; rw [he])
    · simp at h1
/-- What there is behind what is done with no error, events or none. -/
theorem apply_now {s : St} (h : MaySt s) {ms : List Mu} (he : applyE s ms = 0) : nowL (applyS s ms) = (comeL (s.rev + 1) (nowL s) ms).2.1 ∧ mayDoB ms = true := by
  have hd : mayDoB ms = true := by
    unfold applyE at he
    split at he
    · cases he
    · rename_i h; simpa using h
  refine ⟨?_, hd⟩
  unfold applyS
  split
  · exact done_now h (may_do hd).2
  · rename_i hn
    have hev : eventsOf s ms = [] := Classical.byContradiction fun hne => hn ⟨he, hne⟩
    have := come_idle ms ([], nowL s, true) hev
    unfold comeL
    rw [this]

theorem laid_same {l l' : List KV} {m : Mu} {rev : Int} (h : findL l m.key = findL l' m.key) : laid l m rev = laid l' m rev := by unfold laid; rw [h]
/-- What has become of a key that was named. -/
theorem come_find {rev : Int} {l : List KV} {a b : List Mu} {m : Mu} (hm : doTo [] (a ++ m :: b) = true) (hl : mayP oneB l = true) (h0 : 1 ≤ rev) (h1 : rev ≤ 1099511627775) (hr : ∀ x ∈ l, x.mod < rev) :
    findL (comeL rev l (a ++ m :: b)).2.1 m.key = if m.gone then none else some (laid l m rev) := by
  have hap := (doTo_apart _ _ hm).1
  rw [List.pairwise_append] at hap
  obtain ⟨_, hp2, hp3⟩ := hap
  rw [List.pairwise_cons] at hp2
  have hda : doTo [] a = true := by rw [doTo_app] at hm; simp only [Bool.and_eq_true] at hm; exact hm.1
  have hc : CInv rev l ([] ++ a) (comeL rev l ([] ++ a)) := come_inv h0 h1 hr a [] (come_zero _ hl) hda
  rw [List.nil_append] at hc
  have e : comeL rev l (a ++ m :: b) = b.foldl (stepC rev) (stepC rev (comeL rev l a) m) := by
    unfold comeL; rw [List.foldl_append, List.foldl_cons]
  rw [e, come_other rev l m.key b _ (fun y hy => (hp2.1 y hy).symm)]
  have hf := hc.other m.key (fun y hy => hp3 y hy m (by simp))
  generalize comeL rev l a = c at *
  unfold stepC
  cases hg : m.gone with
  | true =>
    simp only [if_true]
    cases hx : findL c.2.1 m.key with
    | none =>
      have : evOf c.2.1 m rev = none := by unfold evOf; rw [hg, hx]; rfl
      rw [this]; exact hx
    | some x =>
      have : evOf c.2.1 m rev = some ⟨rev, true, x⟩ := by unfold evOf; rw [hg, hx]; rfl
      rw [this]
      show findL (takeL c.2.1 x.key) m.key = none
      rw [(findL_mem _ _ _ hx).2]
      exact find_take_same _ _ (mayP_rises hc.may)
  | false =>
    have : evOf c.2.1 m rev = some ⟨rev, false, laid c.2.1 m rev⟩ := by unfold evOf; rw [hg]; rfl
    rw [this]
    simp only [Bool.false_eq_true, if_false]
    show findL (layL c.2.1 (laid c.2.1 m rev)) m.key = _
    have hk : (laid c.2.1 m rev).key = m.key := by unfold laid; split <;> rfl
    have := find_lay_same c.2.1 (laid c.2.1 m rev)
    rw [hk] at this
    rw [this, laid_same hf]
/-- How many events come. -/
def tells (l : List KV) (m : Mu) : Bool := !m.gone || (findL l m.key).isSome
theorem evOf_some {l : List KV} {m : Mu} {rev : Int} : (evOf l m rev).isSome = tells l m := by
  unfold evOf tells
  cases m.gone <;> simp
theorem come_len {rev : Int} {l : List KV} : ∀ (b a : List Mu), doTo a b = true → ∀ c : Come, (∀ m ∈ b, findL c.2.1 m.key = findL l m.key) → (b.foldl (stepC rev) c).1.length = c.1.length + (b.filter (tells l)).length
  | [], _, _, c, _ => by simp
  | m :: r, a, hd, c, hf => by
    have hd' := hd
    simp only [doTo, Bool.and_eq_true] at hd
    have hap := (doTo_apart _ _ hd').1
    rw [List.pairwise_cons] at hap
    rw [List.foldl_cons, come_len (rev := rev) (l := l) r (a ++ [m]) hd.2 (stepC rev c m) (fun y hy => by rw [stepC_now (hap.1 y hy)]; exact hf y (by simp [hy]))]
    have ht : (evOf c.2.1 m rev).isSome = tells l m := by rw [evOf_some]; unfold tells; rw [hf m (by simp)]
    unfold stepC
    cases he : evOf c.2.1 m rev with
    | none =>
      rw [he] at ht
      rw [List.filter_cons_of_neg (by rw [← ht]; simp)]
    | some e =>
      rw [he] at ht
      rw [List.filter_cons_of_pos (by rw [← ht]; rfl)]
      simp; omega
end Go.Proofs.Ytkikfaeigoeogaa.P
