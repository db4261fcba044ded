/- Layer 9, plain: what becomes of memos by what is kept. -/
import Derived.Test.YtcbnfgehmeikgaaMePure
namespace Go.Proofs.Ytcbnfgehmeikgaa.P
open Go
set_option linter.unusedVariables false
set_option linter.unusedSimpArgs false
section
variable {ρ : Type}
theorem nodup_erase {l : List Int} (h : l.Nodup) (a x : Int) : x ∈ l.erase a ↔ x ≠ a ∧ x ∈ l := List.Nodup.mem_erase_iff h
theorem drop_sub : ∀ (l : List (Me ρ)) (who seq : Int), (dropM l who seq).Sublist l
  | [], _, _ => List.Sublist.refl _
  | x :: r, who, seq => by
    unfold dropM
    split
    · exact List.sublist_cons_self _ _
    · exact (drop_sub r who seq).cons_cons _
theorem drop_whos {l : List (Me ρ)} {who seq a : Int} (h : a ∈ (dropM l who seq).map (·.who)) : a ∈ l.map (·.who) := (((drop_sub l who seq).map (·.who)).subset) h
theorem drop_stays {l : List (Me ρ)} {who seq : Int} {x : Me ρ} (hx : x ∈ l) : x ∈ dropM l who seq ∨ (x.who = who ∧ x.seq = seq) := by
  induction l with
  | nil => cases hx
  | cons y r ih =>
    unfold dropM
    by_cases h : isM who seq y = true
    · rw [if_pos h]
      rcases List.mem_cons.1 hx with rfl | hx
      · exact .inr (isM_iff.1 h)
      · exact .inl hx
    · rw [if_neg h]
      rcases List.mem_cons.1 hx with rfl | hx
      · exact .inl List.mem_cons_self
      · rcases ih hx with h1 | h1
        · exact .inl (List.mem_cons_of_mem _ h1)
        · exact .inr h1
/-- Who there is, behind all that is kept. -/
theorem who_add {m : Mos ρ} {who seq : Int} {r : ρ} {a : Int} : a ∈ whoL (addM m who seq r) ↔ a ∈ whoL m ∨ a = who := by
  unfold whoL addM
  simp only [List.mem_append, List.map_append, List.map_cons, List.map_nil, List.mem_singleton]
  constructor
  · rintro ((h | h) | h)
    · exact .inl (.inl h)
    · exact .inr h
    · exact .inl (.inr h)
  · rintro ((h | h) | h)
    · exact .inl (.inl h)
    · exact .inr h
    · exact .inl (.inr h)
theorem who_fit {n : Mos ρ} {who : Int} {a : Int} : a ∈ whoL (fitM n who) ↔ a ∈ whoL n := by
  by_cases h : 4 < (ofL n.l who).length
  · rw [fitM_many h]
    generalize hs : leastL (ofL n.l who) = s
    have hin : who ∈ whoL n := by
      cases ho : ofL n.l who with
      | nil => rw [ho] at h; simp at h
      | cons b r =>
        obtain ⟨x, hx, hw, _⟩ := of_mem.1 (show b ∈ ofL n.l who by rw [ho]; exact List.mem_cons_self)
        unfold whoL; rw [List.mem_append]; exact .inl (List.mem_map.2 ⟨x, hx, hw⟩)
    unfold whoL letGo at *
    simp only [List.mem_append] at *
    rw [raise_mem]
    constructor
    · rintro (h1 | h1 | rfl)
      · exact .inl (drop_whos h1)
      · exact .inr h1
      · exact hin
    · rintro (h1 | h1)
      · obtain ⟨x, hx, rfl⟩ := List.mem_map.1 h1
        rcases drop_stays (who := who) (seq := s) hx with h2 | ⟨h2, _⟩
        · exact .inl (List.mem_map.2 ⟨x, h2, rfl⟩)
        · exact .inr (.inr h2)
      · exact .inr (.inl h1)
  · rw [fitM_few h]
theorem who_keep {m : Mos ρ} {who seq : Int} {r : ρ} (h : keepE m who seq = 0) {a : Int} : a ∈ whoL (keepM m who seq r) ↔ a ∈ whoL m ∨ a = who := by
  rw [keepM_ok h, who_fit, who_add]
/-- What is kept of others is as it was. -/
theorem all_fit_other {n : Mos ρ} {who a s : Int} (h : a ≠ who) : allM (fitM n who).l a s = allM n.l a s := by
  by_cases h4 : 4 < (ofL n.l who).length
  · rw [fitM_many h4]; exact all_drop_other _ (fun e => h e.1.symm)
  · rw [fitM_few h4]
theorem all_keep_other {m : Mos ρ} {who seq : Int} {r : ρ} {a s : Int} (h : a ≠ who) : allM (keepM m who seq r).l a s = allM m.l a s := by
  by_cases hk : keepE m who seq = 0
  · rw [keepM_ok hk, all_fit_other h]
    show allM (m.l ++ [_]) a s = _
    rw [all_app, all_one_no _ (fun e => h e.1.symm), List.append_nil]
  · rw [keepM_err hk]
theorem of_keep_other {m : Mos ρ} {who seq : Int} {r : ρ} {a : Int} (h : a ≠ who) : ofL (keepM m who seq r).l a = ofL m.l a := by
  by_cases hk : keepE m who seq = 0
  · rw [keepM_ok hk]
    have h0 : ofL (addM m who seq r).l a = ofL m.l a := by
      show ofL (m.l ++ [_]) a = _
      rw [of_app, of_one, if_neg (fun e => h e.symm), List.append_nil]
    by_cases h4 : 4 < (ofL (addM m who seq r).l who).length
    · rw [fitM_many h4]
      show ofL (dropM _ _ _) a = _
      rw [of_drop_other _ (fun e => h e.symm), h0]
    · rw [fitM_few h4, h0]
  · rw [keepM_err hk]
theorem fl_fit_other {n : Mos ρ} {who a : Int} (h : a ≠ who) : flI (fitM n who).old a = flI n.old a := by
  by_cases h4 : 4 < (ofL n.l who).length
  · rw [fitM_many h4]; exact fl_raise_other _ _ (fun e => h e.symm)
  · rw [fitM_few h4]
theorem fl_keep_other {m : Mos ρ} {who seq : Int} {r : ρ} {a : Int} (h : a ≠ who) : flI (keepM m who seq r).old a = flI m.old a := by
  by_cases hk : keepE m who seq = 0
  · rw [keepM_ok hk, fl_fit_other h]; rfl
  · rw [keepM_err hk]
theorem add_of {m : Mos ρ} {who seq : Int} {r : ρ} : ofL (addM m who seq r).l who = ofL m.l who ++ [seq] := by
  show ofL (m.l ++ [_]) who = _
  rw [of_app, of_one, if_pos rfl]
/-- What is kept of one's own. -/
theorem of_keep_same {m : Mos ρ} {who seq : Int} {r : ρ} (h : keepE m who seq = 0) : ofL (keepM m who seq r).l who = if 4 < (ofL m.l who).length + 1 then (ofL m.l who ++ [seq]).erase (leastL (ofL m.l who ++ [seq])) else ofL m.l who ++ [seq] := by
  rw [keepM_ok h]
  by_cases h4 : 4 < (ofL (addM m who seq r).l who).length
  · rw [fitM_many h4]
    rw [add_of, List.length_append, List.length_singleton] at h4
    rw [if_pos h4]
    show ofL (dropM _ _ _) who = _
    rw [of_drop_same, add_of]
  · rw [fitM_few h4]
    rw [add_of, List.length_append, List.length_singleton] at h4
    rw [if_neg h4, add_of]
theorem fl_keep_same {m : Mos ρ} {who seq : Int} {r : ρ} (h : keepE m who seq = 0) : flI (keepM m who seq r).old who = if 4 < (ofL m.l who).length + 1 then some (match flI m.old who with | some f => max f (leastL (ofL m.l who ++ [seq])) | none => leastL (ofL m.l who ++ [seq])) else flI m.old who := by
  rw [keepM_ok h]
  by_cases h4 : 4 < (ofL (addM m who seq r).l who).length
  · rw [fitM_many h4]
    rw [add_of, List.length_append, List.length_singleton] at h4
    rw [if_pos h4]
    show flI (raise _ _ _) who = _
    rw [fl_raise_same, add_of]; rfl
  · rw [fitM_few h4]
    rw [add_of, List.length_append, List.length_singleton] at h4
    rw [if_neg h4]; rfl
/-! A request that was kept: its reply is there, or it is old. -/
def Kept (m : Mos ρ) (who seq : Int) (r : ρ) : Prop := allM m.l who seq = [r] ∨ (allM m.l who seq = [] ∧ ∃ f, flI m.old who = some f ∧ seq ≤ f)
theorem Kept.look {m : Mos ρ} {who seq : Int} {r : ρ} (h : Kept m who seq r) : (findM m.l who seq = some r ∧ lookE m who seq = 0) ∨ (findM m.l who seq = none ∧ lookE m who seq = 7) := by
  rcases h with h | ⟨h, f, hf, hs⟩
  · have : findM m.l who seq = some r := by unfold findM; rw [h]; rfl
    exact .inl ⟨this, (look_some this).1⟩
  · have : findM m.l who seq = none := by unfold findM; rw [h]; rfl
    refine .inr ⟨this, ?_⟩
    rw [(look_none this).2, if_pos (by unfold floorL; rw [hf]; exact hs)]
theorem Kept.busy {m : Mos ρ} {who seq : Int} {r : ρ} (h : Kept m who seq r) : keepE m who seq ≠ 0 := by
  rcases h.look with ⟨h1, _⟩ | ⟨h1, h2⟩
  · rw [(look_some h1).2]; decide
  · rw [(look_none h1).1, h2]; decide
theorem Kept.fit {n : Mos ρ} {who who' seq : Int} {r : ρ} (h : Kept n who seq r) : Kept (fitM n who') who seq r := by
  by_cases h4 : 4 < (ofL n.l who').length
  · rw [fitM_many h4]
    generalize leastL (ofL n.l who') = s
    unfold letGo
    by_cases hw : who' = who
    · subst hw
      have hfl := fl_raise_same n.old who' s
      rcases h with h | ⟨h, f, hf, hs⟩
      · by_cases hse : s = seq
        · subst hse
          refine .inr ⟨?_, _, hfl, ?_⟩
          · show allM (dropM _ _ _) _ _ = _
            rw [all_drop_same, h]; rfl
          · cases flI n.old who' with
            | none => exact Int.le_refl _
            | some f => exact Int.le_max_right _ _
        · refine .inl ?_
          show allM (dropM _ _ _) _ _ = _
          rw [all_drop_other _ (fun e => hse e.2), h]
      · refine .inr ⟨?_, _, hfl, ?_⟩
        · show allM (dropM _ _ _) _ _ = _
          by_cases hse : s = seq
          · subst hse; rw [all_drop_same, h]; rfl
          · rw [all_drop_other _ (fun e => hse e.2), h]
        · rw [hf]; exact Int.le_trans hs (Int.le_max_left _ _)
    · rcases h with h | ⟨h, f, hf, hs⟩
      · refine .inl ?_
        show allM (dropM _ _ _) _ _ = _
        rw [all_drop_other _ (fun e => hw e.1), h]
      · refine .inr ⟨?_, f, ?_, hs⟩
        · show allM (dropM _ _ _) _ _ = _
          rw [all_drop_other _ (fun e => hw e.1), h]
        · show flI (raise _ _ _) _ = _
          rw [fl_raise_other _ _ hw, hf]
  · rw [fitM_few h4]; exact h
theorem Kept.new {m : Mos ρ} {who seq : Int} {r : ρ} (h : keepE m who seq = 0) : Kept (keepM m who seq r) who seq r := by
  rw [keepM_ok h]
  refine Kept.fit (.inl ?_)
  show allM (m.l ++ [_]) _ _ = _
  have h0 : allM m.l who seq = [] := by
    have := (keep_zero h).1
    unfold findM at this
    cases ha : allM m.l who seq with
    | nil => rfl
    | cons a b => rw [ha] at this; cases this
  rw [all_app, all_one_yes, h0]; rfl
theorem Kept.keep {m : Mos ρ} {who seq : Int} {r : ρ} (h : Kept m who seq r) (a b : Int) (q : ρ) : Kept (keepM m a b q) who seq r := by
  by_cases hk : keepE m a b = 0
  · rw [keepM_ok hk]
    have hne : ¬ (a = who ∧ b = seq) := fun e => by rw [e.1, e.2] at hk; exact h.busy hk
    refine Kept.fit ?_
    have h0 : allM (addM m a b q).l who seq = allM m.l who seq := by
      show allM (m.l ++ [_]) _ _ = _
      rw [all_app, all_one_no _ hne, List.append_nil]
    rcases h with h | ⟨h, h2⟩
    · exact .inl (h0.trans h)
    · exact .inr ⟨h0.trans h, h2⟩
  · rw [keepM_err hk]; exact h
/-! Of memos that may be come memos that may be. -/
theorem keep_may {m : Mos ρ} (h : MayM m) (who seq : Int) (r : ρ) : MayM (keepM m who seq r) := by
  refine (Decidable.em (keepE m who seq = 0)).elim (fun hk => ?_) (fun hk => by rw [keepM_err hk]; exact h)
  obtain ⟨hf, hfl, hfull⟩ := keep_zero hk
  have hno := find_of.1 hf
  have h8 : (riseL (whoL (keepM m who seq r))).length ≤ 8 := by
    have h0 := h.eight
    by_cases hw : who ∈ whoL m
    · refine Nat.le_trans (rise_sub (m := whoL m) fun x hx => ?_) h0
      rcases (who_keep hk).1 hx with h1 | rfl
      · exact h1
      · exact hw
    · have h1 := rise_more (l := whoL (keepM m who seq r)) (m := whoL m) who (fun x hx => (who_keep hk).1 hx)
      have h2 : ¬ (8 ≤ (riseL (whoL m)).length ∧ who ∉ whoL m) := by
        unfold fullB at hfull; exact decide_eq_false_iff_not.1 hfull
      have : (riseL (whoL m)).length < 8 := Nat.lt_of_not_le fun h3 => h2 ⟨h3, hw⟩
      omega
  have hone : ((m.l ++ [(⟨who, seq, r⟩ : Me ρ)]).map fun x => (x.who, x.seq)).Nodup := by
    rw [List.map_append, List.nodup_append]
    refine ⟨h.one, by simp, fun a ha b hb => ?_⟩
    simp at hb
    rintro rfl
    subst hb
    obtain ⟨x, hx, he⟩ := List.mem_map.1 ha
    injection he with h1 h2
    exact hno (of_mem.2 ⟨x, hx, h1, h2⟩)
  have habove : ∀ x ∈ m.l ++ [(⟨who, seq, r⟩ : Me ρ)], ∀ f, flI m.old x.who = some f → f < x.seq := by
    intro x hx f hf2
    rcases List.mem_append.1 hx with hx | hx
    · exact h.above x hx f hf2
    · rw [List.mem_singleton] at hx
      subst hx
      unfold floorL at hfl
      rw [hf2] at hfl
      exact hfl
  have hlen : ∀ a, (ofL (keepM m who seq r).l a).length ≤ 4 := by
    intro a
    by_cases ha : a = who
    · subst ha
      rw [of_keep_same hk]
      have := h.four a
      split
      · rename_i h4
        have hm := (least_is (l := ofL m.l a ++ [seq]) (by simp)).1
        rw [List.length_erase_of_mem hm, List.length_append, List.length_singleton]
        omega
      · rw [List.length_append, List.length_singleton]; omega
    · rw [of_keep_other ha]; exact h.four a
  rw [keepM_ok hk] at h8 hlen ⊢
  by_cases h4 : 4 < (ofL (addM m who seq r).l who).length
  · rw [fitM_many h4] at h8 hlen ⊢
    have hleast := least_is (l := ofL (addM m who seq r).l who) (fun e => by rw [e] at h4; simp at h4)
    generalize leastL (ofL (addM m who seq r).l who) = s0 at *
    refine ⟨?_, hlen, ?_, ?_, h8⟩
    · exact hone.sublist ((drop_sub _ who s0).map _)
    · show ((raise m.old who s0).map (·.1)).Nodup
      rw [raise_who]
      split
      · exact h.floor
      · rename_i hn
        rw [List.nodup_append]
        refine ⟨h.floor, by simp, fun a ha b hb => ?_⟩
        rw [List.mem_singleton] at hb
        subst hb
        rintro rfl
        exact hn ha
    · intro x hx f hf2
      have hx' : x ∈ m.l ++ [(⟨who, seq, r⟩ : Me ρ)] := (drop_sub _ who s0).subset hx
      by_cases hw : x.who = who
      · have hfl2 : flI (raise m.old who s0) x.who = some f := hf2
        rw [hw, fl_raise_same] at hfl2
        have hge : s0 ≤ x.seq := hleast.2 _ (of_mem.2 ⟨x, hx', hw, rfl⟩)
        have hne : x.seq ≠ s0 := by
          intro e
          have hd : (ofL (dropM (addM m who seq r).l who s0) who) = (ofL (addM m who seq r).l who).erase s0 := of_drop_same _ _ _
          have hin : s0 ∈ ofL (dropM (addM m who seq r).l who s0) who := of_mem.2 ⟨x, hx, hw, e⟩
          rw [hd] at hin
          have hnd : (ofL (addM m who seq r).l who).Nodup := by
            have hu := hone
            have : ∀ l : List (Me ρ), (l.map fun x => (x.who, x.seq)).Nodup → (ofL l who).Nodup := by
              intro l hl
              unfold ofL
              induction l with
              | nil => simp
              | cons y t ih =>
                rw [List.map_cons, List.nodup_cons] at hl
                rw [List.filter_cons]
                split
                · rename_i hy
                  have hy' : y.who = who := by simpa using hy
                  rw [List.map_cons, List.nodup_cons]
                  refine ⟨fun hm => ?_, ih hl.2⟩
                  obtain ⟨z, hz, hs⟩ := List.mem_map.1 hm
                  rw [List.mem_filter] at hz
                  exact hl.1 (List.mem_map.2 ⟨z, hz.1, by rw [hs, hy']; simp at hz; rw [hz.2]⟩)
                · exact ih hl.2
            exact this _ hu
          exact ((nodup_erase hnd s0 s0).1 hin).1 rfl
        have h0 := habove x hx'
        cases ho : flI m.old who with
        | none => rw [ho] at hfl2; have := Option.some.inj hfl2; simp only at this; omega
        | some g =>
          rw [ho] at hfl2
          have h1 := Option.some.inj hfl2
          simp only at h1
          have h2 := h0 g (by rw [hw]; exact ho)
          rw [← h1]
          rcases Int.le_total g s0 with h3 | h3
          · rw [Int.max_eq_right h3]; omega
          · rw [Int.max_eq_left h3]; exact h2
      · have hfl2 : flI (raise m.old who s0) x.who = some f := hf2
        rw [fl_raise_other _ _ (fun e => hw e.symm)] at hfl2
        exact habove x hx' f hfl2
  · rw [fitM_few h4] at h8 hlen ⊢
    exact ⟨hone, hlen, h.floor, habove, h8⟩
end
end Go.Proofs.Ytcbnfgehmeikgaa.P
