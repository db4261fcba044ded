/- Layer 9, plain: replies that are kept, floors, what is looked for and what is kept; no program in sight. -/
import Derived.Test.YtcbnfgehmeikgaaRiPure
namespace Go.Proofs.Ytcbnfgehmeikgaa.P
open Go
set_option linter.unusedVariables false
set_option linter.unusedSimpArgs false

structure Me (ρ : Type) where
  who : Int
  seq : Int
  rp : ρ
structure Mos (ρ : Type) where
  l : List (Me ρ)
  old : List (Int × Int)
section
variable {ρ : Type}
def isM (who seq : Int) (x : Me ρ) : Bool := decide (x.who = who ∧ x.seq = seq)
theorem isM_iff {who seq : Int} {x : Me ρ} : isM who seq x = true ↔ (x.who = who ∧ x.seq = seq) := decide_eq_true_iff
/-- The first floor of somebody. -/
def flI : List (Int × Int) → Int → Option Int
  | [], _ => none
  | x :: r, who => if x.1 = who then some x.2 else flI r who
def floorL (old : List (Int × Int)) (who : Int) : Int := (flI old who).getD (-1)
def ofL (l : List (Me ρ)) (who : Int) : List Int := (l.filter fun x => decide (x.who = who)).map (·.seq)
/-- The replies that are kept of a request. -/
def allM (l : List (Me ρ)) (who seq : Int) : List ρ := (l.filter (isM who seq)).map (·.rp)
def findM (l : List (Me ρ)) (who seq : Int) : Option ρ := (allM l who seq).head?
def whoL (m : Mos ρ) : List Int := m.l.map (·.who) ++ m.old.map (·.1)
def fullB (m : Mos ρ) (who : Int) : Bool := decide (8 ≤ (riseL (whoL m)).length ∧ who ∉ whoL m)
def lookE (m : Mos ρ) (who seq : Int) : Int := match findM m.l who seq with
  | some _ => 0
  | none => if seq ≤ floorL m.old who then 7 else if fullB m who = true then 4 else 0
def keepE (m : Mos ρ) (who seq : Int) : Int := match findM m.l who seq with
  | some _ => 11
  | none => lookE m who seq
/-- The first reply of a request is let go. -/
def dropM : List (Me ρ) → Int → Int → List (Me ρ)
  | [], _, _ => []
  | x :: r, who, seq => if isM who seq x = true then r else x :: dropM r who seq
/-- The first floor of somebody is raised, or laid behind all. -/
def raise : List (Int × Int) → Int → Int → List (Int × Int)
  | [], who, s => [(who, s)]
  | x :: r, who, s => if x.1 = who then (x.1, max x.2 s) :: r else x :: raise r who s
def leastL (l : List Int) : Int := (sortI l).headD 0
def letGo (m : Mos ρ) (who seq : Int) : Mos ρ := ⟨dropM m.l who seq, raise m.old who seq⟩
def addM (m : Mos ρ) (who seq : Int) (r : ρ) : Mos ρ := ⟨m.l ++ [⟨who, seq, r⟩], m.old⟩
def fitM (n : Mos ρ) (who : Int) : Mos ρ := if 4 < (ofL n.l who).length then letGo n who (leastL (ofL n.l who)) else n
def keepM (m : Mos ρ) (who seq : Int) (r : ρ) : Mos ρ := if keepE m who seq ≠ 0 then m else fitM (addM m who seq r) who
theorem keepM_err {m : Mos ρ} {who seq : Int} {r : ρ} (h : keepE m who seq ≠ 0) : keepM m who seq r = m := if_pos h
theorem keepM_ok {m : Mos ρ} {who seq : Int} {r : ρ} (h : keepE m who seq = 0) : keepM m who seq r = fitM (addM m who seq r) who := if_neg (by omega)
theorem fitM_few {n : Mos ρ} {who : Int} (h : ¬ 4 < (ofL n.l who).length) : fitM n who = n := if_neg h
theorem fitM_many {n : Mos ρ} {who : Int} (h : 4 < (ofL n.l who).length) : fitM n who = letGo n who (leastL (ofL n.l who)) := if_pos h
theorem look_some {m : Mos ρ} {who seq : Int} {r : ρ} (h : findM m.l who seq = some r) : lookE m who seq = 0 ∧ keepE m who seq = 11 := by
  unfold keepE lookE; rw [h]; exact ⟨rfl, rfl⟩
theorem look_none {m : Mos ρ} {who seq : Int} (h : findM m.l who seq = none) : keepE m who seq = lookE m who seq ∧ lookE m who seq = if seq ≤ floorL m.old who then 7 else if fullB m who = true then 4 else 0 := by
  unfold keepE lookE; rw [h]; exact ⟨rfl, rfl⟩
theorem keep_zero {m : Mos ρ} {who seq : Int} (h : keepE m who seq = 0) : findM m.l who seq = none ∧ floorL m.old who < seq ∧ fullB m who = false := by
  cases hf : findM m.l who seq with
  | some r => rw [(look_some hf).2] at h; cases h
  | none =>
    rw [(look_none hf).1, (look_none hf).2] at h
    refine ⟨rfl, ?_⟩
    by_cases h1 : seq ≤ floorL m.old who
    · rw [if_pos h1] at h; cases h
    · rw [if_neg h1] at h
      refine ⟨by omega, ?_⟩
      cases hx : fullB m who with
      | false => rfl
      | true => rw [hx] at h; cases h
/-! Lists of things. -/
theorem all_app (l k : List (Me ρ)) (who seq : Int) : allM (l ++ k) who seq = allM l who seq ++ allM k who seq := by simp [allM]
theorem all_one_yes (who seq : Int) (r : ρ) : allM [⟨who, seq, r⟩] who seq = [r] := by simp [allM, isM]
theorem all_one_no {a b who seq : Int} (r : ρ) (h : ¬ (a = who ∧ b = seq)) : allM [⟨a, b, r⟩] who seq = [] := by simp [allM, isM, h]
theorem all_drop_same : ∀ (l : List (Me ρ)) (who seq : Int), allM (dropM l who seq) who seq = (allM l who seq).tail
  | [], _, _ => rfl
  | x :: r, who, seq => by
    unfold dropM
    by_cases h : isM who seq x = true
    · rw [if_pos h]; unfold allM; rw [List.filter_cons, if_pos h]; rfl
    · rw [if_neg h]
      have := all_drop_same r who seq
      unfold allM at this ⊢
      rw [List.filter_cons, if_neg h, List.filter_cons, if_neg h]
      exact this
theorem all_drop_other : ∀ (l : List (Me ρ)) {a b who seq : Int}, ¬ (a = who ∧ b = seq) → allM (dropM l a b) who seq = allM l who seq
  | [], _, _, _, _, _ => rfl
  | x :: r, a, b, who, seq, hne => by
    unfold dropM
    by_cases h : isM a b x = true
    · rw [if_pos h]
      have h' := isM_iff.1 h
      have : ¬ isM who seq x = true := fun e => hne (by have := isM_iff.1 e; exact ⟨h'.1.symm.trans this.1, h'.2.symm.trans this.2⟩)
      unfold allM; rw [List.filter_cons, if_neg this]
    · rw [if_neg h]
      have := all_drop_other r hne
      unfold allM at this ⊢
      rw [List.filter_cons, List.filter_cons]
      split
      · rw [List.map_cons, List.map_cons, this]
      · exact this
theorem of_app (l k : List (Me ρ)) (who : Int) : ofL (l ++ k) who = ofL l who ++ ofL k who := by simp [ofL]
theorem of_one (a b : Int) (r : ρ) (who : Int) : ofL [⟨a, b, r⟩] who = if a = who then [b] else [] := by
  by_cases h : a = who <;> simp [ofL, h]
theorem of_drop_other : ∀ (l : List (Me ρ)) {a b who : Int}, a ≠ who → ofL (dropM l a b) who = ofL l who
  | [], _, _, _, _ => rfl
  | x :: r, a, b, who, hne => by
    unfold dropM
    by_cases h : isM a b x = true
    · rw [if_pos h]
      have h' := isM_iff.1 h
      unfold ofL; rw [List.filter_cons, if_neg (by simp; intro e; exact hne (h'.1.symm.trans e))]
    · rw [if_neg h]
      have := of_drop_other r (b := b) hne
      unfold ofL at this ⊢
      rw [List.filter_cons, List.filter_cons]
      split
      · rw [List.map_cons, List.map_cons, this]
      · exact this
theorem of_drop_same : ∀ (l : List (Me ρ)) (who seq : Int), ofL (dropM l who seq) who = (ofL l who).erase seq
  | [], _, _ => rfl
  | x :: r, who, seq => by
    have ih := of_drop_same r who seq
    unfold dropM
    by_cases h : isM who seq x = true
    · rw [if_pos h]
      have h' := isM_iff.1 h
      unfold ofL; rw [List.filter_cons, if_pos (by simp [h'.1]), List.map_cons, h'.2, List.erase_cons_head]
    · rw [if_neg h]
      unfold ofL at ih ⊢
      rw [List.filter_cons, List.filter_cons]
      by_cases hw : x.who = who
      · have hs : x.seq ≠ seq := fun e => h (isM_iff.2 ⟨hw, e⟩)
        rw [if_pos (by simp [hw]), if_pos (by simp [hw]), List.map_cons, List.map_cons, ih, List.erase_cons_tail (by simpa using hs)]
      · rw [if_neg (by simp [hw]), if_neg (by simp [hw])]; exact ih
theorem of_mem {l : List (Me ρ)} {who s : Int} : s ∈ ofL l who ↔ ∃ x ∈ l, x.who = who ∧ x.seq = s := by
  unfold ofL
  rw [List.mem_map]
  constructor
  · rintro ⟨x, hx, rfl⟩; rw [List.mem_filter] at hx; exact ⟨x, hx.1, by simpa using hx.2, rfl⟩
  · rintro ⟨x, hx, hw, rfl⟩; exact ⟨x, List.mem_filter.2 ⟨hx, by simpa using hw⟩, rfl⟩
theorem all_of {l : List (Me ρ)} {who s : Int} : s ∈ ofL l who ↔ allM l who s ≠ [] := by
  rw [of_mem]
  unfold allM
  constructor
  · rintro ⟨x, hx, hw, hs⟩ h
    have : x.rp ∈ (l.filter (isM who s)).map (·.rp) := List.mem_map.2 ⟨x, List.mem_filter.2 ⟨hx, isM_iff.2 ⟨hw, hs⟩⟩, rfl⟩
    rw [h] at this; cases this
  · intro h
    cases hf : l.filter (isM who s) with
    | nil => rw [hf] at h; exact absurd rfl h
    | cons x r =>
      have : x ∈ l.filter (isM who s) := by rw [hf]; exact List.mem_cons_self
      rw [List.mem_filter] at this
      exact ⟨x, this.1, (isM_iff.1 this.2).1, (isM_iff.1 this.2).2⟩
theorem find_of {l : List (Me ρ)} {who s : Int} : findM l who s = none ↔ s ∉ ofL l who := by
  rw [all_of]
  unfold findM
  cases allM l who s <;> simp
/-! Floors. -/
theorem fl_none {old : List (Int × Int)} {who : Int} : flI old who = none ↔ who ∉ old.map (·.1) := by
  induction old with
  | nil => simp [flI]
  | cons x r ih =>
    unfold flI
    by_cases h : x.1 = who
    · rw [if_pos h]; simp [h]
    · rw [if_neg h, ih, List.map_cons, List.mem_cons]
      constructor
      · rintro h1 (h2 | h2)
        · exact h h2.symm
        · exact h1 h2
      · exact fun h1 h2 => h1 (.inr h2)
theorem fl_raise_same : ∀ (old : List (Int × Int)) (who s : Int), flI (raise old who s) who = some (match flI old who with | some f => max f s | none => s)
  | [], who, s => by simp [raise, flI]
  | x :: r, who, s => by
    unfold raise
    by_cases h : x.1 = who
    · rw [if_pos h]; simp [flI, h]
    · rw [if_neg h]
      have := fl_raise_same r who s
      simp only [flI, if_neg h]
      exact this
theorem fl_raise_other : ∀ (old : List (Int × Int)) {a who : Int} (s : Int), a ≠ who → flI (raise old a s) who = flI old who
  | [], a, who, s, h => by simp [raise, flI, h]
  | x :: r, a, who, s, h => by
    unfold raise
    by_cases h1 : x.1 = a
    · rw [if_pos h1]; simp only [flI]; rw [if_neg (fun e => h (h1.symm.trans e)), if_neg (fun e => h (h1.symm.trans e))]
    · rw [if_neg h1]
      simp only [flI]
      rw [fl_raise_other r s h]
theorem raise_who : ∀ (old : List (Int × Int)) (who s : Int), (raise old who s).map (·.1) = if who ∈ old.map (·.1) then old.map (·.1) else old.map (·.1) ++ [who]
  | [], who, s => by simp [raise]
  | x :: r, who, s => by
    unfold raise
    by_cases h : x.1 = who
    · rw [if_pos h, if_pos (by simp [h])]; rfl
    · rw [if_neg h, List.map_cons, raise_who r who s]
      by_cases hm : who ∈ r.map (·.1)
      · rw [if_pos hm, if_pos (by rw [List.map_cons]; exact List.mem_cons_of_mem _ hm), List.map_cons]
      · rw [if_neg hm, if_neg (by rw [List.map_cons, List.mem_cons]; rintro (e | e); exact h e.symm; exact hm e), List.map_cons, List.cons_append]
theorem raise_mem {old : List (Int × Int)} {who s x : Int} : x ∈ (raise old who s).map (·.1) ↔ x ∈ old.map (·.1) ∨ x = who := by
  rw [raise_who]
  split
  · rename_i h; constructor
    · exact .inl
    · rintro (h1 | rfl); exact h1; exact h
  · rw [List.mem_append, List.mem_singleton]
/-! The least one. -/
theorem least_is {l : List Int} (h : l ≠ []) : leastL l ∈ l ∧ ∀ s ∈ l, leastL l ≤ s := by
  unfold leastL
  have hp := sortI_perm l
  have hs := sortI_le l
  cases hl : sortI l with
  | nil => rw [hl] at hp; exact absurd hp.nil_eq.symm h
  | cons a r =>
    rw [hl] at hp hs
    rw [List.pairwise_cons] at hs
    refine ⟨hp.mem_iff.1 List.mem_cons_self, fun s hs' => ?_⟩
    rcases List.mem_cons.1 (hp.mem_iff.2 hs') with rfl | h1
    · exact Int.le_refl _
    · exact hs.1 s h1
theorem least_eq {l : List Int} {a : Int} (h : a ∈ l) (h1 : ∀ s ∈ l, a ≤ s) : leastL l = a := by
  have := least_is (l := l) (fun e => by rw [e] at h; cases h)
  have h2 := this.2 a h
  have h3 := h1 _ this.1
  omega
/-! Sorted lists, each once. -/
theorem up_sub : ∀ (l m : List Int), l.Pairwise (· < ·) → m.Pairwise (· < ·) → (∀ x ∈ l, x ∈ m) → l.length ≤ m.length
  | [], _, _, _, _ => Nat.zero_le _
  | a :: l, [], _, _, h => by have := h a List.mem_cons_self; cases this
  | a :: l, b :: m, hl, hm, h => by
    rw [List.pairwise_cons] at hl hm
    by_cases hab : a = b
    · subst hab
      have := up_sub l m hl.2 hm.2 (fun x hx => by
        rcases List.mem_cons.1 (h x (List.mem_cons_of_mem _ hx)) with rfl | h1
        · have := hl.1 x hx; omega
        · exact h1)
      simp; exact this
    · have hb : b < a := by
        rcases List.mem_cons.1 (h a List.mem_cons_self) with h1 | h1
        · exact absurd h1 hab
        · exact hm.1 a h1
      have := up_sub (a :: l) m (List.pairwise_cons.2 hl) hm.2 (fun x hx => by
        rcases List.mem_cons.1 (h x hx) with rfl | h1
        · rcases List.mem_cons.1 hx with h2 | h2
          · omega
          · have := hl.1 x h2; omega
        · exact h1)
      simp at this ⊢; omega
theorem rise_sub {l m : List Int} (h : ∀ x ∈ l, x ∈ m) : (riseL l).length ≤ (riseL m).length :=
  up_sub _ _ (rise_up l).1 (rise_up m).1 fun x hx => ((rise_up m).2 x).2 (h x (((rise_up l).2 x).1 hx))
theorem rise_more {l m : List Int} (z : Int) (h : ∀ x ∈ l, x ∈ m ∨ x = z) : (riseL l).length ≤ (riseL m).length + 1 := by
  have h1 := rise_sub (l := l) (m := m ++ [z]) (fun x hx => by rw [List.mem_append, List.mem_singleton]; exact h x hx)
  rw [rise_snoc] at h1
  have := putI_len (riseL m) z
  omega
/-! What may be. -/
structure MayM (m : Mos ρ) : Prop where
  one : (m.l.map fun x => (x.who, x.seq)).Nodup
  four : ∀ who, (ofL m.l who).length ≤ 4
  floor : (m.old.map (·.1)).Nodup
  above : ∀ x ∈ m.l, ∀ f, flI m.old x.who = some f → f < x.seq
  eight : (riseL (whoL m)).length ≤ 8
open Classical in
noncomputable def mayMB (m : Mos ρ) : Bool := decide (MayM m)
open Classical in
theorem mayMB_iff {m : Mos ρ} : mayMB m = true ↔ MayM m := by unfold mayMB; exact decide_eq_true_iff
/-- What the program asks of one. -/
def oneOf (m : Mos ρ) (who : Int) : Bool := decide ((ofL m.l who).length ≤ 4 ∧ (m.old.filter fun x => decide (x.1 = who)).length ≤ 1 ∧ ∀ f, flI m.old who = some f → ∀ s ∈ ofL m.l who, f < s)
theorem oneOf_iff {m : Mos ρ} {who : Int} : oneOf m who = true ↔ ((ofL m.l who).length ≤ 4 ∧ (m.old.filter fun x => decide (x.1 = who)).length ≤ 1 ∧ ∀ f, flI m.old who = some f → ∀ s ∈ ofL m.l who, f < s) := decide_eq_true_iff
theorem nodup_count : ∀ {old : List (Int × Int)}, (∀ who ∈ old.map (·.1), (old.filter fun x => decide (x.1 = who)).length ≤ 1) → (old.map (·.1)).Nodup
  | [], _ => List.nodup_nil
  | x :: r, h => by
    rw [List.map_cons, List.nodup_cons]
    refine ⟨fun hm => ?_, nodup_count fun who hw => ?_⟩
    · have h1 := h x.1 (by simp)
      rw [List.filter_cons, if_pos (by simp), List.length_cons] at h1
      obtain ⟨y, hy, hyx⟩ := List.mem_map.1 hm
      have : y ∈ r.filter fun z => decide (z.1 = x.1) := List.mem_filter.2 ⟨hy, by simpa using hyx⟩
      have := List.length_pos_of_mem this
      omega
    · have h1 := h who (by rw [List.map_cons]; exact List.mem_cons_of_mem _ hw)
      rw [List.filter_cons] at h1
      split at h1
      · rw [List.length_cons] at h1; omega
      · exact h1
theorem count_nodup : ∀ {old : List (Int × Int)} (who : Int), (old.map (·.1)).Nodup → (old.filter fun x => decide (x.1 = who)).length ≤ 1
  | [], _, _ => by simp
  | x :: r, who, h => by
    rw [List.map_cons, List.nodup_cons] at h
    rw [List.filter_cons]
    split
    · rename_i hx
      have hx' : x.1 = who := by simpa using hx
      have : (r.filter fun z => decide (z.1 = who)) = [] := List.filter_eq_nil_iff.2 fun y hy e => h.1 (List.mem_map.2 ⟨y, hy, by rw [hx']; simpa using e⟩)
      rw [this]; simp
    · exact count_nodup who h.2
theorem may_of {m : Mos ρ} (h8 : (riseL (whoL m)).length ≤ 8) (h1 : (m.l.map fun x => (x.who, x.seq)).Nodup) (h : ∀ who ∈ riseL (whoL m), oneOf m who = true) : MayM m := by
  have hw : ∀ who ∈ whoL m, oneOf m who = true := fun who hm => h who (((rise_up _).2 who).2 hm)
  refine ⟨h1, fun who => ?_, nodup_count fun who hm => ?_, fun x hx f hf => ?_, h8⟩
  · by_cases hm : who ∈ whoL m
    · exact (oneOf_iff.1 (hw who hm)).1
    · have : ofL m.l who = [] := by
        cases ho : ofL m.l who with
        | nil => rfl
        | cons s r =>
          obtain ⟨x, hx, he, _⟩ := of_mem.1 (show s ∈ ofL m.l who by rw [ho]; exact List.mem_cons_self)
          exact absurd (by unfold whoL; rw [List.mem_append]; exact .inl (List.mem_map.2 ⟨x, hx, he⟩)) hm
      rw [this]; simp
  · exact (oneOf_iff.1 (hw who (by unfold whoL; rw [List.mem_append]; exact .inr hm))).2.1
  · exact (oneOf_iff.1 (hw x.who (by unfold whoL; rw [List.mem_append]; exact .inl (List.mem_map.2 ⟨x, hx, rfl⟩)))).2.2 f hf _ (of_mem.2 ⟨x, hx, rfl, rfl⟩)
theorem may_one {m : Mos ρ} (h : MayM m) (who : Int) : oneOf m who = true := oneOf_iff.2 ⟨h.four who, count_nodup who h.floor, fun f hf s hs => by
  obtain ⟨x, hx, hw, rfl⟩ := of_mem.1 hs
  exact h.above x hx f (by rw [hw]; exact hf)⟩
theorem MayM.uni {m : Mos ρ} (h : MayM m) (who seq : Int) : (allM m.l who seq).length ≤ 1 := by
  have h1 := h.one
  unfold allM
  rw [List.length_map]
  generalize m.l = l at h1
  induction l with
  | nil => simp
  | cons x r ih =>
    rw [List.map_cons, List.nodup_cons] at h1
    rw [List.filter_cons]
    split
    · rename_i hx
      have hx' := isM_iff.1 hx
      have : r.filter (isM who seq) = [] := List.filter_eq_nil_iff.2 fun y hy e => h1.1 (List.mem_map.2 ⟨y, hy, by have := isM_iff.1 e; rw [hx'.1, hx'.2, this.1, this.2]⟩)
      rw [this]; simp
    · exact ih h1.2
theorem MayM.distinct {m : Mos ρ} (h : MayM m) (who : Int) : (ofL m.l who).Nodup := by
  have h1 := h.one
  unfold ofL
  generalize m.l = l at h1
  induction l with
  | nil => simp
  | cons x r ih =>
    rw [List.map_cons, List.nodup_cons] at h1
    rw [List.filter_cons]
    split
    · rename_i hx
      have hx' : x.who = who := by simpa using hx
      rw [List.map_cons, List.nodup_cons]
      refine ⟨fun hm => ?_, ih h1.2⟩
      obtain ⟨y, hy, hs⟩ := List.mem_map.1 hm
      rw [List.mem_filter] at hy
      exact h1.1 (List.mem_map.2 ⟨y, hy.1, by rw [hs, hx']; simp at hy; rw [hy.2]⟩)
    · exact ih h1.2
end
end Go.Proofs.Ytcbnfgehmeikgaa.P
