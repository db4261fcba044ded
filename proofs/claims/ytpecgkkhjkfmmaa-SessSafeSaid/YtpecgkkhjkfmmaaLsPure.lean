/- Leases as lists: may they be, granted, kept, ended, due, and what they hold. -/
import Derived.Test.YtpecgkkhjkfmmaaKvPure
namespace Go.Proofs.Ytpecgkkhjkfmmaa.P
set_option linter.unusedVariables false

structure Le where
  id : Int
  ttl : Int
  til : Int
  deriving DecidableEq
structure Ls where
  next : Int
  l : List Le
def mx : Int := 1099511627775
/-- May a lease be, where Next is so much? -/
def okLe (next : Int) (x : Le) : Bool := decide (1 ≤ x.id ∧ x.id ≤ next ∧ 1 ≤ x.ttl ∧ x.ttl ≤ 1000 ∧ 0 ≤ x.til ∧ x.til ≤ 1099511627775 + x.ttl)
def Rises (l : List Le) : Prop := l.Pairwise fun a b => a.id < b.id
instance (l : List Le) : Decidable (Rises l) := inferInstanceAs (Decidable (l.Pairwise fun a b => a.id < b.id))
structure MayL (s : Ls) : Prop where
  lo : 0 ≤ s.next
  hi : s.next ≤ 1099511627775
  len : s.l.length ≤ 8
  ok : ∀ x ∈ s.l, okLe s.next x = true
  rise : Rises s.l
def mayL (s : Ls) : Bool := decide (0 ≤ s.next ∧ s.next ≤ 1099511627775 ∧ s.l.length ≤ 8) && (s.l.all (okLe s.next) && decide (Rises s.l))
theorem mayL_iff (s : Ls) : mayL s = true ↔ MayL s := by
  unfold mayL
  simp only [Bool.and_eq_true, decide_eq_true_eq, List.all_eq_true]
  exact ⟨fun ⟨⟨a, b, c⟩, d, e⟩ => ⟨a, b, c, d, e⟩, fun ⟨a, b, c, d, e⟩ => ⟨⟨a, b, c⟩, d, e⟩⟩
theorem okLe_iff {n : Int} {x : Le} : okLe n x = true ↔ (1 ≤ x.id ∧ x.id ≤ n ∧ 1 ≤ x.ttl ∧ x.ttl ≤ 1000 ∧ 0 ≤ x.til ∧ x.til ≤ 1099511627775 + x.ttl) := by
  unfold okLe; exact decide_eq_true_iff

/-- The least Id that the j-th one may have. -/
def leastL (l : List Le) : Nat → Int
  | 0 => 1
  | j + 1 => match l[j]? with | some x => x.id + 1 | none => 1
/-- All is right up to j. -/
structure To (next : Int) (l : List Le) (j : Nat) : Prop where
  le : j ≤ l.length
  ok : ∀ x ∈ l.take j, okLe next x = true
  rise : Rises (l.take j)
  low : ∀ x ∈ l.take j, x.id < leastL l j
theorem To.zero (next : Int) (l : List Le) : To next l 0 := ⟨Nat.zero_le _, fun x h => by simp at h, by simp [Rises], fun x h => by simp at h⟩
theorem leastL_succ {l : List Le} {j : Nat} {x : Le} (h : l[j]? = some x) : leastL l (j + 1) = x.id + 1 := by show (match l[j]? with | some x => x.id + 1 | none => 1) = _; rw [h]
theorem leastL_pos {next : Int} {l : List Le} {j : Nat} (h : To next l j) : 1 ≤ leastL l j := by
  match j with
  | 0 => exact Int.le_refl _
  | j + 1 =>
    have hj : j < l.length := h.le
    have hx : l[j]? = some l[j] := List.getElem?_eq_getElem hj
    rw [leastL_succ hx]
    have := okLe_iff.1 (h.ok l[j] (by rw [show l.take (j + 1) = l.take j ++ [l[j]] by rw [List.take_add_one, hx]; rfl]; exact List.mem_append_right _ (List.mem_singleton_self _)))
    omega
theorem To.more {next : Int} {l : List Le} {j : Nat} {x : Le} (h : To next l j) (hx : l[j]? = some x) (h1 : leastL l j ≤ x.id) (h2 : okLe next x = true) : To next l (j + 1) := by
  have hj : j < l.length := (List.getElem?_eq_some_iff.1 hx).1
  have e : l.take (j + 1) = l.take j ++ [x] := by rw [List.take_add_one, hx]; rfl
  refine ⟨hj, ?_, ?_, ?_⟩
  · rw [e]; intro y hy
    rcases List.mem_append.1 hy with hy | hy
    · exact h.ok y hy
    · simp at hy; subst hy; exact h2
  · rw [e]; unfold Rises
    rw [List.pairwise_append]
    refine ⟨h.rise, by simp, fun a ha b hb => ?_⟩
    simp at hb; subst hb
    have := h.low a ha; omega
  · rw [e, leastL_succ hx]; intro y hy
    rcases List.mem_append.1 hy with hy | hy
    · have := h.low y hy; omega
    · simp at hy; subst hy; omega
theorem To.all {next : Int} {l : List Le} (h : To next l l.length) : l.all (okLe next) = true ∧ Rises l := by
  have h1 := h.ok; have h2 := h.rise
  rw [List.take_length] at h1 h2
  exact ⟨List.all_eq_true.2 h1, h2⟩
theorem To.bad {next : Int} {l : List Le} {j : Nat} {x : Le} (h : To next l j) (hx : l[j]? = some x) (hb : ¬ (leastL l j ≤ x.id ∧ okLe next x = true)) : ¬ (l.all (okLe next) = true ∧ Rises l) := by
  rintro ⟨ha, hr⟩
  have hmem : x ∈ l := List.mem_of_getElem? hx
  have hok := List.all_eq_true.1 ha x hmem
  refine hb ⟨?_, hok⟩
  match j, h, hx with
  | 0, _, _ => exact (okLe_iff.1 hok).1
  | j + 1, h, hx =>
    have hj1 : j + 1 < l.length := (List.getElem?_eq_some_iff.1 hx).1
    have hy : l[j]? = some l[j] := List.getElem?_eq_getElem (by omega)
    rw [leastL_succ hy]
    have hxe : l[j + 1] = x := (List.getElem?_eq_some_iff.1 hx).2
    have := List.pairwise_iff_getElem.1 hr j (j + 1) (by omega) hj1 (by omega)
    rw [hxe] at this
    omega

/-- The place of the first one of an Id. -/
def idxL (l : List Le) (id : Int) : Option Nat := l.findIdx? fun x => decide (x.id = id)
def placeL (l : List Le) (id : Int) : Int := match idxL l id with | some i => (i : Int) | none => -1
/-- None of that Id up to j. -/
structure NoneTo (l : List Le) (id : Int) (j : Nat) : Prop where
  out : ∀ i x, i < j → l[i]? = some x → x.id ≠ id
theorem NoneTo.zero (l : List Le) (id : Int) : NoneTo l id 0 := ⟨fun i x h => absurd h (by omega)⟩
theorem NoneTo.more {l : List Le} {id : Int} {j : Nat} {x : Le} (h : NoneTo l id j) (hx : l[j]? = some x) (hn : x.id ≠ id) : NoneTo l id (j + 1) :=
  ⟨fun i y hi hy => by
    rcases Nat.lt_or_ge i j with hlt | hge
    · exact h.out i y hlt hy
    · obtain rfl : i = j := by omega
      rw [hx] at hy; cases hy; exact hn⟩
theorem idxL_hit {l : List Le} {id : Int} {j : Nat} {x : Le} (h : NoneTo l id j) (hx : l[j]? = some x) (hi : x.id = id) : idxL l id = some j := by
  unfold idxL
  obtain ⟨hj, hxe⟩ := List.getElem?_eq_some_iff.1 hx
  rw [List.findIdx?_eq_some_iff_getElem]
  refine ⟨hj, by rw [hxe]; simp [hi], fun k hk => ?_⟩
  have := h.out k _ hk (List.getElem?_eq_getElem (by omega))
  simp [this]
theorem idxL_none {l : List Le} {id : Int} (h : NoneTo l id l.length) : idxL l id = none := by
  unfold idxL
  rw [List.findIdx?_eq_none_iff]
  intro x hx
  obtain ⟨i, hi, rfl⟩ := List.getElem_of_mem hx
  have := h.out i _ hi (List.getElem?_eq_getElem hi)
  simp [this]
theorem idxL_some {l : List Le} {id : Int} {i : Nat} (h : idxL l id = some i) : ∃ x, l[i]? = some x ∧ x.id = id := by
  unfold idxL at h
  rw [List.findIdx?_eq_some_iff_getElem] at h
  obtain ⟨hi, hp, _⟩ := h
  exact ⟨l[i], List.getElem?_eq_getElem hi, by simpa using hp⟩
theorem idxL_not {l : List Le} {id : Int} (h : idxL l id = none) : ∀ x ∈ l, x.id ≠ id := by
  unfold idxL at h
  rw [List.findIdx?_eq_none_iff] at h
  intro x hx
  simpa using h x hx
def hasL (s : Ls) (id : Int) : Bool := (idxL s.l id).isSome
theorem placeL_has (s : Ls) (id : Int) : decide (0 ≤ placeL s.l id) = hasL s id := by
  unfold placeL hasL
  cases idxL s.l id with
  | none => rfl
  | some i => simp

def atB (now : Int) : Bool := decide (0 ≤ now ∧ now ≤ 1099511627775)
def ttlB (ttl : Int) : Bool := decide (1 ≤ ttl ∧ ttl ≤ 1000)
def grantE (s : Ls) (ttl now : Int) : Int := if ttlB ttl && atB now then (if 8 ≤ s.l.length ∨ 1099511627775 ≤ s.next then 4 else 0) else 1
def grantS (s : Ls) (ttl now : Int) : Ls := if grantE s ttl now = 0 then ⟨s.next + 1, s.l ++ [⟨s.next + 1, ttl, now + ttl⟩]⟩ else s
def grantI (s : Ls) (ttl now : Int) : Int := if grantE s ttl now = 0 then s.next + 1 else 0
def keepE (s : Ls) (id now : Int) : Int := if atB now then (match idxL s.l id with | some _ => 0 | none => 6) else 1
def later (x : Le) (now : Int) : Le := ⟨x.id, x.ttl, if x.til < now + x.ttl then now + x.ttl else x.til⟩
def keepS (s : Ls) (id now : Int) : Ls := if atB now then (match idxL s.l id with | some i => (match s.l[i]? with | some x => ⟨s.next, s.l.set i (later x now)⟩ | none => s) | none => s) else s
def keepT (s : Ls) (id now : Int) : Int := if atB now then (match idxL s.l id with | some i => (match s.l[i]? with | some x => x.ttl | none => 0) | none => 0) else 0
def endE (s : Ls) (id : Int) : Int := match idxL s.l id with | some _ => 0 | none => 6
def endS (s : Ls) (id : Int) : Ls := match idxL s.l id with | some i => ⟨s.next, s.l.take i ++ s.l.drop (i + 1)⟩ | none => s
def dueL (l : List Le) (now : Int) : List Int := (l.filter fun x => decide (x.til ≤ now)).map (·.id)

theorem grant_cases (s : Ls) (ttl now : Int) : (grantE s ttl now = 0 ∧ ttlB ttl = true ∧ atB now = true ∧ s.l.length < 8 ∧ s.next < 1099511627775) ∨ (grantE s ttl now = 1 ∧ (ttlB ttl && atB now) = false) ∨ (grantE s ttl now = 4 ∧ (ttlB ttl && atB now) = true ∧ (8 ≤ s.l.length ∨ 1099511627775 ≤ s.next)) := by
  unfold grantE
  by_cases h : (ttlB ttl && atB now) = true
  · rw [if_pos h]
    by_cases h2 : 8 ≤ s.l.length ∨ 1099511627775 ≤ s.next
    · rw [if_pos h2]; exact .inr (.inr ⟨rfl, h, h2⟩)
    · rw [if_neg h2]
      rw [Bool.and_eq_true] at h
      exact .inl ⟨rfl, h.1, h.2, by omega, by omega⟩
  · rw [if_neg h]; exact .inr (.inl ⟨rfl, by simpa using h⟩)
theorem okLe_mono {n m : Int} {x : Le} (h : okLe n x = true) (hnm : n ≤ m) : okLe m x = true := by
  rw [okLe_iff] at h ⊢; omega
theorem atB_iff {n : Int} : atB n = true ↔ (0 ≤ n ∧ n ≤ 1099511627775) := by unfold atB; exact decide_eq_true_iff
theorem ttlB_iff {n : Int} : ttlB n = true ↔ (1 ≤ n ∧ n ≤ 1000) := by unfold ttlB; exact decide_eq_true_iff
theorem MayL.grant {s : Ls} (h : MayL s) (ttl now : Int) : MayL (grantS s ttl now) := by
  unfold grantS
  split
  · rename_i h0
    rcases grant_cases s ttl now with ⟨_, ht, ha, hl, hn⟩ | ⟨h1, _⟩ | ⟨h1, _⟩
    · have ht' := ttlB_iff.1 ht; have ha' := atB_iff.1 ha; have hlo := h.lo
      refine ⟨by show 0 ≤ s.next + 1; omega, by show s.next + 1 ≤ _; omega, by simp; omega, ?_, ?_⟩
      · intro x hx
        rcases List.mem_append.1 hx with hx | hx
        · exact okLe_mono (h.ok x hx) (by show s.next ≤ s.next + 1; omega)
        · simp at hx; subst hx
          rw [okLe_iff]; exact ⟨by show 1 ≤ s.next + 1; omega, Int.le_refl _, ht'.1, ht'.2, by show 0 ≤ now + ttl; omega, by show now + ttl ≤ 1099511627775 + ttl; omega⟩
      · show List.Pairwise _ _
        rw [List.pairwise_append]
        refine ⟨h.rise, by simp, fun a ha b hb => ?_⟩
        simp at hb; subst hb
        have := (okLe_iff.1 (h.ok a ha)).2.1
        show a.id < s.next + 1
        omega
    · omega
    · omega
  · exact h
theorem pairwise_set {l : List Le} {i : Nat} {x y : Le} (h : Rises l) (hx : l[i]? = some x) (hid : y.id = x.id) : Rises (l.set i y) := by
  unfold Rises at *
  rw [List.pairwise_iff_getElem] at h ⊢
  intro a b ha hb hab
  rw [List.length_set] at ha hb
  have := h a b ha hb hab
  obtain ⟨hi, hxe⟩ := List.getElem?_eq_some_iff.1 hx
  simp only [List.getElem_set]
  split
  · rename_i e
    subst e
    split
    · omega
    · rw [hid, ← hxe]; exact this
  · split
    · rename_i e; subst e; rw [hid, ← hxe]; exact this
    · exact this
theorem MayL.keep {s : Ls} (h : MayL s) (id now : Int) : MayL (keepS s id now) := by
  unfold keepS
  split
  · rename_i ha
    have ha' := atB_iff.1 ha
    split
    · rename_i i hi
      split
      · rename_i x hx
        have hox := okLe_iff.1 (h.ok x (List.mem_of_getElem? hx))
        refine ⟨h.lo, h.hi, by simpa using h.len, ?_, pairwise_set h.rise hx rfl⟩
        intro y hy
        rcases List.mem_or_eq_of_mem_set hy with hy | hy
        · exact h.ok y hy
        · subst hy
          rw [okLe_iff]
          refine ⟨hox.1, hox.2.1, hox.2.2.1, hox.2.2.2.1, ?_, ?_⟩
          · show 0 ≤ if x.til < now + x.ttl then now + x.ttl else x.til
            split <;> omega
          · show (if x.til < now + x.ttl then now + x.ttl else x.til) ≤ 1099511627775 + x.ttl
            split <;> omega
      · exact h
    · exact h
  · exact h
theorem MayL.drop {s : Ls} (h : MayL s) (id : Int) : MayL (endS s id) := by
  unfold endS
  split
  · rename_i i hi
    refine ⟨h.lo, h.hi, ?_, ?_, ?_⟩
    · have := h.len; simp; omega
    · intro y hy
      rcases List.mem_append.1 hy with hy | hy
      · exact h.ok y (List.mem_of_mem_take hy)
      · exact h.ok y (List.mem_of_mem_drop hy)
    · have hr := h.rise
      unfold Rises at *
      rw [← List.take_append_drop i s.l] at hr
      rw [List.pairwise_append] at hr ⊢
      refine ⟨hr.1, ?_, fun a ha b hb => hr.2.2 a ha b ?_⟩
      · have := hr.2.1
        rw [← List.drop_drop (i := 1) (j := i)]
        exact this.sublist (List.drop_sublist 1 _)
      · rw [← List.drop_drop (i := 1) (j := i)] at hb
        exact List.mem_of_mem_drop hb
  · exact h
/-- Of leases that may be, one that has ended is there no more. -/
theorem end_gone {s : Ls} (h : MayL s) (id : Int) : hasL (endS s id) id = false := by
  unfold endS
  cases hi : idxL s.l id with
  | none => unfold hasL; rw [hi]; rfl
  | some i =>
    show hasL ⟨s.next, s.l.take i ++ s.l.drop (i + 1)⟩ id = false
    unfold hasL
    cases hk : idxL (s.l.take i ++ s.l.drop (i + 1)) id with
    | none => rfl
    | some k =>
      exfalso
      obtain ⟨x, hx, hxi⟩ := idxL_some hi
      obtain ⟨y, hy, hyi⟩ := idxL_some hk
      have hm := List.mem_of_getElem? hy
      obtain ⟨hil, hxe⟩ := List.getElem?_eq_some_iff.1 hx
      have hr := h.rise
      unfold Rises at hr
      have e : s.l = s.l.take i ++ (x :: s.l.drop (i + 1)) := by rw [← hxe, ← List.drop_eq_getElem_cons hil, List.take_append_drop]
      rw [e, List.pairwise_append, List.pairwise_cons] at hr
      rcases List.mem_append.1 hm with hm | hm
      · have := hr.2.2 y hm x (by simp); omega
      · have := hr.2.1.1 y hm; omega
theorem hasL_mem {s : Ls} {id : Int} : hasL s id = true ↔ ∃ x ∈ s.l, x.id = id := by
  unfold hasL
  cases hi : idxL s.l id with
  | none =>
    refine ⟨fun h => (by cases h), fun ⟨x, hx, he⟩ => absurd he (idxL_not hi x hx)⟩
  | some i =>
    obtain ⟨x, hx, hxi⟩ := idxL_some hi
    exact ⟨fun _ => ⟨x, List.mem_of_getElem? hx, hxi⟩, fun _ => rfl⟩
theorem grant_new {s : Ls} (h : MayL s) : hasL s (s.next + 1) = false := by
  cases hh : hasL s (s.next + 1) with
  | false => rfl
  | true =>
    obtain ⟨x, hx, he⟩ := hasL_mem.1 hh
    have := (okLe_iff.1 (h.ok x hx)).2.1; omega
theorem grant_has {s : Ls} {ttl now : Int} (h : grantE s ttl now = 0) : hasL (grantS s ttl now) (s.next + 1) = true := by
  unfold grantS; rw [if_pos h]
  exact hasL_mem.2 ⟨⟨s.next + 1, ttl, now + ttl⟩, by simp, rfl⟩
theorem grant_same {s : Ls} {ttl now : Int} (h : grantE s ttl now ≠ 0) : grantS s ttl now = s ∧ grantI s ttl now = 0 := ⟨if_neg h, if_neg h⟩
theorem grant_is {s : Ls} {ttl now : Int} (h : grantE s ttl now = 0) : grantS s ttl now = ⟨s.next + 1, s.l ++ [⟨s.next + 1, ttl, now + ttl⟩]⟩ ∧ grantI s ttl now = s.next + 1 := ⟨if_pos h, if_pos h⟩
theorem keep_same {s : Ls} {id now : Int} (h : keepE s id now ≠ 0) : keepS s id now = s ∧ keepT s id now = 0 := by
  unfold keepE at h
  unfold keepS keepT
  by_cases ha : atB now = true
  · rw [if_pos ha] at h ⊢
    cases hi : idxL s.l id with
    | none => rw [if_pos ha]; exact ⟨rfl, rfl⟩
    | some i => rw [hi] at h; exact absurd rfl h
  · rw [if_neg ha, if_neg ha]; exact ⟨rfl, rfl⟩
theorem end_same {s : Ls} {id : Int} (h : endE s id ≠ 0) : endS s id = s := by
  unfold endE at h; unfold endS
  cases hi : idxL s.l id with
  | none => rfl
  | some i => rw [hi] at h; exact absurd rfl h
theorem end_has (s : Ls) (id : Int) : decide (endE s id = 0) = hasL s id := by
  unfold endE hasL
  cases idxL s.l id <;> rfl
theorem keep_has (s : Ls) (id now : Int) : decide (keepE s id now = 0) = (hasL s id && atB now) := by
  unfold keepE hasL
  cases ha : atB now <;> cases idxL s.l id <;> simp
/-- A lease that stands behind all others, kept. -/
theorem keep_last {s : Ls} {id ttl til : Int} {next : Int} (hn : ∀ x ∈ s.l, x.id ≠ id) (now : Int) (ha : atB now = true) :
    keepE ⟨next, s.l ++ [⟨id, ttl, til⟩]⟩ id now = 0 ∧ keepS ⟨next, s.l ++ [⟨id, ttl, til⟩]⟩ id now = ⟨next, s.l ++ [later ⟨id, ttl, til⟩ now]⟩ ∧ keepT ⟨next, s.l ++ [⟨id, ttl, til⟩]⟩ id now = ttl := by
  have hx : (s.l ++ [(⟨id, ttl, til⟩ : Le)])[s.l.length]? = some ⟨id, ttl, til⟩ := by simp
  have hi : idxL (s.l ++ [⟨id, ttl, til⟩]) id = some s.l.length := idxL_hit ⟨fun i x hi h => by
    rw [List.getElem?_append_left hi] at h
    exact hn x (List.mem_of_getElem? h)⟩ hx rfl
  unfold keepE keepS keepT
  simp only [ha, if_true]
  rw [hi]
  simp only
  rw [hx]
  refine ⟨?_, ?_, ?_⟩ <;> simp
theorem due_mem {l : List Le} {now id : Int} : id ∈ dueL l now ↔ ∃ x ∈ l, x.til ≤ now ∧ x.id = id := by
  unfold dueL
  simp only [List.mem_map, List.mem_filter, decide_eq_true_eq]
  exact ⟨fun ⟨x, ⟨a, b⟩, c⟩ => ⟨x, a, b, c⟩, fun ⟨x, a, b, c⟩ => ⟨x, ⟨a, b⟩, c⟩⟩
end Go.Proofs.Ytpecgkkhjkfmmaa.P
