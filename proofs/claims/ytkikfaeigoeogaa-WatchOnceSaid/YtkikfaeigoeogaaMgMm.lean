/- Texts of this seat in one: MvMay, MvLog, MvSame. -/
import Derived.Test.YtkikfaeigoeogaaMvRead
import Derived.Test.YtkikfaeigoeogaaGenApp
import Derived.Deep.RegionHeld3
/- Which stores may be: the program's question. -/
namespace Go.Proofs.Ytkikfaeigoeogaa.P
open Go.RowKit Go.Sort
set_option maxHeartbeats 400000
set_option linter.unusedVariables false
set_option linter.unusedSimpArgs false
set_option maxRecDepth 100000

structure EvIs (l : List KV) (m : Mu) (rev : Int) (o : Option Ev) : Prop where
  eq : evOf l m rev = o
def mutOf (e : Ev) : Mu := ⟨e.gone, e.kv.key, e.kv.val, e.kv.lea⟩
theorem kv_ext {a b : KV} (h0 : a.key = b.key) (h1 : a.val = b.val) (h2 : a.cre = b.cre) (h3 : a.mod = b.mod) (h4 : a.ver = b.ver) (h5 : a.lea = b.lea) : a = b := by
  cases a; cases b; simp_all
theorem ev_ext {a b : Ev} (h0 : a.rev = b.rev) (h1 : a.gone = b.gone) (h2 : a.kv = b.kv) : a = b := by
  cases a; cases b; simp_all
/-- An event is right just where it is what comes of what it tells, and its thing may be. -/
theorem right_event {l : List KV} {e : Ev} : RightE l e ↔ evOf l (mutOf e) e.rev = some e ∧ oneB e.kv = true := by
  unfold RightE evOf mutOf
  simp only
  cases hg : e.gone with
  | true =>
    simp only [if_true]
    constructor
    · rintro ⟨h1, h2⟩
      refine ⟨?_, h1⟩
      rw [h2, Option.map_some]
      congr 1
      exact ev_ext rfl hg.symm rfl
    · rintro ⟨h1, h2⟩
      refine ⟨h2, ?_⟩
      cases hf : findL l e.kv.key with
      | none => rw [hf] at h1; cases h1
      | some x =>
        rw [hf, Option.map_some] at h1
        have := congrArg Ev.kv (Option.some.inj h1)
        simp only at this
        rw [this]
  | false =>
    simp only [Bool.false_eq_true, if_false]
    unfold laid
    simp only
    cases hf : findL l e.kv.key with
    | none =>
      simp only
      constructor
      · rintro ⟨h1, h2, h3, h4⟩
        refine ⟨?_, h1⟩
        congr 1
        exact ev_ext rfl hg.symm (kv_ext rfl rfl h3.symm h2.symm h4.symm rfl)
      · rintro ⟨h1, h2⟩
        have h3 := congrArg Ev.kv (Option.some.inj h1)
        simp only at h3
        have c := congrArg KV.cre h3; have m := congrArg KV.mod h3; have v := congrArg KV.ver h3
        simp only at c m v
        exact ⟨h2, m.symm, c.symm, v.symm⟩
    | some x =>
      simp only
      constructor
      · rintro ⟨h1, h2, h3, h4⟩
        refine ⟨?_, h1⟩
        congr 1
        exact ev_ext rfl hg.symm (kv_ext rfl rfl h3.symm h2.symm h4.symm rfl)
      · rintro ⟨h1, h2⟩
        have h3 := congrArg Ev.kv (Option.some.inj h1)
        simp only at h3
        have c := congrArg KV.cre h3; have m := congrArg KV.mod h3; have v := congrArg KV.ver h3
        simp only at c m v
        exact ⟨h2, m.symm, c.symm, v.symm⟩
def kvEq (a b : KV) : Bool := decide (a.key.toList = b.key.toList) && (decide (a.val.toList = b.val.toList) && (decide (a.cre = b.cre) && (decide (a.mod = b.mod) && (decide (a.ver = b.ver) && decide (a.lea = b.lea)))))
def evEq (a b : Ev) : Bool := decide (a.rev = b.rev) && (decide (a.gone = b.gone) && kvEq a.kv b.kv)
theorem kvEq_iff {a b : KV} : kvEq a b = true ↔ a = b := by
  unfold kvEq
  simp only [Bool.and_eq_true, decide_eq_true_eq]
  constructor
  · rintro ⟨h0, h1, h2, h3, h4, h5⟩; exact kv_ext (bytes_ext h0) (bytes_ext h1) h2 h3 h4 h5
  · rintro rfl; exact ⟨rfl, rfl, rfl, rfl, rfl, rfl⟩
theorem evEq_iff {a b : Ev} : evEq a b = true ↔ a = b := by
  unfold evEq
  simp only [Bool.and_eq_true, decide_eq_true_eq, kvEq_iff]
  constructor
  · rintro ⟨h0, h1, h2⟩; exact ev_ext h0 h1 h2
  · rintro rfl; exact ⟨rfl, rfl, rfl⟩
theorem ite_last (p : Prop) [Decidable p] (w : World) : (if p then Result.ok (Value.bool true) w else Result.ok (Value.bool false) w) = Result.ok (Value.bool (decide p)) w := by by_cases h : p <;> simp [h]
theorem ite_more (p : Prop) [Decidable p] (q : Bool) (w : World) : (if p then Result.ok (Value.bool q) w else Result.ok (Value.bool false) w) = Result.ok (Value.bool (decide p && q)) w := by by_cases h : p <;> simp [h]
theorem eql_kv (a b : KV) (w : World) : (binOp .eql 36 a.agg b.agg).run Try.prog w = .ok (.bool (kvEq a b)) w := by
  simp [go_sem, Try.underlying36]
  rw [ite_last, ite_more, ite_more, ite_more, ite_more, ite_more]
  rfl
theorem eql_ev (a b : Ev) (w : World) : (binOp .eql 43 a.agg b.agg).run Try.prog w = .ok (.bool (evEq a b)) w := by
  simp [go_sem, Try.underlying43]
  rw [ite_last, ite_more, ite_more, ite_more, ite_more, ite_more, ite_more, ite_more]
  rfl
/-- Whether an event is right, as a Bool. -/
theorem right_B {l : List KV} {e : Ev} {b : Bool} (h : RightE l e ↔ b = true) : rightB l e = b := by
  rw [Bool.eq_iff_iff, right_iff]; exact h
theorem right_no {l : List KV} {e y : Ev} (h : evOf l (mutOf e) e.rev = some y) (hq : evEq e y = false) : rightB l e = false := right_B (by
  rw [right_event, h]
  constructor
  · rintro ⟨h1, _⟩
    have h2 := Option.some.inj h1
    subst h2
    rw [evEq_iff.2 rfl] at hq; cases hq
  · intro h; cases h)
theorem kvs_new (w : World) (x : KV) (ok : x.ok) : KVs (w.alloc (x.obj 36)) (some ⟨w.heap.size, 0, none⟩) 1 1 [x] := by
  have := World.ownsRow_lit (base := w.heap.size) (e := 36) (size := 6) w #[.string x.key, .string x.val, .int .i64 x.cre, .int .i64 x.mod, .int .i64 x.ver, .int .i64 x.lea] 1 (Nat.le_refl _) (by simp only [maxLen]; omega) rfl
  exact own_kvs (l := [x]) (by rw [cellsL_one]; exact this) (by intro y hy; simp at hy; subst hy; exact ok)
theorem may_single (x : KV) : mayP oneB [x] = oneB x := by simp [mayP, rises]
def aboveB (low : Int) (x : KV) : Bool := decide (low < x.mod)
def HitEnd (l : List KV) (low : Int) (w : World) (e : Ending) (w' : World) : Prop := ∃ i : Int, e = .returned (.int .i64 i) ∧ (l.any (aboveB low) = decide (0 ≤ i)) ∧ Below w.heap.size w w'
theorem any_hit {l : List KV} {low : Int} {j : Nat} {x : KV} (hx : l[j]? = some x) (h : aboveB low x = true) : l.any (aboveB low) = true := List.any_eq_true.2 ⟨x, List.mem_of_getElem? hx, h⟩
theorem any_miss {l : List KV} {low : Int} {j : Nat} (h : AllTo (fun y => !aboveB low y) l j) (hj : l.length = j) : l.any (aboveB low) = false := by
  have := h.out
  rw [take_full l j hj] at this
  rw [← Bool.not_eq_true, List.any_eq_true]
  rintro ⟨x, hx, hp⟩
  have := List.all_eq_true.1 this x hx
  rw [hp] at this; cases this
def baseB (l : List KV) (low : Int) : Bool := decide (l.length ≤ 30) && mayP oneB l && l.all fun x => decide (x.mod ≤ low)
theorem not_any (l : List KV) (low : Int) : (!l.any (aboveB low)) = l.all fun x => decide (x.mod ≤ low) := by
  rw [Bool.eq_iff_iff]
  simp [aboveB]
end Go.Proofs.Ytkikfaeigoeogaa.P
/- Which stores may be: the program goes through the history. -/
namespace Go.Proofs.Ytkikfaeigoeogaa.P
open Go.RowKit Go.Sort
set_option maxHeartbeats 1000000
set_option linter.unusedVariables false
set_option linter.unusedSimpArgs false
set_option maxRecDepth 100000

theorem below_drews (w : World) (q : Nat) : Below w.heap.size w (w.drewN q) := below_drewN (Below.refl _ _) q
/-- How far the history was gone through: what there is, and the least revision that may come. -/
structure LogTo (s : St) (k : Nat) (L : List KV) (least : Int) : Prop where
  now : L = (s.log.take k).foldl afterE s.base
  last : least = lastR (s.low + 1) (s.log.take k)
  may : mayLogB s.rev s.base (s.low + 1) (s.log.take k) = true
theorem LogTo.zero (s : St) : LogTo s 0 s.base (s.low + 1) := ⟨by simp, by simp [lastR], by simp [mayLogB]⟩
theorem mayLog_at {s : St} {k : Nat} {L : List KV} {least : Int} {e : Ev} (h : LogTo s k L least) (he : s.log[k]? = some e) :
    mayLogB s.rev s.base (s.low + 1) (s.log.take (k + 1)) = true ↔ least ≤ e.rev ∧ e.rev ≤ s.rev ∧ RightE L e ∧ (afterE L e).length ≤ 30 := by
  rw [take_succ s.log k e he, mayLog_app, ← h.now, ← h.last, mayLog_cons]
  constructor
  · rintro ⟨_, a, b, c, d, _⟩; exact ⟨a, b, c, d⟩
  · rintro ⟨a, b, c, d⟩; exact ⟨h.may, a, b, c, d, rfl⟩
theorem LogTo.next {s : St} {k : Nat} {L : List KV} {least : Int} {e : Ev} (h : LogTo s k L least) (he : s.log[k]? = some e) (h1 : least ≤ e.rev) (h2 : e.rev ≤ s.rev) (h3 : RightE L e) (h4 : (afterE L e).length ≤ 30) : LogTo s (k + 1) (afterE L e) e.rev :=
  ⟨by rw [take_succ s.log k e he, List.foldl_append, ← h.now]; rfl, by rw [take_succ s.log k e he]; simp [lastR], (mayLog_at h he).2 ⟨h1, h2, h3, h4⟩⟩
theorem mayLog_pre {s : St} {k : Nat} (h : mayLogB s.rev s.base (s.low + 1) (s.log.take k) = false) : mayLogB s.rev s.base (s.low + 1) s.log = false := by
  cases hm : mayLogB s.rev s.base (s.low + 1) s.log with
  | false => rfl
  | true =>
    rw [← List.take_append_drop k s.log, mayLog_app] at hm
    rw [hm.1] at h; cases h
theorem LogTo.fail {s : St} {k : Nat} {L : List KV} {least : Int} {e : Ev} (h : LogTo s k L least) (he : s.log[k]? = some e) (hn : ¬ (least ≤ e.rev ∧ e.rev ≤ s.rev ∧ RightE L e ∧ (afterE L e).length ≤ 30)) : mayLogB s.rev s.base (s.low + 1) s.log = false :=
  mayLog_pre (k := k + 1) (by
    cases hm : mayLogB s.rev s.base (s.low + 1) (s.log.take (k + 1)) with
    | false => rfl
    | true => exact absurd ((mayLog_at h he).1 hm) hn)
theorem LogTo.good {s : St} {k : Nat} {L : List KV} {least : Int} (h : LogTo s k L least) (hb : baseB s.base s.low = true) : ∃ top, Good L top := by
  unfold baseB at hb
  simp only [Bool.and_eq_true, decide_eq_true_eq, List.all_eq_true] at hb
  exact ⟨_, by rw [h.now]; exact good_fold _ _ _ s.low ⟨hb.1.2, hb.1.1, hb.2⟩ (by omega) h.may⟩
theorem Good.vers {l : List KV} {top : Int} (h : Good l top) : ∀ y ∈ l, 0 ≤ y.ver ∧ y.ver ≤ 1152921504606846976 := fun y hy => by
  obtain ⟨_, a, b, c, d, e, _, _⟩ := one_p (may_one h.may y hy)
  exact ⟨by omega, by omega⟩
noncomputable def logB (s : St) : Bool := decide (s.log.length ≤ 60) && mayLogB s.rev s.base (s.low + 1) s.log
theorem mayB_parts (s : St) : mayB s = (decide (0 ≤ s.low ∧ s.low ≤ s.rev ∧ s.rev ≤ 1099511627774) && (baseB s.base s.low && logB s)) := by
  unfold mayB baseB logB; simp only [Bool.and_assoc]
theorem mayB_no {s : St} (h : ¬ (0 ≤ s.low ∧ s.low ≤ s.rev ∧ s.rev ≤ 1099511627774)) : mayB s = false := by rw [mayB_parts]; simp only [h, decide_false, Bool.false_and]
end Go.Proofs.Ytkikfaeigoeogaa.P
/- Stores: the same; few; things to be done that are short. -/
namespace Go.Proofs.Ytkikfaeigoeogaa.P
open Go.RowKit Go.Sort
set_option maxHeartbeats 1000000
set_option linter.unusedVariables false
set_option linter.unusedSimpArgs false
set_option maxRecDepth 100000

def fewS (s : St) : Bool := fewB 40 s.base && fewE 70 s.log
theorem few_st (s : St) (A : Option Addr) (n c : Nat) (B : Option Addr) (m d : Nat) (w : World) (h : StAt w s A n c B m d) :
    Calls Try.prog 25 #[s.agg A n c B m d] w fun e w' => e = .returned (.bool (fewS s)) ∧ Below w.heap.size w w' := by
  have B0 := Lib.hid (new1 w (.cells (stCells s A n c B m d) 25))
  have H := Lib.hid (h.keep (new1 w (.cells (stCells s A n c B m d) 25)))
  have O := Lib.hid (own_new w (stCells s A n c B m d) 25)
  have q2 := O.out.cell 2 _ rfl
  have q3 := O.out.cell 3 _ rfl
  clear h
  cases hf : fewB 40 s.base with
  | false =>
    have HR : Hid (fewS s = false) := Lib.hid (by unfold fewS; rw [hf]; rfl)
    have HF := Lib.hid hf; clear hf
    go_enter Try.func25, Try.ntmps25
    go_wp2_with fail
    refine (few_any A n c s.base 40 _ H.out.kv (by omega)).mono ?_; rintro e w1 ⟨rfl, rfl⟩
    rw [HF.out]
    go_wp2
    go_ret
    exact ⟨retB HR.out.symm, B0.out⟩
  | true =>
    have HR : Hid (fewS s = fewE 70 s.log) := Lib.hid (by unfold fewS; rw [hf]; rfl)
    have HF := Lib.hid hf; clear hf
    go_enter Try.func25, Try.ntmps25
    go_wp2_with fail
    refine (few_any A n c s.base 40 _ H.out.kv (by omega)).mono ?_; rintro e w1 ⟨rfl, rfl⟩
    rw [HF.out]
    go_wp2_with fail
    refine (fewe_any B m d s.log 70 _ H.out.ev (by omega)).mono ?_; rintro e w1 ⟨rfl, rfl⟩
    go_wp2
    go_ret
    exact ⟨retB HR.out.symm, B0.out⟩
end Go.Proofs.Ytkikfaeigoeogaa.P
