/- Texts of this seat in one: MvRead, MvAt, MvMay, MvLog, MvSame. -/
import Derived.Test.YtjjngablalnbeaaDoorKvOpen
import Derived.Test.YtjjngablalnbeaaDoorBaseOwn
import Derived.Test.YtjjngablalnbeaaDoorMvDone
import Derived.RegionTactic
import Derived.ChangeAlike
import Derived.Test.YtjjngablalnbeaaDoorMgEl
import Derived.Test.YtjjngablalnbeaaDoorGenApp
import Derived.Deep.RegionHeld3
/- A store with revisions: what it reads as; New, kept, Now, behind, event. -/
namespace Go.Proofs.YtjjngablalnbeaaDoor.P
open Go.RowKit Go.Sort
set_option maxHeartbeats 400000
set_option linter.unusedVariables false
set_option linter.unusedSimpArgs false
set_option maxRecDepth 100000

abbrev Ev.agg (x : Ev) : Value := .agg #[.int .i64 x.rev, .bool x.gone, .string x.kv.key, .string x.kv.val, .int .i64 x.kv.cre, .int .i64 x.kv.mod, .int .i64 x.kv.ver, .int .i64 x.kv.lea]
abbrev Mu.agg (x : Mu) : Value := .agg #[.bool x.gone, .string x.key, .string x.val, .int .i64 x.lea]
structure Mu.ok (x : Mu) : Prop where
  key : x.key.size ≤ maxLen
  val : x.val.size ≤ maxLen
  lea : inI x.lea
abbrev St.agg (s : St) (A : Option Addr) (n c : Nat) (B : Option Addr) (m d : Nat) : Value := .agg #[.int .i64 s.rev, .int .i64 s.low, .slice A n c, .slice B m d]
structure StAt (w : World) (s : St) (A : Option Addr) (n c : Nat) (B : Option Addr) (m d : Nat) : Prop where
  kv : KVs w A n c s.base
  ev : Evs w B m d s.log
  rev : inI s.rev
  low : inI s.low
theorem StAt.keep {w w1 : World} {s : St} {A : Option Addr} {n c : Nat} {B : Option Addr} {m d : Nat} (h : StAt w s A n c B m d) (hb : Below w.heap.size w w1) : StAt w1 s A n c B m d := ⟨h.kv.keep hb, h.ev.keep hb, h.rev, h.low⟩
abbrev zeroKV : KV := ⟨⟨#[]⟩, ⟨#[]⟩, 0, 0, 0, 0⟩
abbrev zeroSt : St := ⟨0, 0, [], []⟩
theorem evs_bare (w : World) : Evs w none 0 0 [] := ⟨rfl, Nat.le_refl _, Nat.zero_le _, fun _ h => by simp at h, fun h => absurd h (by omega), fun _ => rfl⟩
theorem zero_in : inI 0 := ⟨by decide, by decide⟩
theorem zeroSt_at (w : World) : StAt w zeroSt none 0 0 none 0 0 := ⟨KVs.bare _, evs_bare _, zero_in, zero_in⟩

theorem some_past {w : World} {o : Obj} {l : List KV} {e : Ending} {w' : World} (h : SomeKVs (w.alloc o) l e w') : SomeKVs w l e w' := by
  obtain ⟨A, n, c, he, hk, hb⟩ := h
  exact ⟨A, n, c, he, hk, then_ (new1 w o) hb⟩
theorem now_ref (s : St) (A : Option Addr) (n c : Nat) (B : Option Addr) (m d : Nat) (w : World) (h : StAt w s A n c B m d) (hn : n + m ≤ 900000) :
    Calls Tryd.prog 28 #[s.agg A n c B m d] w (SomeKVs w (nowL s)) := by
  have H := Lib.hid (h.keep (new1 w (.cells #[.int .i64 s.rev, .int .i64 s.low, .slice A n c, .slice B m d] 42)))
  clear h
  go_enter Tryd.func28, Tryd.ntmps28
  go_wp2_with fail
  refine (fold_ref A n c s.base B m d s.log s.rev _ H.out.kv H.out.ev hn).mono ?_; rintro e w1 ⟨A1, n1, c1, rfl, hk, hb⟩
  have HK := Lib.hid hk; have HB := Lib.hid (then_ (new1 w _) hb)
  clear hk hb
  go_wp2
  go_ret
  exact ⟨A1, n1, c1, rfl, HK.out, HB.out⟩

theorem evs_one (w : World) (e : Ev) (ok : e.ok) : Evs (w.alloc (e.obj 54)) (some ⟨w.heap.size, 0, none⟩) 1 1 [e] :=
  evs_of_row (g := w.heap.size) (own_new w _ _).ex rfl (Nat.le_refl _) (by unfold maxLen; omega) rfl (by intro x hx; simp at hx; subst hx; exact ok)
theorem evs_two (w : World) (o : Obj) (e : Ev) (ok : e.ok) : Evs ((w.alloc o).alloc (e.obj 54)) (some ⟨w.heap.size + 1, 0, none⟩) 1 1 [e] :=
  evs_of_row (g := w.heap.size + 1) (own_new2 w _ _ _).ex rfl (Nat.le_refl _) (by unfold maxLen; omega) rfl (by intro x hx; simp at hx; subst hx; exact ok)
theorem after_fold (l : List KV) (e : Ev) : foldL l [e] e.rev = afterE l e := by show stepL e.rev l e = _; exact step_after (Int.le_refl _)
/-- What comes of a thing that is to be done, as the program tells it. -/
def EventEnd (l : List KV) (x : Mu) (rev : Int) (w : World) (e : Ending) (w' : World) : Prop :=
  (match evOf l x rev with | some y => e = .returned (.tuple #[y.agg, .bool true]) | none => e = .returned (.tuple #[(Ev.mk rev true zeroKV).agg, .bool false])) ∧ Below w.heap.size w w'
theorem EventEnd.yes {l : List KV} {x : Mu} {rev : Int} {w : World} {e : Ending} {w' : World} {y : Ev} (h : evOf l x rev = some y) (he : e = .returned (.tuple #[y.agg, .bool true])) (hb : Below w.heap.size w w') : EventEnd l x rev w e w' := by
  unfold EventEnd; rw [h]; exact ⟨he, hb⟩
theorem EventEnd.no {l : List KV} {x : Mu} {rev : Int} {w : World} {e : Ending} {w' : World} (h : evOf l x rev = none) (he : e = .returned (.tuple #[(Ev.mk rev true zeroKV).agg, .bool false])) (hb : Below w.heap.size w w') : EventEnd l x rev w e w' := by
  unfold EventEnd; rw [h]; exact ⟨he, hb⟩
theorem EventEnd.yes' {l : List KV} {x : Mu} {rev : Int} {w : World} {e : Ending} {w' : World} {y : Ev} (h : evOf l x rev = some y) (k : EventEnd l x rev w e w') : e = .returned (.tuple #[y.agg, .bool true]) ∧ Below w.heap.size w w' := by
  unfold EventEnd at k; rwa [h] at k
theorem EventEnd.no' {l : List KV} {x : Mu} {rev : Int} {w : World} {e : Ending} {w' : World} (h : evOf l x rev = none) (k : EventEnd l x rev w e w') : e = .returned (.tuple #[(Ev.mk rev true zeroKV).agg, .bool false]) ∧ Below w.heap.size w w' := by
  unfold EventEnd at k; rwa [h] at k
theorem below_set8 {B g : Nat} {w w2 : World} (h : Below B w w2) (hg : B ≤ g) (v0 v1 v2 v3 v4 v5 v6 v7 : Value) :
    Below B w ((((((((w2.setCell ⟨g, 0, none⟩ v0).setCell ⟨g, 1, none⟩ v1).setCell ⟨g, 2, none⟩ v2).setCell ⟨g, 3, none⟩ v3).setCell ⟨g, 4, none⟩ v4).setCell ⟨g, 5, none⟩ v5).setCell ⟨g, 6, none⟩ v6).setCell ⟨g, 7, none⟩ v7) :=
  ((below_set6 h hg v0 v1 v2 v3 v4 v5).setCell (p := ⟨g, 6, none⟩) hg _).setCell (p := ⟨g, 7, none⟩) hg _
abbrev zEv : Array Value := #[.int .i64 0, .bool false, .string ⟨#[]⟩, .string ⟨#[]⟩, .int .i64 0, .int .i64 0, .int .i64 0, .int .i64 0]
def inV (x : KV) : Prop := x.ver ≤ 1152921504606846976
theorem laid_none {l : List KV} {x : Mu} {rev : Int} (h : findL l x.key = none) : laid l x rev = ⟨x.key, x.val, rev, rev, 1, x.lea⟩ := by unfold laid; rw [h]
theorem laid_some {l : List KV} {x : Mu} {rev : Int} {y : KV} (h : findL l x.key = some y) : laid l x rev = ⟨x.key, x.val, y.cre, rev, y.ver + 1, x.lea⟩ := by unfold laid; rw [h]
end Go.Proofs.YtjjngablalnbeaaDoor.P
/- What there was at a revision: the program's answer, and the document's. -/
namespace Go.Proofs.YtjjngablalnbeaaDoor.P
open Go.RowKit Go.Sort
set_option maxHeartbeats 400000
set_option linter.unusedVariables false
set_option linter.unusedSimpArgs false
set_option maxRecDepth 100000

def AtEnd (s : St) (rev : Int) (w : World) (e : Ending) (w' : World) : Prop :=
  ∃ A n c, e = .returned (.tuple #[.slice A n c, .int .i64 (atE s rev)]) ∧ KVs w' A n c (atL s rev) ∧ Below w.heap.size w w'
theorem AtEnd.mk {s : St} {rev : Int} {w : World} {e : Ending} {w' : World} {A : Option Addr} {n c : Nat} {l : List KV} {x : Int} (hl : atL s rev = l) (hx : atE s rev = x) (he : e = .returned (.tuple #[.slice A n c, .int .i64 x])) (hk : KVs w' A n c l) (hb : Below w.heap.size w w') : AtEnd s rev w e w' := ⟨A, n, c, by rw [hx]; exact he, by rw [hl]; exact hk, hb⟩
theorem at_ref (s : St) (A : Option Addr) (n c : Nat) (B : Option Addr) (m d : Nat) (rev : Int) (w : World) (h : StAt w s A n c B m d) (hn : n + m ≤ 900000) (hv : inI rev) :
    Calls Tryd.prog 24 #[s.agg A n c B m d, .int .i64 rev] w (AtEnd s rev w) := by
  obtain ⟨r1, r2⟩ := h.rev; obtain ⟨l1, l2⟩ := h.low; obtain ⟨v1, v2⟩ := hv
  have H := Lib.hid (h.keep (new1 w (.cells #[.int .i64 s.rev, .int .i64 s.low, .slice A n c, .slice B m d] 42)))
  clear h
  by_cases h0 : rev = 0
  · have HL : Hid (atL s rev = nowL s) := Lib.hid (by unfold atL; rw [if_pos h0])
    have HE : Hid (atE s rev = 0) := Lib.hid (by unfold atE; rw [if_pos h0])
    have h0' : (rev == 0) = true := by simp [h0]
    clear h0
    go_enter Tryd.func24, Tryd.ntmps24
    go_wp2_with fail
    refine (now_ref s A n c B m d _ H.out hn).mono ?_; rintro e w1 ⟨A1, n1, c1, rfl, hk, hb⟩
    have HK := Lib.hid hk; have HB := Lib.hid (then_ (new1 w _) hb)
    clear hk hb
    go_wp2
    go_ret2
    exact AtEnd.mk HL.out HE.out rfl HK.out HB.out
  · have h0' : (rev == 0) = false := by simp [h0]
    by_cases hr0 : rev < 0
    · have hk8 : keptE s rev = 8 := by unfold keptE; rw [if_pos (.inl hr0)]
      have HL : Hid (atL s rev = []) := Lib.hid (by unfold atL; rw [if_neg h0, hk8]; rfl)
      have HE : Hid (atE s rev = 8) := Lib.hid (by unfold atE; rw [if_neg h0, hk8])
      clear h0 hk8
      go_enter Tryd.func24, Tryd.ntmps24
      go_wp2
      go_ret2
      exact AtEnd.mk HL.out HE.out rfl (KVs.bare _) (new1 w _)
    · by_cases hr1 : s.rev < rev
      · have hk8 : keptE s rev = 8 := by unfold keptE; rw [if_pos (.inr hr1)]
        have HL : Hid (atL s rev = []) := Lib.hid (by unfold atL; rw [if_neg h0, hk8]; rfl)
        have HE : Hid (atE s rev = 8) := Lib.hid (by unfold atE; rw [if_neg h0, hk8])
        clear h0 hk8
        go_enter Tryd.func24, Tryd.ntmps24
        go_wp2
        go_ret2
        exact AtEnd.mk HL.out HE.out rfl (KVs.bare _) (new1 w _)
      · by_cases hr2 : rev < s.low
        · have hk8 : keptE s rev = 9 := by unfold keptE; rw [if_neg (by omega), if_pos hr2]
          have HL : Hid (atL s rev = []) := Lib.hid (by unfold atL; rw [if_neg h0, hk8]; rfl)
          have HE : Hid (atE s rev = 9) := Lib.hid (by unfold atE; rw [if_neg h0, hk8])
          clear h0 hk8
          go_enter Tryd.func24, Tryd.ntmps24
          go_wp2
          go_ret2
          exact AtEnd.mk HL.out HE.out rfl (KVs.bare _) (new1 w _)
        · have hk0 : keptE s rev = 0 := by unfold keptE; rw [if_neg (by omega), if_neg hr2]
          have HL : Hid (atL s rev = foldL s.base s.log rev) := Lib.hid (by unfold atL; rw [if_neg h0, if_pos hk0])
          have HE : Hid (atE s rev = 0) := Lib.hid (by unfold atE; rw [if_neg h0, hk0])
          clear h0 hk0
          go_enter Tryd.func24, Tryd.ntmps24
          go_wp2_with fail
          refine (fold_ref A n c s.base B m d s.log rev _ H.out.kv H.out.ev hn).mono ?_; rintro e w1 ⟨A1, n1, c1, rfl, hk, hb⟩
          have HK := Lib.hid hk; have HB := Lib.hid (then_ (new1 w _) hb)
          clear hk hb
          go_wp2
          go_ret2
          exact AtEnd.mk HL.out HE.out rfl HK.out HB.out
end Go.Proofs.YtjjngablalnbeaaDoor.P
/- Which stores may be: the program's question. -/
namespace Go.Proofs.YtjjngablalnbeaaDoor.P
open Go.RowKit Go.Sort
set_option maxHeartbeats 400000
set_option linter.unusedVariables false
set_option linter.unusedSimpArgs false
set_option maxRecDepth 100000

structure EvIs (l : List KV) (m : Mu) (rev : Int) (o : Option Ev) : Prop where
  eq : evOf l m rev = o
def mutOf (e : Ev) : Mu := ⟨e.gone, e.kv.key, e.kv.val, e.kv.lea⟩
theorem kv_ext {a b : KV} (h0 : a.key = b.key) (h1 : a.val = b.val) (h2 : a.cre = b.cre) (h3 : a.mod = b.mod) (h4 : a.ver = b.ver) (h5 : a.lea = b.lea) : a = b := by
  cases a; cases b; simp_all
theorem ev_ext {a b : Ev} (h0 : a.rev = b.rev) (h1 : a.gone = b.gone) (h2 : a.kv = b.kv) : a = b := by
  cases a; cases b; simp_all
/-- An event is right just where it is what comes of what it tells, and its thing may be. -/
theorem right_event {l : List KV} {e : Ev} : RightE l e ↔ evOf l (mutOf e) e.rev = some e ∧ oneB e.kv = true := by
  unfold RightE evOf mutOf
  simp only
  cases hg : e.gone with
  | true =>
    simp only [if_true]
    constructor
    · rintro ⟨h1, h2⟩
      refine ⟨?_, h1⟩
      rw [h2, Option.map_some]
      congr 1
      exact ev_ext rfl hg.symm rfl
    · rintro ⟨h1, h2⟩
      refine ⟨h2, ?_⟩
      cases hf : findL l e.kv.key with
      | none => rw [hf] at h1; cases h1
      | some x =>
        rw [hf, Option.map_some] at h1
        have := congrArg Ev.kv (Option.some.inj h1)
        simp only at this
        rw [this]
  | false =>
    simp only [Bool.false_eq_true, if_false]
    unfold laid
    simp only
    cases hf : findL l e.kv.key with
    | none =>
      simp only
      constructor
      · rintro ⟨h1, h2, h3, h4⟩
        refine ⟨?_, h1⟩
        congr 1
        exact ev_ext rfl hg.symm (kv_ext rfl rfl h3.symm h2.symm h4.symm rfl)
      · rintro ⟨h1, h2⟩
        have h3 := congrArg Ev.kv (Option.some.inj h1)
        simp only at h3
        have c := congrArg KV.cre h3; have m := congrArg KV.mod h3; have v := congrArg KV.ver h3
        simp only at c m v
        exact ⟨h2, m.symm, c.symm, v.symm⟩
    | some x =>
      simp only
      constructor
      · rintro ⟨h1, h2, h3, h4⟩
        refine ⟨?_, h1⟩
        congr 1
        exact ev_ext rfl hg.symm (kv_ext rfl rfl h3.symm h2.symm h4.symm rfl)
      · rintro ⟨h1, h2⟩
        have h3 := congrArg Ev.kv (Option.some.inj h1)
        simp only at h3
        have c := congrArg KV.cre h3; have m := congrArg KV.mod h3; have v := congrArg KV.ver h3
        simp only at c m v
        exact ⟨h2, m.symm, c.symm, v.symm⟩
def evEq (a b : Ev) : Bool := decide (a.rev = b.rev) && (decide (a.gone = b.gone) && kvEq a.kv b.kv)
theorem evEq_iff {a b : Ev} : evEq a b = true ↔ a = b := by
  unfold evEq
  simp only [Bool.and_eq_true, decide_eq_true_eq, kvEq_iff]
  constructor
  · rintro ⟨h0, h1, h2⟩; exact ev_ext h0 h1 h2
  · rintro rfl; exact ⟨rfl, rfl, rfl⟩
theorem eql_ev (a b : Ev) (w : World) : (binOp .eql 54 a.agg b.agg).run Tryd.prog w = .ok (.bool (evEq a b)) w := by
  simp [go_sem, Tryd.underlying54]
  rw [ite_last, ite_more, ite_more, ite_more, ite_more, ite_more, ite_more, ite_more]
  rfl
/-- Whether an event is right, as a Bool. -/
theorem right_B {l : List KV} {e : Ev} {b : Bool} (h : RightE l e ↔ b = true) : rightB l e = b := by
  rw [Bool.eq_iff_iff, right_iff]; exact h
theorem right_no {l : List KV} {e y : Ev} (h : evOf l (mutOf e) e.rev = some y) (hq : evEq e y = false) : rightB l e = false := right_B (by
  rw [right_event, h]
  constructor
  · rintro ⟨h1, _⟩
    have h2 := Option.some.inj h1
    subst h2
    rw [evEq_iff.2 rfl] at hq; cases hq
  · intro h; cases h)
theorem kvs_new (w : World) (x : KV) (ok : x.ok) : KVs (w.alloc (x.obj 26)) (some ⟨w.heap.size, 0, none⟩) 1 1 [x] := by
  have := World.ownsRow_lit (base := w.heap.size) (e := 26) (size := 6) w #[.string x.key, .string x.val, .int .i64 x.cre, .int .i64 x.mod, .int .i64 x.ver, .int .i64 x.lea] 1 (Nat.le_refl _) (by simp only [maxLen]; omega) rfl
  exact own_kvs (l := [x]) (by rw [cellsL_one]; exact this) (by intro y hy; simp at hy; subst hy; exact ok)
theorem may_single (x : KV) : mayP oneB [x] = oneB x := by simp [mayP, rises]
def aboveB (low : Int) (x : KV) : Bool := decide (low < x.mod)
def HitEnd (l : List KV) (low : Int) (w : World) (e : Ending) (w' : World) : Prop := ∃ i : Int, e = .returned (.int .i64 i) ∧ (l.any (aboveB low) = decide (0 ≤ i)) ∧ Below w.heap.size w w'
theorem any_hit {l : List KV} {low : Int} {j : Nat} {x : KV} (hx : l[j]? = some x) (h : aboveB low x = true) : l.any (aboveB low) = true := List.any_eq_true.2 ⟨x, List.mem_of_getElem? hx, h⟩
theorem any_miss {l : List KV} {low : Int} {j : Nat} (h : AllTo (fun y => !aboveB low y) l j) (hj : l.length = j) : l.any (aboveB low) = false := by
  have := h.out
  rw [take_full l j hj] at this
  rw [← Bool.not_eq_true, List.any_eq_true]
  rintro ⟨x, hx, hp⟩
  have := List.all_eq_true.1 this x hx
  rw [hp] at this; cases this
def baseB (l : List KV) (low : Int) : Bool := decide (l.length ≤ 30) && mayP oneB l && l.all fun x => decide (x.mod ≤ low)
theorem not_any (l : List KV) (low : Int) : (!l.any (aboveB low)) = l.all fun x => decide (x.mod ≤ low) := by
  rw [Bool.eq_iff_iff]
  simp [aboveB]
end Go.Proofs.YtjjngablalnbeaaDoor.P
/- Which stores may be: the program goes through the history. -/
namespace Go.Proofs.YtjjngablalnbeaaDoor.P
open Go.RowKit Go.Sort
set_option maxHeartbeats 1000000
set_option linter.unusedVariables false
set_option linter.unusedSimpArgs false
set_option maxRecDepth 100000

theorem below_drews (w : World) (q : Nat) : Below w.heap.size w (w.drewN q) := below_drewN (Below.refl _ _) q
/-- How far the history was gone through: what there is, and the least revision that may come. -/
structure LogTo (s : St) (k : Nat) (L : List KV) (least : Int) : Prop where
  now : L = (s.log.take k).foldl afterE s.base
  last : least = lastR (s.low + 1) (s.log.take k)
  may : mayLogB s.rev s.base (s.low + 1) (s.log.take k) = true
theorem LogTo.zero (s : St) : LogTo s 0 s.base (s.low + 1) := ⟨by simp, by simp [lastR], by simp [mayLogB]⟩
theorem mayLog_at {s : St} {k : Nat} {L : List KV} {least : Int} {e : Ev} (h : LogTo s k L least) (he : s.log[k]? = some e) :
    mayLogB s.rev s.base (s.low + 1) (s.log.take (k + 1)) = true ↔ least ≤ e.rev ∧ e.rev ≤ s.rev ∧ RightE L e ∧ (afterE L e).length ≤ 30 := by
  rw [take_succ s.log k e he, mayLog_app, ← h.now, ← h.last, mayLog_cons]
  constructor
  · rintro ⟨_, a, b, c, d, _⟩; exact ⟨a, b, c, d⟩
  · rintro ⟨a, b, c, d⟩; exact ⟨h.may, a, b, c, d, rfl⟩
theorem LogTo.next {s : St} {k : Nat} {L : List KV} {least : Int} {e : Ev} (h : LogTo s k L least) (he : s.log[k]? = some e) (h1 : least ≤ e.rev) (h2 : e.rev ≤ s.rev) (h3 : RightE L e) (h4 : (afterE L e).length ≤ 30) : LogTo s (k + 1) (afterE L e) e.rev :=
  ⟨by rw [take_succ s.log k e he, List.foldl_append, ← h.now]; rfl, by rw [take_succ s.log k e he]; simp [lastR], (mayLog_at h he).2 ⟨h1, h2, h3, h4⟩⟩
theorem mayLog_pre {s : St} {k : Nat} (h : mayLogB s.rev s.base (s.low + 1) (s.log.take k) = false) : mayLogB s.rev s.base (s.low + 1) s.log = false := by
  cases hm : mayLogB s.rev s.base (s.low + 1) s.log with
  | false => rfl
  | true =>
    rw [← List.take_append_drop k s.log, mayLog_app] at hm
    rw [hm.1] at h; cases h
theorem LogTo.fail {s : St} {k : Nat} {L : List KV} {least : Int} {e : Ev} (h : LogTo s k L least) (he : s.log[k]? = some e) (hn : ¬ (least ≤ e.rev ∧ e.rev ≤ s.rev ∧ RightE L e ∧ (afterE L e).length ≤ 30)) : mayLogB s.rev s.base (s.low + 1) s.log = false :=
  mayLog_pre (k := k + 1) (by
    cases hm : mayLogB s.rev s.base (s.low + 1) (s.log.take (k + 1)) with
    | false => rfl
    | true => exact absurd ((mayLog_at h he).1 hm) hn)
theorem LogTo.good {s : St} {k : Nat} {L : List KV} {least : Int} (h : LogTo s k L least) (hb : baseB s.base s.low = true) : ∃ top, Good L top := by
  unfold baseB at hb
  simp only [Bool.and_eq_true, decide_eq_true_eq, List.all_eq_true] at hb
  exact ⟨_, by rw [h.now]; exact good_fold _ _ _ s.low ⟨hb.1.2, hb.1.1, hb.2⟩ (by omega) h.may⟩
theorem Good.vers {l : List KV} {top : Int} (h : Good l top) : ∀ y ∈ l, 0 ≤ y.ver ∧ y.ver ≤ 1152921504606846976 := fun y hy => by
  obtain ⟨_, a, b, c, d, e, _, _⟩ := one_p (may_one h.may y hy)
  exact ⟨by omega, by omega⟩
noncomputable def logB (s : St) : Bool := decide (s.log.length ≤ 60) && mayLogB s.rev s.base (s.low + 1) s.log
theorem mayB_parts (s : St) : mayB s = (decide (0 ≤ s.low ∧ s.low ≤ s.rev ∧ s.rev ≤ 1099511627774) && (baseB s.base s.low && logB s)) := by
  unfold mayB baseB logB; simp only [Bool.and_assoc]
theorem mayB_no {s : St} (h : ¬ (0 ≤ s.low ∧ s.low ≤ s.rev ∧ s.rev ≤ 1099511627774)) : mayB s = false := by rw [mayB_parts]; simp only [h, decide_false, Bool.false_and]
end Go.Proofs.YtjjngablalnbeaaDoor.P
/- Stores: the same; few; things to be done that are short. -/
namespace Go.Proofs.YtjjngablalnbeaaDoor.P
open Go.RowKit Go.Sort
set_option maxHeartbeats 1000000
set_option linter.unusedVariables false
set_option linter.unusedSimpArgs false
set_option maxRecDepth 100000
abbrev stCells (s : St) (A : Option Addr) (n c : Nat) (B : Option Addr) (m d : Nat) : Array Value := #[.int .i64 s.rev, .int .i64 s.low, .slice A n c, .slice B m d]

def fewS (s : St) : Bool := fewB 40 s.base && fewE 70 s.log
theorem few_st (s : St) (A : Option Addr) (n c : Nat) (B : Option Addr) (m d : Nat) (w : World) (h : StAt w s A n c B m d) :
    Calls Tryd.prog 22 #[s.agg A n c B m d] w fun e w' => e = .returned (.bool (fewS s)) ∧ Below w.heap.size w w' := by
  have B0 := Lib.hid (new1 w (.cells (stCells s A n c B m d) 42))
  have H := Lib.hid (h.keep (new1 w (.cells (stCells s A n c B m d) 42)))
  have O := Lib.hid (own_new w (stCells s A n c B m d) 42)
  have q2 := O.out.cell 2 _ rfl
  have q3 := O.out.cell 3 _ rfl
  clear h
  cases hf : fewB 40 s.base with
  | false =>
    have HR : Hid (fewS s = false) := Lib.hid (by unfold fewS; rw [hf]; rfl)
    have HF := Lib.hid hf; clear hf
    go_enter Tryd.func22, Tryd.ntmps22
    go_wp2_with fail
    refine (few_any A n c s.base 40 _ H.out.kv (by omega)).mono ?_; rintro e w1 ⟨rfl, rfl⟩
    rw [HF.out]
    go_wp2
    go_ret
    exact ⟨retB HR.out.symm, B0.out⟩
  | true =>
    have HR : Hid (fewS s = fewE 70 s.log) := Lib.hid (by unfold fewS; rw [hf]; rfl)
    have HF := Lib.hid hf; clear hf
    go_enter Tryd.func22, Tryd.ntmps22
    go_wp2_with fail
    refine (few_any A n c s.base 40 _ H.out.kv (by omega)).mono ?_; rintro e w1 ⟨rfl, rfl⟩
    rw [HF.out]
    go_wp2_with fail
    refine (fewe_any B m d s.log 70 _ H.out.ev (by omega)).mono ?_; rintro e w1 ⟨rfl, rfl⟩
    go_wp2
    go_ret
    exact ⟨retB HR.out.symm, B0.out⟩
end Go.Proofs.YtjjngablalnbeaaDoor.P
