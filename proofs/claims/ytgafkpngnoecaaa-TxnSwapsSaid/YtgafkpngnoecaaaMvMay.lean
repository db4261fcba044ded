/- Which stores may be: the program's question. -/
import Derived.Test.YtgafkpngnoecaaaMvRead
namespace Go.Proofs.Ytgafkpngnoecaaa.P
open Go.RowKit Go.Sort
set_option maxHeartbeats 400000
set_option linter.unusedVariables false
set_option linter.unusedSimpArgs false
set_option maxRecDepth 100000

structure EvIs (l : List KV) (m : Mu) (rev : Int) (o : Option Ev) : Prop where
  eq : evOf l m rev = o
def mutOf (e : Ev) : Mu := ⟨e.gone, e.kv.key, e.kv.val, e.kv.lea⟩
theorem kv_ext {a b : KV} (h0 : a.key = b.key) (h1 : a.val = b.val) (h2 : a.cre = b.cre) (h3 : a.mod = b.mod) (h4 : a.ver = b.ver) (h5 : a.lea = b.lea) : a = b := by
  cases a; cases b; simp_all
theorem ev_ext {a b : Ev} (h0 : a.rev = b.rev) (h1 : a.gone = b.gone) (h2 : a.kv = b.kv) : a = b := by
  cases a; cases b; simp_all
/-- An event is right just where it is what comes of what it tells, and its thing may be. -/
theorem right_event {l : List KV} {e : Ev} : RightE l e ↔ evOf l (mutOf e) e.rev = some e ∧ oneB e.kv = true := by
  unfold RightE evOf mutOf
  simp only
  cases hg : e.gone with
  | true =>
    simp only [if_true]
    constructor
    · rintro ⟨h1, h2⟩
      refine ⟨?_, h1⟩
      rw [h2, Option.map_some]
      congr 1
      exact ev_ext rfl hg.symm rfl
    · rintro ⟨h1, h2⟩
      refine ⟨h2, ?_⟩
      cases hf : findL l e.kv.key with
      | none => rw [hf] at h1; cases h1
      | some x =>
        rw [hf, Option.map_some] at h1
        have := congrArg Ev.kv (Option.some.inj h1)
        simp only at this
        rw [this]
  | false =>
    simp only [Bool.false_eq_true, if_false]
    unfold laid
    simp only
    cases hf : findL l e.kv.key with
    | none =>
      simp only
      constructor
      · rintro ⟨h1, h2, h3, h4⟩
        refine ⟨?_, h1⟩
        congr 1
        exact ev_ext rfl hg.symm (kv_ext rfl rfl h3.symm h2.symm h4.symm rfl)
      · rintro ⟨h1, h2⟩
        have h3 := congrArg Ev.kv (Option.some.inj h1)
        simp only at h3
        have c := congrArg KV.cre h3; have m := congrArg KV.mod h3; have v := congrArg KV.ver h3
        simp only at c m v
        exact ⟨h2, m.symm, c.symm, v.symm⟩
    | some x =>
      simp only
      constructor
      · rintro ⟨h1, h2, h3, h4⟩
        refine ⟨?_, h1⟩
        congr 1
        exact ev_ext rfl hg.symm (kv_ext rfl rfl h3.symm h2.symm h4.symm rfl)
      · rintro ⟨h1, h2⟩
        have h3 := congrArg Ev.kv (Option.some.inj h1)
        simp only at h3
        have c := congrArg KV.cre h3; have m := congrArg KV.mod h3; have v := congrArg KV.ver h3
        simp only at c m v
        exact ⟨h2, m.symm, c.symm, v.symm⟩
def kvEq (a b : KV) : Bool := decide (a.key.toList = b.key.toList) && (decide (a.val.toList = b.val.toList) && (decide (a.cre = b.cre) && (decide (a.mod = b.mod) && (decide (a.ver = b.ver) && decide (a.lea = b.lea)))))
def evEq (a b : Ev) : Bool := decide (a.rev = b.rev) && (decide (a.gone = b.gone) && kvEq a.kv b.kv)
theorem kvEq_iff {a b : KV} : kvEq a b = true ↔ a = b := by
  unfold kvEq
  simp only [Bool.and_eq_true, decide_eq_true_eq]
  constructor
  · rintro ⟨h0, h1, h2, h3, h4, h5⟩; exact kv_ext (bytes_ext h0) (bytes_ext h1) h2 h3 h4 h5
  · rintro rfl; exact ⟨rfl, rfl, rfl, rfl, rfl, rfl⟩
theorem evEq_iff {a b : Ev} : evEq a b = true ↔ a = b := by
  unfold evEq
  simp only [Bool.and_eq_true, decide_eq_true_eq, kvEq_iff]
  constructor
  · rintro ⟨h0, h1, h2⟩; exact ev_ext h0 h1 h2
  · rintro rfl; exact ⟨rfl, rfl, rfl⟩
theorem ite_last (p : Prop) [Decidable p] (w : World) : (if p then Result.ok (Value.bool true) w else Result.ok (Value.bool false) w) = Result.ok (Value.bool (decide p)) w := by by_cases h : p <;> simp [h]
theorem ite_more (p : Prop) [Decidable p] (q : Bool) (w : World) : (if p then Result.ok (Value.bool q) w else Result.ok (Value.bool false) w) = Result.ok (Value.bool (decide p && q)) w := by by_cases h : p <;> simp [h]
theorem eql_kv (a b : KV) (w : World) : (binOp .eql 63 a.agg b.agg).run Try.prog w = .ok (.bool (kvEq a b)) w := by
  simp [go_sem, Try.underlying63]
  rw [ite_last, ite_more, ite_more, ite_more, ite_more, ite_more]
  rfl
theorem eql_ev (a b : Ev) (w : World) : (binOp .eql 74 a.agg b.agg).run Try.prog w = .ok (.bool (evEq a b)) w := by
  simp [go_sem, Try.underlying74]
  rw [ite_last, ite_more, ite_more, ite_more, ite_more, ite_more, ite_more, ite_more]
  rfl
/-- Whether an event is right, as a Bool. -/
theorem right_B {l : List KV} {e : Ev} {b : Bool} (h : RightE l e ↔ b = true) : rightB l e = b := by
  rw [Bool.eq_iff_iff, right_iff]; exact h
theorem right_no {l : List KV} {e y : Ev} (h : evOf l (mutOf e) e.rev = some y) (hq : evEq e y = false) : rightB l e = false := right_B (by
  rw [right_event, h]
  constructor
  · rintro ⟨h1, _⟩
    have h2 := Option.some.inj h1
    subst h2
    rw [evEq_iff.2 rfl] at hq; cases hq
  · intro h; cases h)
theorem kvs_new (w : World) (x : KV) (ok : x.ok) : KVs (w.alloc (x.obj 63)) (some ⟨w.heap.size, 0, none⟩) 1 1 [x] := by
  have := World.ownsRow_lit (base := w.heap.size) (e := 63) (size := 6) w #[.string x.key, .string x.val, .int .i64 x.cre, .int .i64 x.mod, .int .i64 x.ver, .int .i64 x.lea] 1 (Nat.le_refl _) (by simp only [maxLen]; omega) rfl
  exact own_kvs (l := [x]) (by rw [cellsL_one]; exact this) (by intro y hy; simp at hy; subst hy; exact ok)
theorem may_single (x : KV) : mayP oneB [x] = oneB x := by simp [mayP, rises]
theorem right_any (A : Option Addr) (n c : Nat) (l : List KV) (e : Ev) (w : World) (h : KVs w A n c l) (ok : e.ok) (hn : n ≤ 1000000) (hv : ∀ y ∈ l, 0 ≤ y.ver ∧ y.ver ≤ 1152921504606846976) :
    Calls Try.prog 68 #[.slice A n c, e.agg] w fun e' w' => e' = .returned (.bool (rightB l e)) ∧ Below w.heap.size w w' := by
  have b0 := then_ (new1 w (e.obj 74)) (new1 _ (e.kv.obj 63))
  have HB0 := Lib.hid b0
  have t := event_any A n c l (mutOf e) e.rev ((w.alloc (e.obj 74)).alloc (e.kv.obj 63)) (h.keep b0) hn hv
  have E0 := Lib.hid ((own_new w #[.int .i64 e.rev, .bool e.gone, .string e.kv.key, .string e.kv.val, .int .i64 e.kv.cre, .int .i64 e.kv.mod, .int .i64 e.kv.ver, .int .i64 e.kv.lea] 74).alloc (e.kv.obj 63))
  have X0 := Lib.hid (own_new2 w (e.obj 74) #[.string e.kv.key, .string e.kv.val, .int .i64 e.kv.cre, .int .i64 e.kv.mod, .int .i64 e.kv.ver, .int .i64 e.kv.lea] 63)
  have OK := Lib.hid ok.kv
  have T := Lib.hid t
  clear h b0 t hv ok
  cases he : evOf l (mutOf e) e.rev with
  | none =>
    have HR : Hid (rightB l e = false) := Lib.hid (right_B (by rw [right_event, he]; simp))
    have HE : EvIs l (mutOf e) e.rev none := ⟨he⟩
    clear he
    go_enter Try.func68, Try.ntmps68
    go_wp2_with fail
    refine T.out.mono ?_; rintro e' w1 h
    obtain ⟨rfl, hb⟩ := EventEnd.no' HE.eq h
    have HB := Lib.hid (then_ HB0.out hb)
    clear h hb
    go_wp2
    go_ret
    exact ⟨retB HR.out.symm, then_ HB.out (new1 _ _)⟩
  | some y =>
    have HE : EvIs l (mutOf e) e.rev (some y) := ⟨he⟩
    have heq := fun wx => eql_ev e y wx
    cases hq : evEq e y with
    | false =>
      have HR : Hid (rightB l e = false) := Lib.hid (right_no he hq)
      rw [hq] at heq
      clear he hq
      go_enter Try.func68, Try.ntmps68
      go_wp2_with fail
      refine T.out.mono ?_; rintro e' w1 h
      obtain ⟨rfl, hb⟩ := EventEnd.yes' HE.eq h
      have HB := Lib.hid (then_ HB0.out hb)
      have E1 := Lib.hid ((E0.out.below hb).alloc (y.obj 74))
      have f := E1.out.cell
      have f0 := f 0 _ rfl; have f1 := f 1 _ rfl; have f2 := f 2 _ rfl; have f3 := f 3 _ rfl; have f4 := f 4 _ rfl; have f5 := f 5 _ rfl; have f6 := f 6 _ rfl; have f7 := f 7 _ rfl
      clear h hb f
      go_wp2
      go_ret
      exact ⟨retB HR.out.symm, then_ HB.out (new1 _ _)⟩
    | true =>
      obtain rfl := evEq_iff.1 hq
      have HR : Hid (rightB l e = oneB e.kv) := Lib.hid (right_B (by rw [right_event, he]; simp))
      rw [hq] at heq
      clear he hq
      go_enter Try.func68, Try.ntmps68
      go_wp2_with fail
      refine T.out.mono ?_; rintro e' w1 h
      obtain ⟨rfl, hb⟩ := EventEnd.yes' HE.eq h
      have HB := Lib.hid (then_ HB0.out hb)
      have E1 := Lib.hid ((E0.out.below hb).alloc (e.obj 74))
      have X1 := Lib.hid ((X0.out.below hb).alloc (e.obj 74))
      have f := E1.out.cell
      have f0 := f 0 _ rfl; have f1 := f 1 _ rfl; have f2 := f 2 _ rfl; have f3 := f 3 _ rfl; have f4 := f 4 _ rfl; have f5 := f 5 _ rfl; have f6 := f 6 _ rfl; have f7 := f 7 _ rfl
      have g := X1.out.cell
      have g0 := g 0 _ rfl; have g1 := g 1 _ rfl; have g2 := g 2 _ rfl; have g3 := g 3 _ rfl; have g4 := g 4 _ rfl; have g5 := g 5 _ rfl
      clear h hb f g
      have t := may_any _ 1 1 [e.kv] _ (kvs_new (w1.alloc (e.obj 74)) e.kv OK.out) (by omega)
      rw [may_single, show (w1.alloc (e.obj 74)).heap.size = w1.heap.size + 1 by simp] at t
      have TT := Lib.hid t
      clear t
      go_wp2_with fail
      refine TT.out.mono ?_; rintro e' w2 ⟨rfl, hb⟩
      have HB2 := Lib.hid (then_ (then_ (then_ HB.out (new1 _ _)) (new1 _ _)) hb)
      clear hb
      go_wp2
      go_ret
      exact ⟨retB HR.out.symm, HB2.out⟩

def aboveB (low : Int) (x : KV) : Bool := decide (low < x.mod)
theorem basef_any (x : KV) (low : Int) (p : Addr) (w : World) (hp : w.cell? p = some (.int .i64 low)) :
    Calls Try.prog 67 #[x.agg, .pointer (some p)] w fun e w' => e = .returned (.bool (aboveB low x)) ∧ Below w.heap.size w w' := by
  have hlt := World.block_lt_of_cell? w p hp
  go_enter Try.func67, Try.ntmps67
  go_wp2
  go_ret
  exact ⟨rfl, (Below.refl _ _).alloc (Nat.le_refl _) _⟩
def HitEnd (l : List KV) (low : Int) (w : World) (e : Ending) (w' : World) : Prop := ∃ i : Int, e = .returned (.int .i64 i) ∧ (l.any (aboveB low) = decide (0 ≤ i)) ∧ Below w.heap.size w w'
theorem any_hit {l : List KV} {low : Int} {j : Nat} {x : KV} (hx : l[j]? = some x) (h : aboveB low x = true) : l.any (aboveB low) = true := List.any_eq_true.2 ⟨x, List.mem_of_getElem? hx, h⟩
theorem any_miss {l : List KV} {low : Int} {j : Nat} (h : AllTo (fun y => !aboveB low y) l j) (hj : l.length = j) : l.any (aboveB low) = false := by
  have := h.out
  rw [take_full l j hj] at this
  rw [← Bool.not_eq_true, List.any_eq_true]
  rintro ⟨x, hx, hp⟩
  have := List.all_eq_true.1 this x hx
  rw [hp] at this; cases this
theorem hit_any (A : Option Addr) (n c : Nat) (l : List KV) (low : Int) (p : Addr) (w : World) (h : KVs w A n c l) (hn : n ≤ 1000000) (hp : w.cell? p = some (.int .i64 low)) :
    Calls Try.prog 88 #[.slice A n c, .func (.func 67) #[] #[.pointer (some p)]] w (HitEnd l low w) := by
  have hlt0 := World.block_lt_of_cell? w p hp
  have H := Lib.hid h
  have HP := Lib.hid hp
  have HL := Lib.hid hlt0
  clear h hp hlt0
  go_enter Try.func88, Try.ntmps88
  go_wp2
  go_loopw [8] (fun i wr => ∃ j : Nat, j ≤ n ∧ i = .int .i64 j ∧ AllTo (fun y => !aboveB low y) l j ∧ Below w.heap.size w wr) (fun i _ => n - (intOf i).toNat)
  case atStart => exact ⟨0, Nat.zero_le _, rfl, rfl, Below.refl _ _⟩
  case round =>
    obtain ⟨j, hj, rfl, hall, hbel⟩ := hrel
    by_cases hlt : j < n
    · obtain ⟨a, x, rfl, hbl, hx, hok, hc⟩ := (H.out.keep hbel).at_ hlt
      obtain ⟨c0, c1, c2, c3, c4, c5⟩ := hc
      have HA := Lib.hid hall
      have HB := Lib.hid hbel
      have HX := Lib.hid hx
      have HC := Lib.hid ((HB.out.cell HL.out).trans HP.out)
      clear hok hall hbel hx hbl
      cases ht : aboveB low x with
      | true =>
        have HT := Lib.hid ht
        clear ht
        go_wp2_with fail
        refine (basef_any x low p wr HC.out).mono ?_; rintro e w1 ⟨rfl, hb⟩
        have HB1 := Lib.hid hb
        clear hb
        rw [HT.out]
        go_wp2
        go_ret
        exact ⟨j, rfl, by rw [any_hit HX.out HT.out]; simp, HB.out.trans (HB1.out.mono HB.out.size)⟩
      | false =>
        have HT := Lib.hid ht
        clear ht
        go_wp2_with fail
        refine (basef_any x low p wr HC.out).mono ?_; rintro e w1 ⟨rfl, hb⟩
        have HB1 := Lib.hid hb
        clear hb
        rw [HT.out]
        go_wp2
        go_roundw
        case rel => exact ⟨j + 1, by omega, by go_num, by show _ = true; rw [all_take_s l _ j x HX.out, HA.out.out, HT.out]; rfl, HB.out.trans (HB1.out.mono HB.out.size)⟩
        case measure => simp [intOf]; omega
    · have e : j = n := by omega
      subst e
      have HA := Lib.hid hall
      have HB := Lib.hid hbel
      clear hall hbel
      go_wp2
      go_ret
      exact ⟨-1, rfl, by rw [any_miss HA.out H.out.len]; rfl, HB.out⟩
theorem contains_any (A : Option Addr) (n c : Nat) (l : List KV) (low : Int) (p : Addr) (w : World) (h : KVs w A n c l) (hn : n ≤ 1000000) (hp : w.cell? p = some (.int .i64 low)) :
    Calls Try.prog 66 #[.slice A n c, .func (.func 67) #[] #[.pointer (some p)]] w fun e w' => e = .returned (.bool (l.any (aboveB low))) ∧ Below w.heap.size w w' := by
  go_enter Try.func66, Try.ntmps66
  go_wp2_with fail
  refine (hit_any A n c l low p w h hn hp).mono ?_; rintro e w1 ⟨i, rfl, hi, hb⟩
  have HI := Lib.hid hi
  have HB := Lib.hid hb
  clear hi hb h hp
  go_wp2
  go_ret
  exact ⟨retB HI.out.symm, HB.out⟩
def baseB (l : List KV) (low : Int) : Bool := decide (l.length ≤ 30) && mayP oneB l && l.all fun x => decide (x.mod ≤ low)
theorem not_any (l : List KV) (low : Int) : (!l.any (aboveB low)) = l.all fun x => decide (x.mod ≤ low) := by
  rw [Bool.eq_iff_iff]
  simp [aboveB]
theorem base_any (A : Option Addr) (n c : Nat) (l : List KV) (low : Int) (w : World) (h : KVs w A n c l) :
    Calls Try.prog 45 #[.slice A n c, .int .i64 low] w fun e w' => e = .returned (.bool (baseB l low)) ∧ Below w.heap.size w w' := by
  have hlen := h.len
  have hm := Nat.le_trans h.le h.max
  unfold maxLen at hm
  have H := Lib.hid (h.keep (new1 w (.cells #[.int .i64 low] 3)))
  have O0 := Lib.hid (own_new w #[.int .i64 low] 3)
  clear h
  by_cases hn : n ≤ 30
  · cases hmay : mayP oneB l with
    | false =>
      have HR : Hid (baseB l low = false) := Lib.hid (by simp [baseB, hmay])
      have HM := Lib.hid hmay
      clear hmay hlen
      go_enter Try.func45, Try.ntmps45
      go_wp2_with fail
      refine (may_any A n c l _ H.out (by omega)).mono ?_; rintro e w1 ⟨rfl, hb⟩
      rw [HM.out]
      have HB := Lib.hid (then_ (new1 w _) hb); clear hb
      go_wp2
      go_ret
      exact ⟨retB HR.out.symm, HB.out⟩
    | true =>
      have HR : Hid (baseB l low = !l.any (aboveB low)) := Lib.hid (by unfold baseB; rw [hmay, hlen, not_any]; simp [hn])
      have HM := Lib.hid hmay
      clear hmay hlen
      go_enter Try.func45, Try.ntmps45
      go_wp2_with fail
      refine (may_any A n c l _ H.out (by omega)).mono ?_; rintro e w1 ⟨rfl, hb⟩
      rw [HM.out]
      have HB := Lib.hid (then_ (new1 w _) hb)
      have H1 := Lib.hid (H.out.keep hb)
      have O1 := Lib.hid (O0.out.below hb)
      clear hb
      go_wp2_with fail
      refine (contains_any A n c l low ⟨w.heap.size, 0, none⟩ w1 H1.out (by omega) (O1.out.cell 0 _ rfl)).mono ?_; rintro e w2 ⟨rfl, hb⟩
      have HB2 := Lib.hid (then_ HB.out hb); clear hb
      go_wp2
      go_ret
      exact ⟨retB HR.out.symm, HB2.out⟩
  · have HR : Hid (baseB l low = false) := Lib.hid (by unfold baseB; rw [hlen]; simp [hn])
    clear hlen
    go_enter Try.func45, Try.ntmps45
    go_wp2
    go_ret
    exact ⟨retB HR.out.symm, new1 w _⟩
end Go.Proofs.Ytgafkpngnoecaaa.P
