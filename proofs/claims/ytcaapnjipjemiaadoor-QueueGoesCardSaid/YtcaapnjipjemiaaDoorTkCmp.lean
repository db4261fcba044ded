/- How two tickets stand to one another: the comparison by its parts. -/
import Derived.Test.YtcaapnjipjemiaaDoorKvCmp
import Derived.Test.YtcaapnjipjemiaaDoorTkStab
import Derived.Deep.RegionHeld3
namespace Go.Proofs.YtcaapnjipjemiaaDoor.P
open Go.RowKit Go.Sort Go.Lib
set_option linter.unusedVariables false
set_option linter.unusedSimpArgs false
set_option maxHeartbeats 1000000
set_option maxRecDepth 100000

def cmpI (a b : Int) : Int := if a < b then -1 else if b < a then 1 else 0
def orI (a b : Int) : Int := if a = 0 then b else a
def cfK (x y : KV) : Int := orI (cmpI x.cre y.cre) (cmpK x.key y.key)
def befB (x y : KV) : Bool := decide (x.cre < y.cre) || (decide (x.cre = y.cre) && tlt x.key y.key)
theorem cmpK_neg (a b : ByteArray) : cmpK a b < 0 ↔ tlt a b = true := by
  unfold cmpK
  by_cases h : teq a b = true
  · rw [if_pos h]
    constructor
    · intro h'; omega
    · intro h'; rw [tlt_ne h'] at h; cases h
  · rw [if_neg h]
    by_cases h2 : tlt a b = true
    · rw [if_pos h2]; simp [h2]
    · rw [if_neg h2]; simp [h2]
theorem cfK_lt (x y : KV) : ltOf cfK x y = befB x y := by
  unfold ltOf cfK befB orI cmpI
  by_cases h1 : x.cre < y.cre
  · simp [h1]
  · by_cases h2 : y.cre < x.cre
    · have h3 : ¬ x.cre = y.cre := by omega
      simp [h1, h2, h3]
    · have h3 : x.cre = y.cre := by omega
      rw [if_neg h1, if_neg h2, if_pos rfl, decide_eq_false h1, decide_eq_true h3]
      simp only [Bool.false_or, Bool.true_and]
      cases h : tlt x.key y.key with
      | true => exact decide_eq_true ((cmpK_neg _ _).2 h)
      | false => exact decide_eq_false fun h' => by rw [(cmpK_neg _ _).1 h'] at h; cases h
theorem tlt_nt {a b c : ByteArray} (h1 : tlt a b = false) (h2 : tlt b c = false) : tlt a c = false := by
  cases h : tlt a c with
  | false => rfl
  | true =>
    by_cases e : teq a b = true
    · rw [teq_iff.1 e] at h; rw [h2] at h; cases h
    · have hba : tlt b a = true := by
        cases hb : tlt b a with
        | true => rfl
        | false => exact absurd (teq_iff.2 (bytes_ext (less_tri _ _ h1 hb))) e
      have := less_trans _ _ _ hba h
      unfold tlt at h2
      rw [h2] at this; cases this
theorem befB_swo : SWO befB where
  irrefl x := by unfold befB; simp [tlt, less_self]
  trans x y z h k := by
    unfold befB at *
    simp only [Bool.or_eq_true, Bool.and_eq_true, decide_eq_true_eq] at *
    rcases h with h | ⟨h, h'⟩
    · rcases k with k | ⟨k, k'⟩
      · exact .inl (by omega)
      · exact .inl (by omega)
    · rcases k with k | ⟨k, k'⟩
      · exact .inl (by omega)
      · exact .inr ⟨by omega, less_trans _ _ _ h' k'⟩
  ntrans x y z h k := by
    unfold befB at *
    simp only [Bool.or_eq_false_iff, Bool.and_eq_false_iff, decide_eq_false_iff_not] at *
    refine ⟨by omega, ?_⟩
    by_cases h1 : x.cre = y.cre
    · by_cases h2 : y.cre = z.cre
      · exact .inr (tlt_nt (h.2.resolve_left (by simp [h1])) (k.2.resolve_left (by simp [h2])))
      · exact .inl (by omega)
    · exact .inl (by omega)
theorem cfK_swo : SWO (ltOf cfK) := by
  have : ltOf cfK = befB := by funext x y; exact cfK_lt x y
  rw [this]; exact befB_swo

theorem cmpint_any (a b : Int) (w : World) :
    Calls Tryd.prog 60 #[.int .i64 a, .int .i64 b] w fun e w' => e = .returned (.int .i64 (cmpI a b)) ∧ w = w' := by
  by_cases h1 : a < b
  · have HC : Hid (cmpI a b = -1) := Lib.hid (by unfold cmpI; rw [if_pos h1])
    go_enter Tryd.func60, Tryd.ntmps60
    go_wp2
    go_ret
    refine ⟨?_, rfl⟩
    rw [HC.out]; rfl
  · by_cases h2 : b < a
    · have HC : Hid (cmpI a b = 1) := Lib.hid (by unfold cmpI; rw [if_neg h1, if_pos h2])
      go_enter Tryd.func60, Tryd.ntmps60
      go_wp2
      go_ret
      refine ⟨?_, rfl⟩
      rw [HC.out]; rfl
    · have HC : Hid (cmpI a b = 0) := Lib.hid (by unfold cmpI; rw [if_neg h1, if_neg h2])
      go_enter Tryd.func60, Tryd.ntmps60
      go_wp2
      go_ret
      refine ⟨?_, rfl⟩
      rw [HC.out]; rfl
theorem or_any (g : Nat) (a b : Int) (w : World) (h0 : w.cell? ⟨g, 0, none⟩ = some (.int .i64 a)) (h1 : w.cell? ⟨g, 1, none⟩ = some (.int .i64 b)) :
    Calls Tryd.prog 59 #[.slice (some ⟨g, 0, none⟩) 2 2] w fun e w' => e = .returned (.int .i64 (orI a b)) ∧ w = w' := by
  by_cases ha : a = 0
  · subst ha
    by_cases hb : b = 0
    · subst hb
      go_enter Tryd.func59, Tryd.ntmps59
      go_wp2
      go_loop [8] (fun i => i = .int .i64 0 ∨ i = .int .i64 1 ∨ i = .int .i64 2) (fun i => 2 - (intOf i).toNat)
      case atStart => exact .inl rfl
      case round =>
        rcases hrel with rfl | rfl | rfl
        · go_wp2
          go_round
          case rel => exact .inr (.inl rfl)
          case measure => simp [intOf]
        · go_wp2
          go_round
          case rel => exact .inr (.inr rfl)
          case measure => simp [intOf]
        · go_wp2
          go_ret
          exact ⟨rfl, rfl⟩
    · have hb' : (b != 0) = true := by simpa using hb
      have HB := Lib.hid hb
      clear hb
      go_enter Tryd.func59, Tryd.ntmps59
      go_wp2
      go_loop [8] (fun i => i = .int .i64 0 ∨ i = .int .i64 1) (fun i => 2 - (intOf i).toNat)
      case atStart => exact .inl rfl
      case round =>
        rcases hrel with rfl | rfl
        · go_wp2
          go_round
          case rel => exact .inr rfl
          case measure => simp [intOf]
        · go_wp2
          go_ret
          exact ⟨rfl, rfl⟩
  · have ha' : (a != 0) = true := by simpa using ha
    have HO : Hid (orI a b = a) := Lib.hid (by unfold orI; rw [if_neg ha])
    clear ha
    go_enter Tryd.func59, Tryd.ntmps59
    go_wp2
    go_loop [8] (fun i => i = .int .i64 0) (fun i => 2 - (intOf i).toNat)
    case atStart => rfl
    case round =>
      subst hrel
      go_wp2
      go_ret
      refine ⟨?_, rfl⟩
      rw [HO.out]; rfl
theorem cell3 (W : World) (X Y : Obj) (cs : Array Value) (t : TypeId) (i : Nat) (v : Value) (h : cs[i]? = some v) : (((W.alloc X).alloc Y).alloc (.cells cs t)).cell? ⟨W.heap.size + 2, i, none⟩ = some v := by
  have e : ((W.heap.push X).push Y).push (.cells cs t) = (((W.alloc X).alloc Y).alloc (.cells cs t)).heap := rfl
  have : (((W.alloc X).alloc Y).alloc (.cells cs t)).heap[W.heap.size + 2]? = some (.cells cs t (0, 0)) := by
    show (((W.heap.push X).push Y).push (.cells cs t))[W.heap.size + 2]? = _
    rw [Array.getElem?_push, if_pos (by simp)]
  unfold World.cell?
  show (match (((W.alloc X).alloc Y).alloc (.cells cs t)).heap[W.heap.size + 2]? with | some (.cells c _ _) => c[i]? | _ => none) = _
  rw [this]; exact h
theorem against_any (x y : KV) (W : World) :
    Calls Tryd.prog 56 #[.agg x.cells.toArray, .agg y.cells.toArray] W fun e w' => e = .returned (.int .i64 (cfK x y)) ∧ ∃ q os', w' = grow (W.drewN q) os' := by
  have c1 := fun w => cmpint_any x.cre y.cre w
  have c2 := fun w => cmp_any x.key y.key w
  have HF : Hid (cfK x y = orI (cmpI x.cre y.cre) (cmpK x.key y.key)) := Lib.hid rfl
  have c3 := fun (g : Nat) (w : World) h0 h1 => or_any g (cmpI x.cre y.cre) (cmpK x.key y.key) w h0 h1
  generalize cmpI x.cre y.cre = u at c1 c3 HF
  generalize cmpK x.key y.key = v at c2 c3 HF
  unfold KV.cells
  go_enter Tryd.func56, Tryd.ntmps56
  go_wp2_with fail
  go_region_held3 (fun w' => w'.cell? ⟨W.heap.size, 0, none⟩ = some (.string x.key) ∧ w'.cell? ⟨W.heap.size, 2, none⟩ = some (.int .i64 x.cre) ∧ w'.cell? ⟨W.heap.size + 1, 0, none⟩ = some (.string y.key) ∧ w'.cell? ⟨W.heap.size + 1, 2, none⟩ = some (.int .i64 y.cre)) (go_keep) (first
    | (go_at_call 60; refine (c1 _).mono ?_; rintro e w1 ⟨rfl, rfl⟩)
    | (go_at_call 61; refine (c2 _).mono ?_; rintro e w1 ⟨rfl, rfl⟩)
    | (go_at_call 59; refine (c3 (W.heap.size + 2) _ ?ha ?hb).mono ?hc; (case ha => exact cell3 _ _ _ _ _ 0 _ rfl); (case hb => exact cell3 _ _ _ _ _ 1 _ rfl); rintro e w1 ⟨rfl, rfl⟩))
  all_goals (go_wp2; go_ret; exact ⟨by rw [HF.out]; rfl, 1, _, by rw [alloc_eq_grow, alloc_eq_grow, alloc_eq_grow, grow_grow, grow_grow]; rfl⟩)
theorem against_lays (blk off size : Nat) (w : World) : CmpLays Tryd.prog 56 #[] KV.cells 6 cfK blk off size w := fun _ _ _ _ x y => against_any x y _
end Go.Proofs.YtcaapnjipjemiaaDoor.P
