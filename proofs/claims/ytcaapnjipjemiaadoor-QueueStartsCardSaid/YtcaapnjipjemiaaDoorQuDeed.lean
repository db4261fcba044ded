/- What a machine of a queue does: the table that deedOf lays at each call, in whatever order, and what it gives of a machine. -/
import Derived.BigRegion
import Derived.BigQuiet
import Derived.Deep.RegionHeld3
import Derived.Test.YtcaapnjipjemiaaDoorMc
import Derived.WideKeyPair
import Derived.DeepKeys4
import Derived.WideMake
import Derived.Maps.Own
namespace Go.Proofs.YtcaapnjipjemiaaDoor.P
open Go.RowKit Go.Sort Go.WideMaps
set_option maxHeartbeats 1000000
set_option linter.unusedVariables false
set_option linter.unusedSimpArgs false
set_option maxRecDepth 100000
section
variable {P : Program} {w : World} {mty kt et : TypeId} {r clock : Nat} {es : Array MapEntry} {key : Value}
theorem map_put_new (K : KeyLaw P kt) (hm : P.underlying mty = some (.map kt et)) (hb : w.heap[r]? = some (.map es clock)) {l : Lit} (hk : keyOf P kt key = some l) (hes : ∀ e ∈ es.toList, ∃ l, keyOf P kt e.key = some l)
    (hne : ∀ e ∈ es.toList, e.key ≠ key) (val : Value) :
    (Instr.mapUpdate mty (.map (some r)) key val).run P w = .ok () { w with heap := w.heap.setIfInBounds r (.map (es.push { key := key, val := val, born := clock }) (clock + 1)) } := by
  have hc := K.check w false hk
  have hf : (Instr.findKey kt key es.toList).run P w = .ok none w := by
    rcases K.find w hk es.toList hes with ⟨h, _⟩ | ⟨j, e, _, he, hek⟩
    · exact h
    · exact absurd hek (hne e (List.mem_of_getElem? he))
  simp [Instr.mapUpdate, run_underlying hm, MapKept.run_getObj_map hb, hc, hf, MapKept.run_setObj_map _ hb, Result.andThen]
theorem map_look_none (K : KeyLaw P kt) (hm : P.underlying mty = some (.map kt et)) (hb : w.heap[r]? = some (.map es clock)) {l : Lit} (hk : keyOf P kt key = some l) (hes : ∀ e ∈ es.toList, ∃ l, keyOf P kt e.key = some l)
    (hne : ∀ e ∈ es.toList, e.key ≠ key) {z : Value} (hz : (zeroValue et).run P w = .ok z w) :
    (Instr.lookup mty (.map (some r)) key true).run P w = .ok (.tuple #[z, .bool false]) w := by
  have hc := K.check w es.isEmpty hk
  have hf : (Instr.findKey kt key es.toList).run P w = .ok none w := by
    rcases K.find w hk es.toList hes with ⟨h, _⟩ | ⟨j, e, _, he, hek⟩
    · exact h
    · exact absurd hek (hne e (List.mem_of_getElem? he))
  simp [Instr.lookup, run_underlying hm, MapKept.run_getObj_map hb, hc, hf, hz, Result.andThen]
theorem map_look_some (K : KeyLaw P kt) (hm : P.underlying mty = some (.map kt et)) (hb : w.heap[r]? = some (.map es clock)) {l : Lit} (hk : keyOf P kt key = some l) (hes : ∀ e ∈ es.toList, ∃ l, keyOf P kt e.key = some l)
    {e0 : MapEntry} (h0 : e0 ∈ es.toList) (h1 : e0.key = key) {v : Value} (hv : ∀ e ∈ es.toList, e.key = key → e.val = v) :
    (Instr.lookup mty (.map (some r)) key true).run P w = .ok (.tuple #[v, .bool true]) w := by
  have hc := K.check w es.isEmpty hk
  rcases K.find w hk es.toList hes with ⟨_, h⟩ | ⟨j, e, hf, he, hek⟩
  · exact absurd h1 (h e0 h0)
  · have := hv e (List.mem_of_getElem? he) hek
    subst this
    simp [Instr.lookup, run_underlying hm, MapKept.run_getObj_map hb, hc, hf, Result.andThen]
end
abbrev pr (i j : Int) : Value := .agg #[.int .i64 i, .int .i64 j]
theorem pr_ne {i j a b : Int} (h : ¬ (i = a ∧ j = b)) : pr i j ≠ pr a b := fun e => h (by simpa [pr] using e)
theorem qu_laid : laidOutB Tryd.prog = true := by kernel_rfl
theorem qu_arr : ArrKey Tryd.prog 71 3 2 := ⟨Tryd.underlying71, by kernel_rfl, by kernel_rfl, by kernel_rfl⟩
theorem qu_law : KeyLaw Tryd.prog 71 := deep_law_laid qu_laid (m := 2) (by omega) (of_decide_eq_true (by kernel_rfl)) (by kernel_rfl) (by rw [Tryd.underlying71])
theorem pr_key {i j : Int} (hi : inI i) (hj : inI j) : ∃ l, keyOf Tryd.prog 71 (pr i j) = some l :=
  ⟨_, keyOf_pair qu_arr Tryd.underlying3 ⟨_, rfl⟩ (WalkArith.wf_i64 hi) (WalkArith.wf_i64 hj)⟩

abbrev dd (a b : Nat) : Value := .agg #[.func (.func a) #[] #[], .func (.func b) #[] #[]]
abbrev dz : Value := .agg #[.nilFunc, .nilFunc]
/-- One of the four rows of the table. -/
def rowD (i j : Int) (v : Value) : Prop := (i = 7 ∧ j = 1 ∧ v = dd 33 34) ∨ (i = 8 ∧ j = 2 ∧ v = dd 35 36) ∨ (i = 8 ∧ j = 3 ∧ v = dd 37 38) ∨ (i = 8 ∧ j = 10 ∧ v = dd 39 40)
/-- These are rows of the table. -/
def Part (es : Array MapEntry) : Prop := ∀ e ∈ es.toList, ∃ i j v, rowD i j v ∧ e.key = pr i j ∧ e.val = v
def fresh (es : Array MapEntry) (i j : Int) : Prop := ∀ e ∈ es.toList, e.key ≠ pr i j
theorem fresh_nil (i j : Int) : fresh #[] i j := fun e he => by simp at he
theorem fresh_push (es : Array MapEntry) (a b : Int) (v : Value) (c : Nat) (i j : Int) : fresh (es.push ⟨pr a b, v, c⟩) i j ↔ fresh es i j ∧ ¬ (a = i ∧ b = j) := by
  unfold fresh; constructor
  · intro h
    exact ⟨fun e he => h e (by simp [Array.toList_push, he]), fun hab => h ⟨pr a b, v, c⟩ (by simp) (by rw [hab.1, hab.2])⟩
  · rintro ⟨h1, h2⟩ e he
    rw [Array.toList_push, List.mem_append, List.mem_singleton] at he
    rcases he with he | rfl
    · exact h1 e he
    · exact pr_ne h2
theorem Part.nil : Part #[] := fun e he => by simp at he
theorem Part.push {es : Array MapEntry} (h : Part es) {i j : Int} {v : Value} (c : Nat) (hr : rowD i j v) : Part (es.push ⟨pr i j, v, c⟩) := fun e he => by
  rw [Array.toList_push, List.mem_append, List.mem_singleton] at he
  rcases he with he | rfl
  · exact h e he
  · exact ⟨i, j, v, hr, rfl, rfl⟩
theorem rowD_in {i j : Int} {v : Value} (h : rowD i j v) : inI i ∧ inI j := by
  unfold inI; rcases h with ⟨rfl, rfl, _⟩ | ⟨rfl, rfl, _⟩ | ⟨rfl, rfl, _⟩ | ⟨rfl, rfl, _⟩ <;> omega
theorem Part.keys {es : Array MapEntry} (h : Part es) : ∀ e ∈ es.toList, ∃ l, keyOf Tryd.prog 71 e.key = some l := fun e he => by
  obtain ⟨i, j, v, hr, hk, _⟩ := h e he
  rw [hk]; exact pr_key (rowD_in hr).1 (rowD_in hr).2
/-- Whole: each row is there. -/
def Full (es : Array MapEntry) : Prop := Part es ∧ ∀ i j v, rowD i j v → ∃ e ∈ es.toList, e.key = pr i j
theorem rowD_one {i j : Int} {v u : Value} (h : rowD i j v) (h' : rowD i j u) : v = u := by
  rcases h with ⟨rfl, rfl, rfl⟩ | ⟨rfl, rfl, rfl⟩ | ⟨rfl, rfl, rfl⟩ | ⟨rfl, rfl, rfl⟩ <;> rcases h' with ⟨h1, h2, h3⟩ | ⟨h1, h2, h3⟩ | ⟨h1, h2, h3⟩ | ⟨h1, h2, h3⟩ <;> first | exact h3.symm | omega
theorem full_some {w : World} {r c : Nat} {es : Array MapEntry} (h : Full es) (hb : w.heap[r]? = some (.map es c)) {i j : Int} {v : Value} (hr : rowD i j v) :
    (Instr.lookup 72 (.map (some r)) (pr i j) true).run Tryd.prog w = .ok (.tuple #[v, .bool true]) w := by
  obtain ⟨l, hl⟩ := pr_key (rowD_in hr).1 (rowD_in hr).2
  obtain ⟨e0, h0, h1⟩ := h.2 i j v hr
  refine map_look_some qu_law Tryd.underlying72 hb hl h.1.keys h0 h1 fun e he hk => ?_
  obtain ⟨a, b, u, hu, hka, hv⟩ := h.1 e he
  rw [hk] at hka
  have : i = a ∧ j = b := by simpa [pr] using hka
  obtain ⟨rfl, rfl⟩ := this
  rw [hv]; exact rowD_one hu hr
theorem full_none {w : World} {r c : Nat} {es : Array MapEntry} (h : Full es) (hb : w.heap[r]? = some (.map es c)) {i j : Int} (hi : inI i) (hj : inI j) (hr : ∀ v, ¬ rowD i j v) :
    (Instr.lookup 72 (.map (some r)) (pr i j) true).run Tryd.prog w = .ok (.tuple #[dz, .bool false]) w := by
  obtain ⟨l, hl⟩ := pr_key hi hj
  refine map_look_none qu_law Tryd.underlying72 hb hl h.1.keys (fun e he hk => ?_) (by kernel_rfl)
  obtain ⟨a, b, u, hu, hka, hv⟩ := h.1 e he
  rw [hk] at hka
  have : i = a ∧ j = b := by simpa [pr] using hka
  obtain ⟨rfl, rfl⟩ := this
  exact hr u hu

/-- The world whose map of block r has these entries. -/
def mapW (w : World) (r : Nat) (es : Array MapEntry) (c : Nat) : World := { w with heap := w.heap.setIfInBounds r (.map es c) }
theorem mapW_at {w : World} {r : Nat} (hr : r < w.heap.size) (es : Array MapEntry) (c : Nat) : (mapW w r es c).heap[r]? = some (.map es c) := by
  simp [mapW, hr]
theorem mapW_set (w : World) (r : Nat) (es es' : Array MapEntry) (c c' : Nat) : { mapW w r es c with heap := (mapW w r es c).heap.setIfInBounds r (.map es' c') } = mapW w r es' c' := by
  simp [mapW]
theorem put_row {w : World} {r : Nat} (hr : r < w.heap.size) {es : Array MapEntry} (hp : Part es) {i j : Int} {v : Value} (hd : rowD i j v) (hf : fresh es i j) (c : Nat) :
    (Instr.mapUpdate 72 (.map (some r)) (pr i j) v).run Tryd.prog (mapW w r es c) = .ok () (mapW w r (es.push ⟨pr i j, v, c⟩) (c + 1)) := by
  obtain ⟨l, hl⟩ := pr_key (rowD_in hd).1 (rowD_in hd).2
  rw [map_put_new qu_law Tryd.underlying72 (mapW_at hr es c) hl hp.keys hf v, mapW_set]
theorem full_of {es : Array MapEntry} (h : Part es) (h1 : ¬ fresh es 7 1) (h2 : ¬ fresh es 8 2) (h3 : ¬ fresh es 8 3) (h4 : ¬ fresh es 8 10) : Full es := by
  refine ⟨h, ?_⟩
  have ex : ∀ i j, ¬ fresh es i j → ∃ e ∈ es.toList, e.key = pr i j := fun i j hn => Classical.byContradiction fun hx => hn fun e he hk => hx ⟨e, he, hk⟩
  rintro i j v (⟨rfl, rfl, _⟩ | ⟨rfl, rfl, _⟩ | ⟨rfl, rfl, _⟩ | ⟨rfl, rfl, _⟩)
  · exact ex _ _ h1
  · exact ex _ _ h2
  · exact ex _ _ h3
  · exact ex _ _ h4

def es0 : Array MapEntry := #[]
def psh (es : Array MapEntry) (i j : Int) (v : Value) (c : Nat) : Array MapEntry := es.push ⟨pr i j, v, c⟩
def MW (w : World) (es : Array MapEntry) (c : Nat) : World := mapW (w.drew.alloc (.map #[] 0)) w.heap.size es c
theorem set_self (w : World) : ({ (w.alloc (.map #[] 0)) with heap := (w.alloc (.map #[] 0)).heap.setIfInBounds w.heap.size (.map #[] 0) } : World) = w.alloc (.map #[] 0) := by
  have h : (w.alloc (.map #[] 0)).heap = w.heap.push (.map #[] 0) := rfl
  have h2 : (w.alloc (.map #[] 0)).heap.setIfInBounds w.heap.size (.map #[] 0) = (w.alloc (.map #[] 0)).heap := by
    rw [h]
    apply Array.ext_getElem?
    intro i
    rw [Array.getElem?_setIfInBounds, Array.getElem?_push]
    split
    · rename_i hi; subst hi; simp
    · rfl
  rw [h2]
theorem mw_new (w : World) (t : TypeId) : (Instr.makeMap t none).run Tryd.prog w.drew = .ok (.map (some w.heap.size)) (MW w es0 0) := by
  rw [run_makeMap]
  show Result.ok _ _ = Result.ok _ _
  congr 1
  unfold MW mapW es0
  exact (set_self (w.drew)).symm
theorem mw_lt (w : World) : w.heap.size < (w.drew.alloc (.map #[] 0)).heap.size := by
  have h : (w.drew.alloc (.map #[] 0)).heap = w.heap.push (.map #[] 0) := rfl
  rw [h, Array.size_push]; omega
theorem mw_put (w : World) {es : Array MapEntry} {i j : Int} {v : Value} (hd : rowD i j v) (c : Nat) (hp : Part es) (hf : fresh es i j) :
    (Instr.mapUpdate 72 (.map (some w.heap.size)) (pr i j) v).run Tryd.prog (MW w es c) = .ok () (MW w (psh es i j v c) (c + 1)) := put_row (mw_lt w) hp hd hf c
theorem part_psh {es : Array MapEntry} {i j : Int} {v : Value} (c : Nat) (hr : rowD i j v) : Part (psh es i j v c) ↔ Part es :=
  ⟨fun h e he => h e (by unfold psh; rw [Array.toList_push]; exact List.mem_append_left _ he), fun h => h.push c hr⟩
theorem mw_at (w : World) (es : Array MapEntry) (c : Nat) : (MW w es c).heap[w.heap.size]? = some (.map es c) := mapW_at (mw_lt w) es c
theorem mw_below (w : World) (es : Array MapEntry) (c : Nat) : Below w.heap.size w (MW w es c) := by
  have h : (w.drew.alloc (.map #[] 0)).heap = w.heap.push (.map #[] 0) := rfl
  refine ⟨rfl, rfl, rfl, ?_, fun k hk => ?_⟩
  · show w.heap.size ≤ ((w.drew.alloc (.map #[] 0)).heap.setIfInBounds _ _).size
    rw [h, Array.size_setIfInBounds, Array.size_push]; omega
  · show ((w.drew.alloc (.map #[] 0)).heap.setIfInBounds _ _)[k]? = _
    rw [h, Array.getElem?_setIfInBounds, Array.getElem?_push, if_neg (by omega), if_neg (by omega)]
def lookB (i j : Int) : (Value × Value) × Bool := if i = 7 ∧ j = 1 then ((.func (.func 33) #[] #[], .func (.func 34) #[] #[]), true) else if i = 8 ∧ j = 2 then ((.func (.func 35) #[] #[], .func (.func 36) #[] #[]), true) else if i = 8 ∧ j = 3 then ((.func (.func 37) #[] #[], .func (.func 38) #[] #[]), true) else if i = 8 ∧ j = 10 then ((.func (.func 39) #[] #[], .func (.func 40) #[] #[]), true) else ((.nilFunc, .nilFunc), false)
theorem full_look {w : World} {r c : Nat} {es : Array MapEntry} (h : Full es) (hb : w.heap[r]? = some (.map es c)) {i j : Int} (hi : inI i) (hj : inI j) :
    ∃ u v b, lookB i j = ((u, v), b) ∧ u.oneCell' = true ∧ v.oneCell' = true ∧ (Instr.lookup 72 (.map (some r)) (pr i j) true).run Tryd.prog w = .ok (.tuple #[.agg #[u, v], .bool b]) w := by
  unfold lookB
  split
  · rename_i hh; exact ⟨_, _, _, rfl, rfl, rfl, full_some h hb (.inl ⟨hh.1, hh.2, rfl⟩)⟩
  · split
    · rename_i hh; exact ⟨_, _, _, rfl, rfl, rfl, full_some h hb (.inr (.inl ⟨hh.1, hh.2, rfl⟩))⟩
    · split
      · rename_i hh; exact ⟨_, _, _, rfl, rfl, rfl, full_some h hb (.inr (.inr (.inl ⟨hh.1, hh.2, rfl⟩)))⟩
      · split
        · rename_i hh; exact ⟨_, _, _, rfl, rfl, rfl, full_some h hb (.inr (.inr (.inr ⟨hh.1, hh.2, rfl⟩)))⟩
        · rename_i h1 h2 h3 h4
          refine ⟨_, _, _, rfl, rfl, rfl, full_none h hb hi hj fun v hr => ?_⟩
          rcases hr with ⟨a, b, _⟩ | ⟨a, b, _⟩ | ⟨a, b, _⟩ | ⟨a, b, _⟩
          · exact h1 ⟨a, b⟩
          · exact h2 ⟨a, b⟩
          · exact h3 ⟨a, b⟩
          · exact h4 ⟨a, b⟩
def deedB (m : Mc) : (Value × Value) × Bool := if nameL m.name.data.toList = true ∧ ¬ (m.kind = 7 ∧ m.key = ⟨#[]⟩) then lookB m.kind m.phase else ((.nilFunc, .nilFunc), false)
set_option maxHeartbeats 8000000
theorem deed_any (kind : Int) (name : ByteArray) (n : Int) (val key : ByteArray) (lease phase tok rev err : Int) (w : World) (hi : inI kind) (hj : inI phase) (hn : name.size ≤ maxLen) :
    Calls Tryd.prog 20 #[(⟨kind, name, n, val, key, lease, phase, tok, rev, err⟩ : Mc).agg] w fun e w' =>
      e = .returned (.tuple #[.agg #[(deedB ⟨kind, name, n, val, key, lease, phase, tok, rev, err⟩).1.1, (deedB ⟨kind, name, n, val, key, lease, phase, tok, rev, err⟩).1.2], .bool (deedB ⟨kind, name, n, val, key, lease, phase, tok, rev, err⟩).2]) ∧ Below w.heap.size w w' := by
  generalize hdeed : deedB ⟨kind, name, n, val, key, lease, phase, tok, rev, err⟩ = dB
  have HD := Lib.hid hdeed; clear hdeed
  have OY0 := Lib.hid ((own_new w (mcc ⟨kind, name, n, val, key, lease, phase, tok, rev, err⟩) 24).below (new1 (w.alloc (.cells (mcc ⟨kind, name, n, val, key, lease, phase, tok, rev, err⟩) 24)) (.cells #[.nilFunc, .nilFunc] 55)))
  have OR0 := Lib.hid (own_new2 w (.cells (mcc ⟨kind, name, n, val, key, lease, phase, tok, rev, err⟩) 24) #[.nilFunc, .nilFunc] 55)
  have BB0 := Lib.hid (then_ (new1 w (.cells (mcc ⟨kind, name, n, val, key, lease, phase, tok, rev, err⟩) 24)) (new1 (w.alloc (.cells (mcc ⟨kind, name, n, val, key, lease, phase, tok, rev, err⟩) 24)) (.cells #[.nilFunc, .nilFunc] 55)))
  go_enter Tryd.func20, Tryd.ntmps20
  go_wp2_with fail
  obtain ⟨w2, hw2⟩ : ∃ w2, w2 = ((w.alloc (.cells (mcc ⟨kind, name, n, val, key, lease, phase, tok, rev, err⟩) 24)).alloc (.cells #[.nilFunc, .nilFunc] 55)) := ⟨_, rfl⟩
  rw [← hw2] at OY0 OR0 BB0 ⊢
  have hs2 : w2.heap.size = w.heap.size + 1 + 1 := by rw [hw2]; simp
  clear hw2
  refine Code.wp_mono (Q := fun e a' w' => ∃ es, e = .normal ∧ Full es ∧ w' = MW w2 es 4 ∧ a' = ⟨#[(⟨kind, name, n, val, key, lease, phase, tok, rev, err⟩ : Mc).agg, .pointer (some ⟨w.heap.size, 0, none⟩), .pointer (some ⟨w.heap.size + 1, 0, none⟩), .bool false, .map (some w2.heap.size), undef, undef, .map (some w2.heap.size), .agg #[.int .i64 7, .int .i64 1], dd 33 34, .agg #[.int .i64 8, .int .i64 2], dd 35 36, .agg #[.int .i64 8, .int .i64 3], dd 37 38, .agg #[.int .i64 8, .int .i64 10], dd 39 40, .map (some w2.heap.size), undef, undef, undef, undef, undef, undef, undef, undef, undef, undef, undef, undef, undef, undef, undef, undef, undef, undef, undef, undef, undef, undef, undef, undef, undef, undef, undef], []⟩) (fun e a' w' hh => ?_) ?_
  · obtain ⟨es, rfl, hF, rfl, rfl⟩ := hh
    have hat := mw_at w2 es 4
    have mb := mw_below w2 es 4
    obtain ⟨w3, hw3⟩ : ∃ w3, w3 = MW w2 es 4 := ⟨_, rfl⟩
    rw [← hw3] at hat mb ⊢
    clear hw3
    have OY1 := Lib.hid (OY0.out.below mb)
    have OR1 := Lib.hid (OR0.out.below mb)
    have BB1 := Lib.hid (then_ BB0.out mb)
    simp only [hs2] at hat ⊢
    have HAT := Lib.hid hat
    clear hat mb hs2 OY0 OR0 BB0
    have x1 := OY1.out.cell 1 (.string name) rfl
    cases hm : nameL name.data.toList with
    | false =>
      have HV := Lib.hid (show deedB ⟨kind, name, n, val, key, lease, phase, tok, rev, err⟩ = ((.nilFunc, .nilFunc), false) by unfold deedB; rw [hm]; rfl)
      have c1 := name_no name w3 hn hm
      clear hm
      go_wp2_with fail
      refine c1.mono ?_; rintro e w4 ⟨rfl, hb⟩
      have OY2 := Lib.hid (OY1.out.below hb)
      have OR2 := Lib.hid (OR1.out.below hb)
      have BF := Lib.hid (then_ BB1.out hb)
      have HAT2 := Lib.hid ((hb.block _ (by have := HAT.out; rcases Nat.lt_or_ge (w.heap.size + 1 + 1) w3.heap.size with h | h; exact h; rw [Array.getElem?_eq_none h] at this; cases this)).trans HAT.out)
      clear hb x1 HAT OY1 OR1 BB1 c1
      have x0 := OY2.out.cell 0 (.int .i64 kind) rfl
      have x4 := OY2.out.cell 4 (.string key) rfl
      have x6 := OY2.out.cell 6 (.int .i64 phase) rfl
      go_wp2_with (refine wpList_store_row rfl 55 _ _ rfl _ _ rfl rfl 55 _ (OR2.out).ex (by kernel_rfl) rfl (by simp [Value.oneCell']) ?_)
      exact bodyPost_ret (v := .tuple #[.agg #[.nilFunc, .nilFunc], .bool false]) (results_row1 Tryd.results20 _ _ (w.heap.size + 1) 55 _ _ rfl ((OR2.out).row _).ex Tryd.underlying55 rfl (by kernel_rfl)) rfl ⟨by rw [← HD.out, HV.out], below_setRow BF.out (by omega) _⟩
    | true =>
      have c1 := name_yes name w3 hn hm
      have HM := Lib.hid hm
      clear hm
      go_wp2_with fail
      refine c1.mono ?_; rintro e w4 ⟨rfl, hb⟩
      have OY2 := Lib.hid (OY1.out.below hb)
      have OR2 := Lib.hid (OR1.out.below hb)
      have BF := Lib.hid (then_ BB1.out hb)
      have HAT2 := Lib.hid ((hb.block _ (by have := HAT.out; rcases Nat.lt_or_ge (w.heap.size + 1 + 1) w3.heap.size with h | h; exact h; rw [Array.getElem?_eq_none h] at this; cases this)).trans HAT.out)
      clear hb x1 HAT OY1 OR1 BB1 c1
      have x0 := OY2.out.cell 0 (.int .i64 kind) rfl
      have x4 := OY2.out.cell 4 (.string key) rfl
      have x6 := OY2.out.cell 6 (.int .i64 phase) rfl
      have OR3 := Lib.hid (OR2.out.alloc (.cells #[.nilFunc, .nilFunc] 55))
      have ON3 := Lib.hid (own_new w4 #[.nilFunc, .nilFunc] 55)
      by_cases hk : kind = 7 ∧ key = ⟨#[]⟩
      · obtain ⟨rfl, rfl⟩ := hk
        have HV := Lib.hid (show deedB ⟨7, name, n, val, ⟨#[]⟩, lease, phase, tok, rev, err⟩ = ((.nilFunc, .nilFunc), false) by unfold deedB; rw [if_neg (fun h => h.2 ⟨rfl, rfl⟩)])
        go_wp2_with (refine wpList_store_row rfl 55 _ _ rfl _ _ rfl rfl 55 _ (OR2.out).ex (by kernel_rfl) rfl (by simp [Value.oneCell']) ?_)
        exact bodyPost_ret (v := .tuple #[.agg #[.nilFunc, .nilFunc], .bool false]) (results_row1 Tryd.results20 _ _ (w.heap.size + 1) 55 _ _ rfl ((OR2.out).row _).ex Tryd.underlying55 rfl (by kernel_rfl)) rfl ⟨by rw [← HD.out, HV.out], below_setRow BF.out (by omega) _⟩
      · have HV := Lib.hid (show deedB ⟨kind, name, n, val, key, lease, phase, tok, rev, err⟩ = lookB kind phase by unfold deedB; rw [if_pos ⟨HM.out, hk⟩])
        by_cases h7 : kind = 7
        · have h9 : ¬ key = ⟨#[]⟩ := fun h => hk ⟨h7, h⟩
          have h8 : key.toList.isEmpty = false := str_full fun h => h9 (by rcases key with ⟨⟨l⟩⟩; cases l with | nil => rfl | cons _ _ => simp [ByteArray.size] at h)
          clear hk
          subst h7
          obtain ⟨u, v, b, hl, uo, vo, hrun⟩ := full_look hF HAT2.out hi hj
          dsimp only [pr] at hrun
          have HL := Lib.hid hl
          clear hl
          have ON4 := Lib.hid (ON3.out.row #[u, v])
          have OR4 := Lib.hid (OR3.out.row_off (b := w4.heap.size) (by have := OR2.out.lt; omega) #[u, v])
          have B4 := Lib.hid (below_setRow (BF.out.alloc BF.out.size (.cells #[.nilFunc, .nilFunc] 55)) (g := w4.heap.size) BF.out.size #[u, v])
          have z0 := ON4.out.cell 0 u rfl
          have z1 := ON4.out.cell 1 v rfl
          go_wp2_with (first
            | refine wpList_store_row rfl 55 _ _ rfl _ _ rfl rfl 55 _ (ON3.out).ex (by kernel_rfl) rfl (by simp [uo, vo]) ?_
            | refine wpList_store_row rfl 55 _ _ rfl _ _ rfl rfl 55 _ (OR4.out).ex (by kernel_rfl) rfl (by simp [uo, vo]) ?_)
          exact bodyPost_ret (v := .tuple #[.agg #[u, v], .bool b]) (results_row1 Tryd.results20 _ _ (w.heap.size + 1) 55 _ _ rfl ((OR4.out).row _).ex Tryd.underlying55 rfl (by kernel_rfl)) rfl ⟨by rw [← HD.out, HV.out, HL.out], below_setRow B4.out (by omega) _⟩
        · clear hk
          obtain ⟨u, v, b, hl, uo, vo, hrun⟩ := full_look hF HAT2.out hi hj
          dsimp only [pr] at hrun
          have HL := Lib.hid hl
          clear hl
          have ON4 := Lib.hid (ON3.out.row #[u, v])
          have OR4 := Lib.hid (OR3.out.row_off (b := w4.heap.size) (by have := OR2.out.lt; omega) #[u, v])
          have B4 := Lib.hid (below_setRow (BF.out.alloc BF.out.size (.cells #[.nilFunc, .nilFunc] 55)) (g := w4.heap.size) BF.out.size #[u, v])
          have z0 := ON4.out.cell 0 u rfl
          have z1 := ON4.out.cell 1 v rfl
          go_wp2_with (first
            | refine wpList_store_row rfl 55 _ _ rfl _ _ rfl rfl 55 _ (ON3.out).ex (by kernel_rfl) rfl (by simp [uo, vo]) ?_
            | refine wpList_store_row rfl 55 _ _ rfl _ _ rfl rfl 55 _ (OR4.out).ex (by kernel_rfl) rfl (by simp [uo, vo]) ?_)
          exact bodyPost_ret (v := .tuple #[.agg #[u, v], .bool b]) (results_row1 Tryd.results20 _ _ (w.heap.size + 1) 55 _ _ rfl ((OR4.out).row _).ex Tryd.underlying55 rfl (by kernel_rfl)) rfl ⟨by rw [← HD.out, HV.out, HL.out], below_setRow B4.out (by omega) _⟩
  · have hmk := mw_new w2 72
    have h1 : ∀ es c, Part es → fresh es 7 1 → _ := fun es c hp hf => mw_put w2 (v := dd 33 34) (.inl ⟨rfl, rfl, rfl⟩) c hp hf
    have h2 : ∀ es c, Part es → fresh es 8 2 → _ := fun es c hp hf => mw_put w2 (v := dd 35 36) (.inr (.inl ⟨rfl, rfl, rfl⟩)) c hp hf
    have h3 : ∀ es c, Part es → fresh es 8 3 → _ := fun es c hp hf => mw_put w2 (v := dd 37 38) (.inr (.inr (.inl ⟨rfl, rfl, rfl⟩))) c hp hf
    have h4 : ∀ es c, Part es → fresh es 8 10 → _ := fun es c hp hf => mw_put w2 (v := dd 39 40) (.inr (.inr (.inr ⟨rfl, rfl, rfl⟩))) c hp hf
    have p0 : Part es0 := Part.nil
    have p1 : ∀ es c, Part (psh es 7 1 (dd 33 34) c) ↔ Part es := fun es c => part_psh c (.inl ⟨rfl, rfl, rfl⟩)
    have p2 : ∀ es c, Part (psh es 8 2 (dd 35 36) c) ↔ Part es := fun es c => part_psh c (.inr (.inl ⟨rfl, rfl, rfl⟩))
    have p3 : ∀ es c, Part (psh es 8 3 (dd 37 38) c) ↔ Part es := fun es c => part_psh c (.inr (.inr (.inl ⟨rfl, rfl, rfl⟩)))
    have p4 : ∀ es c, Part (psh es 8 10 (dd 39 40) c) ↔ Part es := fun es c => part_psh c (.inr (.inr (.inr ⟨rfl, rfl, rfl⟩)))
    have f0 : ∀ i j, fresh es0 i j := fresh_nil
    have f1 : ∀ es a b v c i j, fresh (psh es a b v c) i j ↔ fresh es i j ∧ ¬ (a = i ∧ b = j) := fun es a b v c i j => fresh_push es a b v c i j
    dsimp only [pr, dd] at hmk h1 h2 h3 h4 p1 p2 p3 p4
    simp only [hs2] at hmk h1 h2 h3 h4
    go_region_held3 (fun _ => True) (trivial) (fail)
    all_goals exact ⟨_, rfl, full_of (by simp only [p1, p2, p3, p4]; exact p0) (by simp [f1]) (by simp [f1]) (by simp [f1]) (by simp [f1]), rfl, by rw [hs2]⟩
end Go.Proofs.YtcaapnjipjemiaaDoor.P
