/- Texts of this seat in one: MvLit, WaEx, WaLive, WaUse. -/
import Derived.Test.YtkikfaeigoeogaaMgMd
import Derived.Test.YtkikfaeigoeogaaMvAt
import Derived.Test.YtkikfaeigoeogaaMvApply
import Derived.Test.YtkikfaeigoeogaaMvApart
import Derived.Test.YtkikfaeigoeogaaMgWs
import Derived.Test.YtkikfaeigoeogaaWaView
import Derived.Test.YtkikfaeigoeogaaMvRefMay
/- Layer 5: what all examples share: things that are to be done, as a literal; what a call of Apply, At, Shrink comes to. -/
namespace Go.Proofs.Ytkikfaeigoeogaa.P
open Go.RowKit Go.Sort
set_option maxHeartbeats 2000000
set_option linter.unusedVariables false
set_option linter.unusedSimpArgs false
set_option maxRecDepth 100000

theorem apply_eq {s : St} {ms : List Mu} {es : List Ev} {l : List KV} (h1 : mayDoB ms = true) (h2 : comeL (s.rev + 1) (nowL s) ms = (es, l, true)) (h3 : es ≠ []) (h4 : s.rev ≠ 1099511627774) (h5 : s.log.length + es.length ≤ 60) :
    applyE s ms = 0 ∧ applyS s ms = ⟨s.rev + 1, s.low, s.base, s.log ++ es⟩ ∧ applyEv s ms = es := by
  have he : eventsOf s ms = es := by unfold eventsOf; rw [h2]
  have hE : applyE s ms = 0 := by
    unfold applyE
    rw [if_neg (by rw [h1]; simp), he, if_neg h3, if_neg]
    rw [h2]
    rintro (h | h | h)
    · cases h
    · exact h4 h
    · omega
  have ha : applied s ms := ⟨hE, by rw [he]; exact h3⟩
  refine ⟨hE, ?_, ?_⟩
  · unfold applyS; rw [if_pos ha]; unfold doneS; rw [he]
  · unfold applyEv; rw [if_pos ha, he]
theorem apply_nil {s : St} {ms : List Mu} {l : List KV} {b : Bool} (h1 : mayDoB ms = true) (h2 : comeL (s.rev + 1) (nowL s) ms = ([], l, b)) : applyE s ms = 0 ∧ applyS s ms = s ∧ applyEv s ms = [] := by
  have he : eventsOf s ms = [] := by unfold eventsOf; rw [h2]
  have hE : applyE s ms = 0 := by unfold applyE; rw [if_neg (by rw [h1]; simp), if_pos he]
  have ha : ¬ applied s ms := fun h => h.2 he
  exact ⟨hE, (apply_not ha).1, (apply_not ha).2⟩
theorem apply_bad {s : St} {ms : List Mu} (h1 : mayDoB ms = false) : applyE s ms = 1 ∧ applyS s ms = s ∧ applyEv s ms = [] := by
  have hE : applyE s ms = 1 := by unfold applyE; rw [if_pos h1]
  have ha : ¬ applied s ms := fun h => by have := h.1; rw [hE] at this; cases this
  exact ⟨hE, (apply_not ha).1, (apply_not ha).2⟩
def ApEnd (s' : St) (es : List Ev) (x : Int) (w : World) (e : Ending) (w' : World) : Prop :=
  ∃ A n c B m d E en ec, e = .returned (.tuple #[s'.agg A n c B m d, .slice E en ec, .int .i64 x]) ∧ StAt w' s' A n c B m d ∧ Evs w' E en ec es ∧ Below w.heap.size w w'
theorem ap_of {s s' : St} {ms : List Mu} {es : List Ev} {x : Int} (h : applyE s ms = x ∧ applyS s ms = s' ∧ applyEv s ms = es) {w : World} {e : Ending} {w' : World} (k : ApplyEnd s ms w e w') : ApEnd s' es x w e w' := by
  obtain ⟨h1, h2, h3⟩ := h
  subst h1 h2 h3
  exact k
theorem mus_lit (w : World) (l : List Mu) (cs : Array Value) (hcs : cs.toList = l.flatMap fun x => [.bool x.gone, .string x.key, .string x.val, .int .i64 x.lea]) (ok : ∀ x ∈ l, x.ok) (hn : l.length ≤ 1000) : Mus (w.alloc (.cells cs 60)) (some ⟨w.heap.size, 0, none⟩) l.length l.length l := by
  have hat : ∀ (l : List Mu) (i j : Nat) (x : Mu), l[i]? = some x → j < 4 → (l.flatMap fun x => [Value.bool x.gone, .string x.key, .string x.val, .int .i64 x.lea])[i * 4 + j]? = ([Value.bool x.gone, .string x.key, .string x.val, .int .i64 x.lea] : List Value)[j]? := by
    intro l
    induction l with
    | nil => intro i j x h; simp at h
    | cons y r ih =>
      intro i j x h hj
      cases i with
      | zero =>
        simp at h; subst h
        rw [List.flatMap_cons, Nat.zero_mul, Nat.zero_add, List.getElem?_append_left (by simpa using hj)]
      | succ i =>
        rw [List.flatMap_cons, List.getElem?_append_right (by simp; omega)]
        have := ih i j x (by simpa using h) hj
        rw [← this]; congr 1; simp; omega
  have e0 : ∀ k, (⟨w.heap.size, 0, none⟩ : Addr).add (k * 4) = ⟨w.heap.size, k * 4, none⟩ := fun k => by
    unfold Addr.add; split
    · rename_i h; rw [h]
    · simp
  refine ⟨rfl, Nat.le_refl _, by unfold maxLen; omega, ok, fun _ => ⟨_, rfl, by simp, fun i x hx => ?_⟩, fun h => by cases h⟩
  have hc : ∀ j, j < 4 → (w.alloc (.cells cs 60)).cell? ⟨w.heap.size, i * 4 + j, none⟩ = ([Value.bool x.gone, .string x.key, .string x.val, .int .i64 x.lea] : List Value)[j]? := fun j hj => by
    have e := hat l i j x hx hj
    rw [← hcs, Array.getElem?_toList] at e
    rw [← e]
    cases h : cs[i * 4 + j]? with
    | some v => exact (own_new w cs 60).cell _ v h
    | none => rw [h, List.getElem?_eq_getElem (by simpa using hj)] at e; cases e
  rw [e0]
  exact ⟨hc 0 (by omega), hc 1 (by omega), hc 2 (by omega), hc 3 (by omega)⟩
theorem mu_small {x : Mu} (h1 : x.key.size ≤ 1000) (h2 : x.val.size ≤ 1000) (h3 : inI x.lea) : x.ok := ⟨by unfold maxLen; omega, by unfold maxLen; omega, h3⟩
theorem size_alloc (w : World) (o : Obj) : w.heap.size + 1 = (w.alloc o).heap.size := by
  show _ = (w.heap.push _).size
  rw [Array.size_push]
def AtTo (l : List KV) (x : Int) (w : World) (e : Ending) (w' : World) : Prop := ∃ A n c, e = .returned (.tuple #[.slice A n c, .int .i64 x]) ∧ KVs w' A n c l ∧ Below w.heap.size w w'
theorem at_of {s : St} {rev : Int} {l : List KV} {x : Int} (h : atL s rev = l ∧ atE s rev = x) {w : World} {e : Ending} {w' : World} (k : AtEnd s rev w e w') : AtTo l x w e w' := by
  obtain ⟨h1, h2⟩ := h; subst h1 h2; exact k
theorem st_small2 {w : World} {s : St} {A : Option Addr} {n c : Nat} {B : Option Addr} {m d : Nat} (h : StAt w s A n c B m d) (h1 : s.base.length ≤ 100) (h2 : s.log.length ≤ 100) : n + m ≤ 90000 := by have := h.kv.len; have := h.ev.len; omega
def ShTo (s' : St) (x : Int) (w : World) (e : Ending) (w' : World) : Prop := ∃ A n c B m d, e = .returned (.tuple #[s'.agg A n c B m d, .int .i64 x]) ∧ StAt w' s' A n c B m d ∧ Below w.heap.size w w'
end Go.Proofs.Ytkikfaeigoeogaa.P
/- Layer 7's examples, plain. GENERATED by wip/gen/walive.py. -/
namespace Go.Proofs.Ytkikfaeigoeogaa.P
open Go.RowKit
set_option maxHeartbeats 2000000
set_option linter.unusedVariables false
set_option linter.unusedSimpArgs false
set_option maxRecDepth 100000
abbrev wtA : ByteArray := ⟨#[97]⟩
abbrev wtB : ByteArray := ⟨#[98]⟩
abbrev wtC : ByteArray := ⟨#[99]⟩
abbrev wtAB : ByteArray := ⟨#[97, 98]⟩
abbrev wtN : ByteArray := ⟨#[]⟩
abbrev wk1 : KV := ⟨wtA, wtN, 1, 1, 1, 0⟩
abbrev wk2 : KV := ⟨wtB, wtN, 1, 1, 1, 0⟩
abbrev wk3 : KV := ⟨wtA, wtN, 1, 2, 2, 0⟩
abbrev wk4 : KV := ⟨wtAB, wtN, 3, 3, 1, 0⟩
abbrev wk5 : KV := ⟨wtC, wtN, 3, 3, 1, 0⟩
abbrev we1 : Ev := ⟨1, false, wk1⟩
abbrev we2 : Ev := ⟨1, false, wk2⟩
abbrev we3 : Ev := ⟨2, false, wk3⟩
abbrev we4 : Ev := ⟨2, true, wk2⟩
abbrev we5 : Ev := ⟨3, false, wk4⟩
abbrev we6 : Ev := ⟨3, false, wk5⟩
abbrev wX0 : St := ⟨0, 0, [], []⟩
abbrev wX1 : St := ⟨1, 0, [], [we1, we2]⟩
abbrev wX2 : St := ⟨2, 0, [], [we1, we2, we3, we4]⟩
abbrev wX3 : St := ⟨3, 0, [], [we1, we2, we3, we4, we5, we6]⟩
abbrev wX4 : St := ⟨3, 2, [wk3], [we5, we6]⟩
abbrev wN1 : List Mu := [⟨false, wtA, wtN, 0⟩, ⟨false, wtB, wtN, 0⟩]
abbrev wN2 : List Mu := [⟨false, wtA, wtN, 0⟩, ⟨true, wtB, wtN, 0⟩]
abbrev wN3 : List Mu := [⟨false, wtAB, wtN, 0⟩, ⟨false, wtC, wtN, 0⟩]
theorem wm1 : mayDoB wN1 = true := by simp [mayDoB, doTo, fresh, mutB, checkL, madeL, inB, comeL, stepC, evOf, laid, findL, afterE, layL, takeL, tlt, teq, ByteArray.toList_eq, Op.bytesLess, ByteArray.size, nowL, foldL, stepL, above, shrinkS, keptE, atL, atE, vwL, fltS, begins]
theorem wm2 : mayDoB wN2 = true := by simp [mayDoB, doTo, fresh, mutB, checkL, madeL, inB, comeL, stepC, evOf, laid, findL, afterE, layL, takeL, tlt, teq, ByteArray.toList_eq, Op.bytesLess, ByteArray.size, nowL, foldL, stepL, above, shrinkS, keptE, atL, atE, vwL, fltS, begins]
theorem wm3 : mayDoB wN3 = true := by simp [mayDoB, doTo, fresh, mutB, checkL, madeL, inB, comeL, stepC, evOf, laid, findL, afterE, layL, takeL, tlt, teq, ByteArray.toList_eq, Op.bytesLess, ByteArray.size, nowL, foldL, stepL, above, shrinkS, keptE, atL, atE, vwL, fltS, begins]
theorem ww1 : nowL wX1 = [wk1, wk2] := by simp [mayDoB, doTo, fresh, mutB, checkL, madeL, inB, comeL, stepC, evOf, laid, findL, afterE, layL, takeL, tlt, teq, ByteArray.toList_eq, Op.bytesLess, ByteArray.size, nowL, foldL, stepL, above, shrinkS, keptE, atL, atE, vwL, fltS, begins]
theorem ww2 : nowL wX2 = [wk3] := by simp [mayDoB, doTo, fresh, mutB, checkL, madeL, inB, comeL, stepC, evOf, laid, findL, afterE, layL, takeL, tlt, teq, ByteArray.toList_eq, Op.bytesLess, ByteArray.size, nowL, foldL, stepL, above, shrinkS, keptE, atL, atE, vwL, fltS, begins]
theorem wc1 : comeL 1 [] wN1 = ([we1, we2], [wk1, wk2], true) := by simp [mayDoB, doTo, fresh, mutB, checkL, madeL, inB, comeL, stepC, evOf, laid, findL, afterE, layL, takeL, tlt, teq, ByteArray.toList_eq, Op.bytesLess, ByteArray.size, nowL, foldL, stepL, above, shrinkS, keptE, atL, atE, vwL, fltS, begins]
theorem wc2 : comeL 2 [wk1, wk2] wN2 = ([we3, we4], [wk3], true) := by simp [mayDoB, doTo, fresh, mutB, checkL, madeL, inB, comeL, stepC, evOf, laid, findL, afterE, layL, takeL, tlt, teq, ByteArray.toList_eq, Op.bytesLess, ByteArray.size, nowL, foldL, stepL, above, shrinkS, keptE, atL, atE, vwL, fltS, begins]
theorem wc3 : comeL 3 [wk3] wN3 = ([we5, we6], [wk3, wk4, wk5], true) := by simp [mayDoB, doTo, fresh, mutB, checkL, madeL, inB, comeL, stepC, evOf, laid, findL, afterE, layL, takeL, tlt, teq, ByteArray.toList_eq, Op.bytesLess, ByteArray.size, nowL, foldL, stepL, above, shrinkS, keptE, atL, atE, vwL, fltS, begins]
theorem wa1 : applyE wX0 wN1 = 0 ∧ applyS wX0 wN1 = wX1 ∧ applyEv wX0 wN1 = [we1, we2] := apply_eq wm1 wc1 (by simp) (by decide) (by decide)
theorem wa2 : applyE wX1 wN2 = 0 ∧ applyS wX1 wN2 = wX2 ∧ applyEv wX1 wN2 = [we3, we4] := apply_eq wm2 (by rw [ww1]; exact wc2) (by simp) (by decide) (by decide)
theorem wa3 : applyE wX2 wN3 = 0 ∧ applyS wX2 wN3 = wX3 ∧ applyEv wX2 wN3 = [we5, we6] := apply_eq wm3 (by rw [ww2]; exact wc3) (by simp) (by decide) (by decide)
theorem wx0may : MaySt wX0 := may_st.1 (by simp [mayB, mayP, rises, mayLogB])
theorem wx1may : MaySt wX1 := by have := apply_may wx0may wN1; rwa [wa1.2.1] at this
theorem wx2may : MaySt wX2 := by have := apply_may wx1may wN2; rwa [wa2.2.1] at this
theorem wx3may : MaySt wX3 := by have := apply_may wx2may wN3; rwa [wa3.2.1] at this
theorem ws3 : shrunk wX3 2 = wX4 ∧ keptE wX3 2 = 0 := by
  have h : keptE wX3 2 = 0 := by simp [mayDoB, doTo, fresh, mutB, checkL, madeL, inB, comeL, stepC, evOf, laid, findL, afterE, layL, takeL, tlt, teq, ByteArray.toList_eq, Op.bytesLess, ByteArray.size, nowL, foldL, stepL, above, shrinkS, keptE, atL, atE, vwL, fltS, begins]
  refine ⟨?_, h⟩
  unfold shrunk; rw [if_pos h]
  show (⟨3, 2, foldL [] [we1, we2, we3, we4, we5, we6] 2, above 2 [we1, we2, we3, we4, we5, we6]⟩ : St) = wX4
  have e1 : foldL [] [we1, we2, we3, we4, we5, we6] 2 = [wk3] := by simp [mayDoB, doTo, fresh, mutB, checkL, madeL, inB, comeL, stepC, evOf, laid, findL, afterE, layL, takeL, tlt, teq, ByteArray.toList_eq, Op.bytesLess, ByteArray.size, nowL, foldL, stepL, above, shrinkS, keptE, atL, atE, vwL, fltS, begins]
  have e2 : above 2 [we1, we2, we3, we4, we5, we6] = [we5, we6] := by simp [mayDoB, doTo, fresh, mutB, checkL, madeL, inB, comeL, stepC, evOf, laid, findL, afterE, layL, takeL, tlt, teq, ByteArray.toList_eq, Op.bytesLess, ByteArray.size, nowL, foldL, stepL, above, shrinkS, keptE, atL, atE, vwL, fltS, begins]
  rw [e1, e2]
theorem wx4may : MaySt wX4 := by
  have h := shrink_may wx3may (rev := 2) ws3.2
  have e : shrinkS wX3 2 = wX4 := by have k := ws3.1; unfold shrunk at k; rwa [if_pos ws3.2] at k
  rwa [e] at h
theorem wf1 : fltS wX3 wtN 1 = [we1, we2, we3, we4, we5, we6] := by simp [mayDoB, doTo, fresh, mutB, checkL, madeL, inB, comeL, stepC, evOf, laid, findL, afterE, layL, takeL, tlt, teq, ByteArray.toList_eq, Op.bytesLess, ByteArray.size, nowL, foldL, stepL, above, shrinkS, keptE, atL, atE, vwL, fltS, begins]
theorem wf2 : fltS wX3 wtA 2 = [we3, we5] := by simp [mayDoB, doTo, fresh, mutB, checkL, madeL, inB, comeL, stepC, evOf, laid, findL, afterE, layL, takeL, tlt, teq, ByteArray.toList_eq, Op.bytesLess, ByteArray.size, nowL, foldL, stepL, above, shrinkS, keptE, atL, atE, vwL, fltS, begins]
theorem wf3 : fltS wX3 wtN 2 = [we3, we4, we5, we6] := by simp [mayDoB, doTo, fresh, mutB, checkL, madeL, inB, comeL, stepC, evOf, laid, findL, afterE, layL, takeL, tlt, teq, ByteArray.toList_eq, Op.bytesLess, ByteArray.size, nowL, foldL, stepL, above, shrinkS, keptE, atL, atE, vwL, fltS, begins]
theorem wf4 : fltS wX3 wtN 3 = [we5, we6] := by simp [mayDoB, doTo, fresh, mutB, checkL, madeL, inB, comeL, stepC, evOf, laid, findL, afterE, layL, takeL, tlt, teq, ByteArray.toList_eq, Op.bytesLess, ByteArray.size, nowL, foldL, stepL, above, shrinkS, keptE, atL, atE, vwL, fltS, begins]
theorem wq1 : sinceF wX3 wtN 1 5 = ([we1, we2, we3, we4], 3, 0) := by
  unfold sinceF sinceR sinceV; rw [wf1]; simp
theorem wq2 : sinceF wX3 wtA 2 5 = ([we3, we5], 4, 0) := by
  unfold sinceF sinceR sinceV; rw [wf2]; simp
theorem wq3 : sinceF wX3 wtN 1 1 = ([], 0, 4) := by
  unfold sinceF sinceR sinceV; rw [wf1]; simp
theorem wq4 : sinceF wX3 wtN 5 1 = ([], 0, 8) := by
  unfold sinceF; simp
theorem wq5 : sinceF wX3 wtN 1 2 = ([we1, we2], 2, 0) := by
  unfold sinceF sinceR sinceV; rw [wf1]; simp
theorem wq6 : sinceF wX3 wtN 2 2 = ([we3, we4], 3, 0) := by
  unfold sinceF sinceR sinceV; rw [wf3]; simp
theorem wq7 : sinceF wX3 wtN 3 2 = ([we5, we6], 4, 0) := by
  unfold sinceF sinceR sinceV; rw [wf4]; simp
theorem wq8 : sinceF wX4 wtN 2 5 = ([], 0, 9) := by
  unfold sinceF sinceR; simp
theorem wq9 : allF wX3 wtN 1 2 = ([we1, we2, we3, we4, we5, we6], 0) := by
  show allG wX3 wtN 2 5 [] 1 = _
  rw [allG_on wq5 (by decide), allG_on wq6 (by decide), allG_end wq7 (by decide)]; rfl
theorem wv1 : vwL [wk1, wk2] [we3, we5] = [wk3, wk4, wk2] := by simp [mayDoB, doTo, fresh, mutB, checkL, madeL, inB, comeL, stepC, evOf, laid, findL, afterE, layL, takeL, tlt, teq, ByteArray.toList_eq, Op.bytesLess, ByteArray.size, nowL, foldL, stepL, above, shrinkS, keptE, atL, atE, vwL, fltS, begins]
end Go.Proofs.Ytkikfaeigoeogaa.P
/- Layer 7's examples as calls: what each law asks for, too. GENERATED by wip/gen/walive.py. -/
namespace Go.Proofs.Ytkikfaeigoeogaa.P
open Go.RowKit
set_option maxHeartbeats 4000000
set_option linter.unusedVariables false
set_option linter.unusedSimpArgs false
set_option maxRecDepth 100000
theorem wok1 : ∀ x ∈ wN1, x.ok := by intro x hx; simp at hx; rcases hx with rfl | rfl <;> exact mu_small (by decide) (by decide) (by simp [inI])
theorem wok2 : ∀ x ∈ wN2, x.ok := by intro x hx; simp at hx; rcases hx with rfl | rfl <;> exact mu_small (by decide) (by decide) (by simp [inI])
theorem wok3 : ∀ x ∈ wN3, x.ok := by intro x hx; simp at hx; rcases hx with rfl | rfl <;> exact mu_small (by decide) (by decide) (by simp [inI])
theorem wx0_at (w : World) : StAt w wX0 none 0 0 none 0 0 := ⟨KVs.bare _, evs_bare _, by simp [inI], by simp [inI]⟩
theorem wv_1 (w : World) (cs : Array Value) (hcs : cs.toList = wN1.flatMap fun x => [.bool x.gone, .string x.key, .string x.val, .int .i64 x.lea]) : Calls Try.prog 23 #[wX0.agg none 0 0 none 0 0, .slice (some ⟨w.heap.size, 0, none⟩) 2 2] (w.alloc (.cells cs 60)) (ApEnd wX1 [we1, we2] 0 (w.alloc (.cells cs 60))) :=
  (apply_any wX0 none 0 0 none 0 0 _ 2 2 wN1 _ (wx0_at _) (mus_lit w wN1 cs hcs wok1 (by decide)) wx0may).mono fun e w' h => ap_of wa1 h
theorem wv_2 (A : Option Addr) (n c : Nat) (B : Option Addr) (m d : Nat) (w : World) (cs : Array Value) (h : StAt (w.alloc (.cells cs 60)) wX1 A n c B m d) (b : Nat) (hB : b = w.heap.size) (hcs : cs.toList = wN2.flatMap fun x => [.bool x.gone, .string x.key, .string x.val, .int .i64 x.lea]) : Calls Try.prog 23 #[wX1.agg A n c B m d, .slice (some ⟨b, 0, none⟩) 2 2] (w.alloc (.cells cs 60)) (ApEnd wX2 [we3, we4] 0 (w.alloc (.cells cs 60))) := by
  subst hB
  exact (apply_any wX1 A n c B m d _ 2 2 wN2 _ h (mus_lit w wN2 cs hcs wok2 (by decide)) wx1may).mono fun e w' h => ap_of wa2 h
theorem wv_3 (A : Option Addr) (n c : Nat) (B : Option Addr) (m d : Nat) (w : World) (cs : Array Value) (h : StAt (w.alloc (.cells cs 60)) wX2 A n c B m d) (b : Nat) (hB : b = w.heap.size) (hcs : cs.toList = wN3.flatMap fun x => [.bool x.gone, .string x.key, .string x.val, .int .i64 x.lea]) : Calls Try.prog 23 #[wX2.agg A n c B m d, .slice (some ⟨b, 0, none⟩) 2 2] (w.alloc (.cells cs 60)) (ApEnd wX3 [we5, we6] 0 (w.alloc (.cells cs 60))) := by
  subst hB
  exact (apply_any wX2 A n c B m d _ 2 2 wN3 _ h (mus_lit w wN3 cs hcs wok3 (by decide)) wx2may).mono fun e w' h => ap_of wa3 h
def SiTo (l : List Ev) (nx er : Int) (w : World) (e : Ending) (w' : World) : Prop := ∃ B d, e = .returned (.tuple #[.slice B l.length d, .int .i64 nx, .int .i64 er]) ∧ Evs w' B l.length d l ∧ Below w.heap.size w w'
theorem si_of {s : St} {p : ByteArray} {rev most nx er : Int} {l : List Ev} (h : sinceF s p rev most = (l, nx, er)) {w : World} {e : Ending} {w' : World} (k : SinceEnd (sinceF s p rev most) w e w') : SiTo l nx er w e w' := by
  rw [h] at k
  obtain ⟨B, d, he, hr, ok, hb⟩ := k
  exact ⟨B, d, he, ev_of_rows hr ok, hb⟩
theorem wv_s1 (A : Option Addr) (n c : Nat) (B : Option Addr) (m d : Nat) (w : World) (h : StAt w wX3 A n c B m d) : Calls Try.prog 11 #[wX3.agg A n c B m d, .string wtN, .int .i64 1, .int .i64 5] w (SiTo [we1, we2, we3, we4] 3 0 w) :=
  (sincep_any wX3 A n c B m d wtN 1 5 w h wx3may (by decide) (by simp [inI])).mono fun e w' k => si_of wq1 k
theorem wv_s2 (A : Option Addr) (n c : Nat) (B : Option Addr) (m d : Nat) (w : World) (h : StAt w wX3 A n c B m d) : Calls Try.prog 11 #[wX3.agg A n c B m d, .string wtA, .int .i64 2, .int .i64 5] w (SiTo [we3, we5] 4 0 w) :=
  (sincep_any wX3 A n c B m d wtA 2 5 w h wx3may (by decide) (by simp [inI])).mono fun e w' k => si_of wq2 k
theorem wv_s3 (A : Option Addr) (n c : Nat) (B : Option Addr) (m d : Nat) (w : World) (h : StAt w wX3 A n c B m d) : Calls Try.prog 11 #[wX3.agg A n c B m d, .string wtN, .int .i64 1, .int .i64 1] w (SiTo [] 0 4 w) :=
  (sincep_any wX3 A n c B m d wtN 1 1 w h wx3may (by decide) (by simp [inI])).mono fun e w' k => si_of wq3 k
theorem wv_s4 (A : Option Addr) (n c : Nat) (B : Option Addr) (m d : Nat) (w : World) (h : StAt w wX3 A n c B m d) : Calls Try.prog 11 #[wX3.agg A n c B m d, .string wtN, .int .i64 5, .int .i64 1] w (SiTo [] 0 8 w) :=
  (sincep_any wX3 A n c B m d wtN 5 1 w h wx3may (by decide) (by simp [inI])).mono fun e w' k => si_of wq4 k
theorem wv_s5 (A : Option Addr) (n c : Nat) (B : Option Addr) (m d : Nat) (w : World) (h : StAt w wX4 A n c B m d) : Calls Try.prog 11 #[wX4.agg A n c B m d, .string wtN, .int .i64 2, .int .i64 5] w (SiTo [] 0 9 w) :=
  (sincep_any wX4 A n c B m d wtN 2 5 w h wx4may (by decide) (by simp [inI])).mono fun e w' k => si_of wq8 k
theorem wv_a (A : Option Addr) (n c : Nat) (B : Option Addr) (m d : Nat) (w : World) (h : StAt w wX3 A n c B m d) : Calls Try.prog 15 #[wX3.agg A n c B m d, .string wtN, .int .i64 1, .int .i64 2] w fun e w' => ∃ B d, e = .returned (.tuple #[.slice B 6 d, .int .i64 0]) ∧ Below w.heap.size w w' :=
  (allp_any wX3 A n c B m d wtN 1 2 w h wx3may (by decide) (by simp [inI])).mono fun e w' k => by
    obtain ⟨B, d, he, _, _, hb⟩ := k
    rw [wq9] at he
    exact ⟨B, d, he, hb⟩
theorem wv_n (A : Option Addr) (n c : Nat) (B : Option Addr) (m d : Nat) (w : World) (h : StAt w wX1 A n c B m d) : Calls Try.prog 22 #[wX1.agg A n c B m d] w (SomeKVs w [wk1, wk2]) := by
  have := now_any wX1 A n c B m d w h (by have := st_small2 h (by decide) (by decide); omega)
  rwa [ww1] at this
theorem wv_v (A : Option Addr) (n c : Nat) (B : Option Addr) (m d : Nat) (w : World) (h : KVs w A n c [wk1, wk2]) (g : Evs w B m d [we3, we5]) : Calls Try.prog 18 #[.slice A n c, .slice B m d] w (SomeKVs w [wk3, wk4, wk2]) := by
  have := viewp_any A n c [wk1, wk2] B m d [we3, we5] w h g (by have h1 := h.len; have h2 := g.len; simp at h1 h2; omega)
  rwa [wv1] at this
theorem wv_k (A : Option Addr) (n c : Nat) (B : Option Addr) (m d : Nat) (w : World) (h : StAt w wX3 A n c B m d) : Calls Try.prog 24 #[wX3.agg A n c B m d, .int .i64 2] w (ShTo wX4 0 w) := (shrink_any wX3 A n c B m d 2 w h (st_small2 h (by decide) (by decide)) (by simp [inI])).mono fun e w' k => by
  obtain ⟨A, n, c, B, m, d, he, hs, hb⟩ := k
  rw [ws3.1] at he hs; rw [ws3.2] at he
  exact ⟨A, n, c, B, m, d, he, hs, hb⟩
theorem walive_any (w : World) : Calls Try.prog 10 #[] w fun e w' => e = .returned (.bool true) ∧ Below w.heap.size w w' := by
  go_enter Try.func10, Try.ntmps10
  go_wp2_with fail
  refine (new_any _).mono ?_; rintro e w1 ⟨rfl, hb⟩
  have S_1 := Lib.hid hb; clear hb
  have B_2 := Lib.hid (S_1.out)
  clear S_1
  have B_3 := Lib.hid (then_ B_2.out (new1 _ (.cells #[.bool false, .string ⟨#[97]⟩, .string ⟨#[]⟩, .int .i64 0, .bool false, .string ⟨#[98]⟩, .string ⟨#[]⟩, .int .i64 0] 60)))
  clear B_2
  go_wp2_with fail
  refine (wv_1 w1 #[.bool false, .string ⟨#[97]⟩, .string ⟨#[]⟩, .int .i64 0, .bool false, .string ⟨#[98]⟩, .string ⟨#[]⟩, .int .i64 0] rfl).mono ?_; rintro e w2 ⟨A1, n1, c1, B1, m1, d1, E1, en1, ec1, rfl, h1, v1, hb⟩
  obtain rfl : en1 = 2 := v1.len.symm
  have S_4 := Lib.hid hb; clear hb
  have B_5 := Lib.hid (then_ B_3.out S_4.out)
  clear B_3
  clear S_4
  have L1_6 := Lib.hid (h1)
  clear h1 v1
  have L1_7 := Lib.hid (L1_6.out.keep (new1 w2 (.cells #[.int .i64 1, .int .i64 0, .slice A1 n1 c1, .slice B1 m1 d1] 25)))
  have B_8 := Lib.hid (then_ B_5.out (new1 w2 (.cells #[.int .i64 1, .int .i64 0, .slice A1 n1 c1, .slice B1 m1 d1] 25)))
  clear L1_6 B_5
  have R1_9 := Lib.hid (own_new w2 #[.int .i64 1, .int .i64 0, .slice A1 n1 c1, .slice B1 m1 d1] 25)
  have p0 := R1_9.out.cell 0 _ rfl
  have p1 := R1_9.out.cell 1 _ rfl
  have p2 := R1_9.out.cell 2 _ rfl
  have p3 := R1_9.out.cell 3 _ rfl
  have L1_10 := Lib.hid (L1_7.out.keep (new1 _ (.cells #[.bool false, .string ⟨#[97]⟩, .string ⟨#[]⟩, .int .i64 0, .bool true, .string ⟨#[98]⟩, .string ⟨#[]⟩, .int .i64 0] 60)))
  have R1_11 := Lib.hid (R1_9.out.below (new1 _ (.cells #[.bool false, .string ⟨#[97]⟩, .string ⟨#[]⟩, .int .i64 0, .bool true, .string ⟨#[98]⟩, .string ⟨#[]⟩, .int .i64 0] 60)))
  have B_12 := Lib.hid (then_ B_8.out (new1 _ (.cells #[.bool false, .string ⟨#[97]⟩, .string ⟨#[]⟩, .int .i64 0, .bool true, .string ⟨#[98]⟩, .string ⟨#[]⟩, .int .i64 0] 60)))
  clear L1_7 R1_9 B_8
  go_wp2_with fail
  refine (wv_2 A1 n1 c1 B1 m1 d1 _ #[.bool false, .string ⟨#[97]⟩, .string ⟨#[]⟩, .int .i64 0, .bool true, .string ⟨#[98]⟩, .string ⟨#[]⟩, .int .i64 0] L1_10.out _ (size_alloc w2 _) rfl).mono ?_; rintro e w3 ⟨A2, n2, c2, B2, m2, d2, E2, en2, ec2, rfl, h2, v2, hb⟩
  obtain rfl : en2 = 2 := v2.len.symm
  have S_13 := Lib.hid hb; clear hb
  have L1_14 := Lib.hid (L1_10.out.keep S_13.out)
  have R1_15 := Lib.hid (R1_11.out.below S_13.out)
  have B_16 := Lib.hid (then_ B_12.out S_13.out)
  clear L1_10 R1_11 B_12
  clear S_13
  have L2_17 := Lib.hid (h2)
  clear h2 v2
  clear p0 p1 p2 p3
  have L1_18 := Lib.hid (L1_14.out.keep (new1 w3 (.cells #[.int .i64 2, .int .i64 0, .slice A2 n2 c2, .slice B2 m2 d2] 25)))
  have R1_19 := Lib.hid (R1_15.out.below (new1 w3 (.cells #[.int .i64 2, .int .i64 0, .slice A2 n2 c2, .slice B2 m2 d2] 25)))
  have L2_20 := Lib.hid (L2_17.out.keep (new1 w3 (.cells #[.int .i64 2, .int .i64 0, .slice A2 n2 c2, .slice B2 m2 d2] 25)))
  have B_21 := Lib.hid (then_ B_16.out (new1 w3 (.cells #[.int .i64 2, .int .i64 0, .slice A2 n2 c2, .slice B2 m2 d2] 25)))
  clear L1_14 R1_15 L2_17 B_16
  have R2_22 := Lib.hid (own_new w3 #[.int .i64 2, .int .i64 0, .slice A2 n2 c2, .slice B2 m2 d2] 25)
  have p0 := R2_22.out.cell 0 _ rfl
  have p1 := R2_22.out.cell 1 _ rfl
  have p2 := R2_22.out.cell 2 _ rfl
  have p3 := R2_22.out.cell 3 _ rfl
  have L1_23 := Lib.hid (L1_18.out.keep (new1 _ (.cells #[.bool false, .string ⟨#[97, 98]⟩, .string ⟨#[]⟩, .int .i64 0, .bool false, .string ⟨#[99]⟩, .string ⟨#[]⟩, .int .i64 0] 60)))
  have R1_24 := Lib.hid (R1_19.out.below (new1 _ (.cells #[.bool false, .string ⟨#[97, 98]⟩, .string ⟨#[]⟩, .int .i64 0, .bool false, .string ⟨#[99]⟩, .string ⟨#[]⟩, .int .i64 0] 60)))
  have L2_25 := Lib.hid (L2_20.out.keep (new1 _ (.cells #[.bool false, .string ⟨#[97, 98]⟩, .string ⟨#[]⟩, .int .i64 0, .bool false, .string ⟨#[99]⟩, .string ⟨#[]⟩, .int .i64 0] 60)))
  have R2_26 := Lib.hid (R2_22.out.below (new1 _ (.cells #[.bool false, .string ⟨#[97, 98]⟩, .string ⟨#[]⟩, .int .i64 0, .bool false, .string ⟨#[99]⟩, .string ⟨#[]⟩, .int .i64 0] 60)))
  have B_27 := Lib.hid (then_ B_21.out (new1 _ (.cells #[.bool false, .string ⟨#[97, 98]⟩, .string ⟨#[]⟩, .int .i64 0, .bool false, .string ⟨#[99]⟩, .string ⟨#[]⟩, .int .i64 0] 60)))
  clear L1_18 R1_19 L2_20 R2_22 B_21
  go_wp2_with fail
  refine (wv_3 A2 n2 c2 B2 m2 d2 _ #[.bool false, .string ⟨#[97, 98]⟩, .string ⟨#[]⟩, .int .i64 0, .bool false, .string ⟨#[99]⟩, .string ⟨#[]⟩, .int .i64 0] L2_25.out _ (size_alloc w3 _) rfl).mono ?_; rintro e w4 ⟨A3, n3, c3, B3, m3, d3, E3, en3, ec3, rfl, h3, v3, hb⟩
  obtain rfl : en3 = 2 := v3.len.symm
  have S_28 := Lib.hid hb; clear hb
  have L1_29 := Lib.hid (L1_23.out.keep S_28.out)
  have R1_30 := Lib.hid (R1_24.out.below S_28.out)
  have L2_31 := Lib.hid (L2_25.out.keep S_28.out)
  have R2_32 := Lib.hid (R2_26.out.below S_28.out)
  have B_33 := Lib.hid (then_ B_27.out S_28.out)
  clear L1_23 R1_24 L2_25 R2_26 B_27
  clear S_28
  have L3_34 := Lib.hid (h3)
  clear h3 v3
  clear p0 p1 p2 p3
  have L1_35 := Lib.hid (L1_29.out.keep (new1 w4 (.cells #[.int .i64 3, .int .i64 0, .slice A3 n3 c3, .slice B3 m3 d3] 25)))
  have R1_36 := Lib.hid (R1_30.out.below (new1 w4 (.cells #[.int .i64 3, .int .i64 0, .slice A3 n3 c3, .slice B3 m3 d3] 25)))
  have L2_37 := Lib.hid (L2_31.out.keep (new1 w4 (.cells #[.int .i64 3, .int .i64 0, .slice A3 n3 c3, .slice B3 m3 d3] 25)))
  have R2_38 := Lib.hid (R2_32.out.below (new1 w4 (.cells #[.int .i64 3, .int .i64 0, .slice A3 n3 c3, .slice B3 m3 d3] 25)))
  have L3_39 := Lib.hid (L3_34.out.keep (new1 w4 (.cells #[.int .i64 3, .int .i64 0, .slice A3 n3 c3, .slice B3 m3 d3] 25)))
  have B_40 := Lib.hid (then_ B_33.out (new1 w4 (.cells #[.int .i64 3, .int .i64 0, .slice A3 n3 c3, .slice B3 m3 d3] 25)))
  clear L1_29 R1_30 L2_31 R2_32 L3_34 B_33
  have R3_41 := Lib.hid (own_new w4 #[.int .i64 3, .int .i64 0, .slice A3 n3 c3, .slice B3 m3 d3] 25)
  clear R2_38
  clear L2_37
  have p0 := R3_41.out.cell 0 _ rfl
  have p1 := R3_41.out.cell 1 _ rfl
  have p2 := R3_41.out.cell 2 _ rfl
  have p3 := R3_41.out.cell 3 _ rfl
  go_wp2_with fail
  refine (wv_s1 A3 n3 c3 B3 m3 d3 _ L3_39.out).mono ?_; rintro e w5 ⟨Bs1, ds1, rfl, hs1, hb⟩
  have S_42 := Lib.hid hb; clear hb
  have L1_43 := Lib.hid (L1_35.out.keep S_42.out)
  have R1_44 := Lib.hid (R1_36.out.below S_42.out)
  have L3_45 := Lib.hid (L3_39.out.keep S_42.out)
  have R3_46 := Lib.hid (R3_41.out.below S_42.out)
  have B_47 := Lib.hid (then_ B_40.out S_42.out)
  clear L1_35 R1_36 L3_39 R3_41 B_40
  clear S_42
  clear hs1
  clear p0 p1 p2 p3
  have p0 := R3_46.out.cell 0 _ rfl
  have p1 := R3_46.out.cell 1 _ rfl
  have p2 := R3_46.out.cell 2 _ rfl
  have p3 := R3_46.out.cell 3 _ rfl
  go_wp2_with fail
  refine (wv_s2 A3 n3 c3 B3 m3 d3 _ L3_45.out).mono ?_; rintro e w6 ⟨Bs2, ds2, rfl, hs2, hb⟩
  have S_48 := Lib.hid hb; clear hb
  have L1_49 := Lib.hid (L1_43.out.keep S_48.out)
  have R1_50 := Lib.hid (R1_44.out.below S_48.out)
  have L3_51 := Lib.hid (L3_45.out.keep S_48.out)
  have R3_52 := Lib.hid (R3_46.out.below S_48.out)
  have B_53 := Lib.hid (then_ B_47.out S_48.out)
  clear L1_43 R1_44 L3_45 R3_46 B_47
  clear S_48
  have Y_54 := Lib.hid (hs2)
  clear hs2
  clear p0 p1 p2 p3
  have p0 := R3_52.out.cell 0 _ rfl
  have p1 := R3_52.out.cell 1 _ rfl
  have p2 := R3_52.out.cell 2 _ rfl
  have p3 := R3_52.out.cell 3 _ rfl
  go_wp2_with fail
  refine (wv_s3 A3 n3 c3 B3 m3 d3 _ L3_51.out).mono ?_; rintro e w7 ⟨Bs3, ds3, rfl, hs3, hb⟩
  have S_55 := Lib.hid hb; clear hb
  have L1_56 := Lib.hid (L1_49.out.keep S_55.out)
  have R1_57 := Lib.hid (R1_50.out.below S_55.out)
  have L3_58 := Lib.hid (L3_51.out.keep S_55.out)
  have R3_59 := Lib.hid (R3_52.out.below S_55.out)
  have Y_60 := Lib.hid (Y_54.out.keep S_55.out)
  have B_61 := Lib.hid (then_ B_53.out S_55.out)
  clear L1_49 R1_50 L3_51 R3_52 Y_54 B_53
  clear S_55
  clear hs3
  clear p0 p1 p2 p3
  have p0 := R3_59.out.cell 0 _ rfl
  have p1 := R3_59.out.cell 1 _ rfl
  have p2 := R3_59.out.cell 2 _ rfl
  have p3 := R3_59.out.cell 3 _ rfl
  go_wp2_with fail
  refine (wv_s4 A3 n3 c3 B3 m3 d3 _ L3_58.out).mono ?_; rintro e w8 ⟨Bs4, ds4, rfl, hs4, hb⟩
  have S_62 := Lib.hid hb; clear hb
  have L1_63 := Lib.hid (L1_56.out.keep S_62.out)
  have R1_64 := Lib.hid (R1_57.out.below S_62.out)
  have L3_65 := Lib.hid (L3_58.out.keep S_62.out)
  have R3_66 := Lib.hid (R3_59.out.below S_62.out)
  have Y_67 := Lib.hid (Y_60.out.keep S_62.out)
  have B_68 := Lib.hid (then_ B_61.out S_62.out)
  clear L1_56 R1_57 L3_58 R3_59 Y_60 B_61
  clear S_62
  clear hs4
  clear p0 p1 p2 p3
  have p0 := R3_66.out.cell 0 _ rfl
  have p1 := R3_66.out.cell 1 _ rfl
  have p2 := R3_66.out.cell 2 _ rfl
  have p3 := R3_66.out.cell 3 _ rfl
  go_wp2_with fail
  refine (wv_a A3 n3 c3 B3 m3 d3 _ L3_65.out).mono ?_; rintro e w9 ⟨Ba, da, rfl, hb⟩
  have S_69 := Lib.hid hb; clear hb
  have L1_70 := Lib.hid (L1_63.out.keep S_69.out)
  have R1_71 := Lib.hid (R1_64.out.below S_69.out)
  have L3_72 := Lib.hid (L3_65.out.keep S_69.out)
  have R3_73 := Lib.hid (R3_66.out.below S_69.out)
  have Y_74 := Lib.hid (Y_67.out.keep S_69.out)
  have B_75 := Lib.hid (then_ B_68.out S_69.out)
  clear L1_63 R1_64 L3_65 R3_66 Y_67 B_68
  clear S_69
  clear p0 p1 p2 p3
  have p0 := R1_71.out.cell 0 _ rfl
  have p1 := R1_71.out.cell 1 _ rfl
  have p2 := R1_71.out.cell 2 _ rfl
  have p3 := R1_71.out.cell 3 _ rfl
  go_wp2_with fail
  refine (wv_n A1 n1 c1 B1 m1 d1 _ L1_70.out).mono ?_; rintro e w10 ⟨An, nn, cn, rfl, hn, hb⟩
  have S_76 := Lib.hid hb; clear hb
  have L1_77 := Lib.hid (L1_70.out.keep S_76.out)
  have R1_78 := Lib.hid (R1_71.out.below S_76.out)
  have L3_79 := Lib.hid (L3_72.out.keep S_76.out)
  have R3_80 := Lib.hid (R3_73.out.below S_76.out)
  have Y_81 := Lib.hid (Y_74.out.keep S_76.out)
  have B_82 := Lib.hid (then_ B_75.out S_76.out)
  clear L1_70 R1_71 L3_72 R3_73 Y_74 B_75
  clear S_76
  have KN_83 := Lib.hid (hn)
  clear hn
  clear p0 p1 p2 p3
  go_wp2_with fail
  refine (wv_v An nn cn Bs2 _ ds2 _ KN_83.out Y_81.out).mono ?_; rintro e w11 ⟨Av, nv, cv, rfl, hv, hb⟩
  obtain rfl : nv = 3 := hv.len.symm
  have S_84 := Lib.hid hb; clear hb
  have L1_85 := Lib.hid (L1_77.out.keep S_84.out)
  have R1_86 := Lib.hid (R1_78.out.below S_84.out)
  have L3_87 := Lib.hid (L3_79.out.keep S_84.out)
  have R3_88 := Lib.hid (R3_80.out.below S_84.out)
  have Y_89 := Lib.hid (Y_81.out.keep S_84.out)
  have KN_90 := Lib.hid (KN_83.out.keep S_84.out)
  have B_91 := Lib.hid (then_ B_82.out S_84.out)
  clear L1_77 R1_78 L3_79 R3_80 Y_81 KN_83 B_82
  clear S_84
  have KV_92 := Lib.hid (hv)
  clear hv
  have p0 := R3_88.out.cell 0 _ rfl
  have p1 := R3_88.out.cell 1 _ rfl
  have p2 := R3_88.out.cell 2 _ rfl
  have p3 := R3_88.out.cell 3 _ rfl
  go_wp2_with fail
  refine (wv_k A3 n3 c3 B3 m3 d3 _ L3_87.out).mono ?_; rintro e w12 ⟨A7, n7, c7, B7, m7, d7, rfl, h7, hb⟩
  have S_93 := Lib.hid hb; clear hb
  have L1_94 := Lib.hid (L1_85.out.keep S_93.out)
  have R1_95 := Lib.hid (R1_86.out.below S_93.out)
  have L3_96 := Lib.hid (L3_87.out.keep S_93.out)
  have R3_97 := Lib.hid (R3_88.out.below S_93.out)
  have Y_98 := Lib.hid (Y_89.out.keep S_93.out)
  have KN_99 := Lib.hid (KN_90.out.keep S_93.out)
  have KV_100 := Lib.hid (KV_92.out.keep S_93.out)
  have B_101 := Lib.hid (then_ B_91.out S_93.out)
  clear L1_85 R1_86 L3_87 R3_88 Y_89 KN_90 KV_92 B_91
  clear S_93
  have L7_102 := Lib.hid (h7)
  clear h7
  clear p0 p1 p2 p3
  have L1_103 := Lib.hid (L1_94.out.keep (new1 w12 (.cells #[.int .i64 3, .int .i64 2, .slice A7 n7 c7, .slice B7 m7 d7] 25)))
  have R1_104 := Lib.hid (R1_95.out.below (new1 w12 (.cells #[.int .i64 3, .int .i64 2, .slice A7 n7 c7, .slice B7 m7 d7] 25)))
  have L3_105 := Lib.hid (L3_96.out.keep (new1 w12 (.cells #[.int .i64 3, .int .i64 2, .slice A7 n7 c7, .slice B7 m7 d7] 25)))
  have R3_106 := Lib.hid (R3_97.out.below (new1 w12 (.cells #[.int .i64 3, .int .i64 2, .slice A7 n7 c7, .slice B7 m7 d7] 25)))
  have Y_107 := Lib.hid (Y_98.out.keep (new1 w12 (.cells #[.int .i64 3, .int .i64 2, .slice A7 n7 c7, .slice B7 m7 d7] 25)))
  have KN_108 := Lib.hid (KN_99.out.keep (new1 w12 (.cells #[.int .i64 3, .int .i64 2, .slice A7 n7 c7, .slice B7 m7 d7] 25)))
  have KV_109 := Lib.hid (KV_100.out.keep (new1 w12 (.cells #[.int .i64 3, .int .i64 2, .slice A7 n7 c7, .slice B7 m7 d7] 25)))
  have L7_110 := Lib.hid (L7_102.out.keep (new1 w12 (.cells #[.int .i64 3, .int .i64 2, .slice A7 n7 c7, .slice B7 m7 d7] 25)))
  have B_111 := Lib.hid (then_ B_101.out (new1 w12 (.cells #[.int .i64 3, .int .i64 2, .slice A7 n7 c7, .slice B7 m7 d7] 25)))
  clear L1_94 R1_95 L3_96 R3_97 Y_98 KN_99 KV_100 L7_102 B_101
  have R7_112 := Lib.hid (own_new w12 #[.int .i64 3, .int .i64 2, .slice A7 n7 c7, .slice B7 m7 d7] 25)
  have p0 := R7_112.out.cell 0 _ rfl
  have p1 := R7_112.out.cell 1 _ rfl
  have p2 := R7_112.out.cell 2 _ rfl
  have p3 := R7_112.out.cell 3 _ rfl
  go_wp2_with fail
  refine (wv_s5 A7 n7 c7 B7 m7 d7 _ L7_110.out).mono ?_; rintro e w13 ⟨Bs5, ds5, rfl, hs5, hb⟩
  have S_113 := Lib.hid hb; clear hb
  have L1_114 := Lib.hid (L1_103.out.keep S_113.out)
  have R1_115 := Lib.hid (R1_104.out.below S_113.out)
  have L3_116 := Lib.hid (L3_105.out.keep S_113.out)
  have R3_117 := Lib.hid (R3_106.out.below S_113.out)
  have Y_118 := Lib.hid (Y_107.out.keep S_113.out)
  have KN_119 := Lib.hid (KN_108.out.keep S_113.out)
  have KV_120 := Lib.hid (KV_109.out.keep S_113.out)
  have L7_121 := Lib.hid (L7_110.out.keep S_113.out)
  have R7_122 := Lib.hid (R7_112.out.below S_113.out)
  have B_123 := Lib.hid (then_ B_111.out S_113.out)
  clear L1_103 R1_104 L3_105 R3_106 Y_107 KN_108 KV_109 L7_110 R7_112 B_111
  clear S_113
  clear hs5
  clear p0 p1 p2 p3
  obtain ⟨ax, yx, rfl, _, hyx, _, kx⟩ := KV_120.out.at_ (show 1 < 3 by omega)
  obtain rfl : wk4 = yx := Option.some.inj hyx
  have kx0 : w13.cell? ⟨ax.block, ax.off + 6, none⟩ = some (.string ⟨#[97, 98]⟩) := by have := kx.c0; simpa [Addr.add] using this
  clear hyx kx
  go_wp2
  go_ret
  exact ⟨rfl, B_123.out⟩
end Go.Proofs.Ytkikfaeigoeogaa.P
/- Layer 7's laws, what they share: few (the law's own), Since and All at a known answer. -/
namespace Go.Proofs.Ytkikfaeigoeogaa.P
open Go.RowKit
set_option maxHeartbeats 4000000
set_option linter.unusedVariables false
set_option linter.unusedSimpArgs false
set_option maxRecDepth 100000
theorem Evs.below {w w1 : World} {A : Option Addr} {n c : Nat} {l : List Ev} (h : Evs w A n c l) (hb : Below w.heap.size w w1) : Evs w1 A n c l := h.keep hb
theorem KVs.below {w w1 : World} {A : Option Addr} {n c : Nat} {l : List KV} (h : KVs w A n c l) (hb : Below w.heap.size w w1) : KVs w1 A n c l := h.keep hb
theorem StAt.below {w w1 : World} {s : St} {A : Option Addr} {n c : Nat} {B : Option Addr} {m d : Nat} (h : StAt w s A n c B m d) (hb : Below w.heap.size w w1) : StAt w1 s A n c B m d := h.keep hb
noncomputable def fewW (s : St) (p : ByteArray) : Bool := fewS s && mayB s && decide (p.size ≤ 60)
structure WaIs (s : St) (n m : Nat) (p : ByteArray) : Prop where
  may : MaySt s
  n : n ≤ 30
  m : m ≤ 60
  p : p.size ≤ 60
theorem WaIs.mk_ {w : World} {s : St} {p : ByteArray} {A : Option Addr} {n c : Nat} {B : Option Addr} {m d : Nat} (h : fewW s p = true) (k : StAt w s A n c B m d) : WaIs s n m p := by
  unfold fewW at h
  simp only [Bool.and_eq_true, decide_eq_true_eq] at h
  have hm := may_st.1 h.1.2
  have h1 := k.kv.len; have h2 := k.ev.len; have h3 := hm.good.len; have h4 := hm.len
  exact ⟨hm, by omega, by omega, h.2⟩
theorem few07_any (s : St) (A : Option Addr) (n c : Nat) (B : Option Addr) (m d : Nat) (p : ByteArray) (w : World) (h : StAt w s A n c B m d) (hp : p.size ≤ maxLen) :
    Calls Try.prog 9 #[s.agg A n c B m d, .string p] w fun e w' => e = .returned (.bool (fewW s p)) ∧ Below w.heap.size w w' := by
  have hlen := h.kv.len
  unfold maxLen at hp
  have HM := Lib.hid h
  have X_0 := Lib.hid (own_new w (stCells s A n c B m d) 25)
  have B_0 := Lib.hid (new1 w (.cells (stCells s A n c B m d) 25))
  have x0 := X_0.out.cell 0 (.int .i64 s.rev) rfl
  have x1 := X_0.out.cell 1 (.int .i64 s.low) rfl
  have x2 := X_0.out.cell 2 (.slice A n c) rfl
  have x3 := X_0.out.cell 3 (.slice B m d) rfl
  cases hf : fewS s with
  | false =>
    have HV : Hid (fewW s p = false) := Lib.hid (by unfold fewW; rw [hf]; rfl)
    have HF := Lib.hid hf
    clear h hf hlen
    go_enter Try.func9, Try.ntmps9
    go_wp2_with fail
    refine (few_st s A n c B m d _ (HM.out.keep B_0.out)).mono ?_; rintro e w1 ⟨rfl, hb⟩
    have B_1 := Lib.hid (then_ B_0.out hb)
    rw [HF.out]
    clear hb x0 x1 x2 x3
    go_wp2
    go_ret
    exact ⟨retB HV.out.symm, B_1.out⟩
  | true =>
    have HF := Lib.hid hf
    have hn : n ≤ 900000 := by
      have : s.base.length ≤ 40 := by unfold fewS fewB fewE at hf; simp only [Bool.and_eq_true, decide_eq_true_eq] at hf; omega
      omega
    have HN := Lib.hid hn
    cases hm : mayB s with
    | false =>
      have HV : Hid (fewW s p = false) := Lib.hid (by unfold fewW; rw [hm]; simp)
      have HY := Lib.hid hm
      clear h hf hlen hm hn
      go_enter Try.func9, Try.ntmps9
      go_wp2_with fail
      refine (few_st s A n c B m d _ (HM.out.keep B_0.out)).mono ?_; rintro e w1 ⟨rfl, hb⟩
      have B_1 := Lib.hid (then_ B_0.out hb)
      have X_1 := Lib.hid (X_0.out.below hb)
      rw [HF.out]
      clear hb x0 x1 x2 x3
      have x0 := X_1.out.cell 0 (.int .i64 s.rev) rfl
      have x1 := X_1.out.cell 1 (.int .i64 s.low) rfl
      have x2 := X_1.out.cell 2 (.slice A n c) rfl
      have x3 := X_1.out.cell 3 (.slice B m d) rfl
      go_wp2_with fail
      refine (mvmay_ref s A n c B m d _ (HM.out.keep B_1.out) HN.out).mono ?_; rintro e w2 ⟨rfl, hb⟩
      have B_2 := Lib.hid (then_ B_1.out hb)
      rw [HY.out]
      clear hb x0 x1 x2 x3
      go_wp2
      go_ret
      exact ⟨retB HV.out.symm, B_2.out⟩
    | true =>
      have HV : Hid (fewW s p = decide ((p.size : Int) ≤ 60)) := Lib.hid (by unfold fewW; rw [hf, hm]; simp only [Bool.true_and]; exact decide_eq_decide.2 (by omega))
      have HY := Lib.hid hm
      clear h hf hlen hm hn
      go_enter Try.func9, Try.ntmps9
      go_wp2_with fail
      refine (few_st s A n c B m d _ (HM.out.keep B_0.out)).mono ?_; rintro e w1 ⟨rfl, hb⟩
      have B_1 := Lib.hid (then_ B_0.out hb)
      have X_1 := Lib.hid (X_0.out.below hb)
      rw [HF.out]
      clear hb x0 x1 x2 x3
      have x0 := X_1.out.cell 0 (.int .i64 s.rev) rfl
      have x1 := X_1.out.cell 1 (.int .i64 s.low) rfl
      have x2 := X_1.out.cell 2 (.slice A n c) rfl
      have x3 := X_1.out.cell 3 (.slice B m d) rfl
      go_wp2_with fail
      refine (mvmay_ref s A n c B m d _ (HM.out.keep B_1.out) HN.out).mono ?_; rintro e w2 ⟨rfl, hb⟩
      have B_2 := Lib.hid (then_ B_1.out hb)
      rw [HY.out]
      clear hb x0 x1 x2 x3
      go_wp2
      go_ret
      exact ⟨retB HV.out.symm, B_2.out⟩

theorem sinceF_len {s : St} (hs : MaySt s) (p : ByteArray) (rev most : Int) : (sinceF s p rev most).1.length ≤ 60 := by
  obtain ⟨l, nx, er, h⟩ : ∃ l nx er, sinceF s p rev most = (l, nx, er) := ⟨_, _, _, rfl⟩
  rw [h]
  by_cases he : er = 0
  · subst he
    have h1 := (sinceF_go hs h).2.2.2.2
    have h2 : (fltS s p rev).length ≤ 60 := Nat.le_trans (List.length_filter_le _ _) hs.len
    rw [h1, List.length_append] at h2
    show l.length ≤ 60
    omega
  · rw [(sinceF_err h he).1]; simp
theorem sincep_at {s : St} {A : Option Addr} {n c : Nat} {B : Option Addr} {m d : Nat} {p : ByteArray} {rev most : Int} {l : List Ev} {nx er : Int} {w : World} (h : StAt w s A n c B m d) (hs : WaIs s n m p) (hr : inI rev) (e : sinceF s p rev most = (l, nx, er)) :
    Calls Try.prog 11 #[s.agg A n c B m d, .string p, .int .i64 rev, .int .i64 most] w (SiTo l nx er w) :=
  (sincep_any s A n c B m d p rev most w h hs.may (by have := hs.p; unfold maxLen; omega) hr).mono fun _ _ k => si_of e k
theorem since_at {s : St} {A : Option Addr} {n c : Nat} {B : Option Addr} {m d : Nat} {p : ByteArray} {rev most : Int} {l : List Ev} {nx er : Int} {w : World} (h : StAt w s A n c B m d) (hs : WaIs s n m p) (e : sinceF s p rev most = (l, nx, er)) :
    Calls Try.prog 12 #[s.agg A n c B m d, .string p, .int .i64 rev, .int .i64 most] w (SiTo l nx er w) :=
  (since_full s A n c B m d p rev most w h (by have := hs.m; omega) (by have := hs.p; unfold maxLen; omega) hs.may.max).mono fun _ _ k => si_of e k
def AlTo (l : List Ev) (er : Int) (w : World) (e : Ending) (w' : World) : Prop := ∃ B d, e = .returned (.tuple #[.slice B l.length d, .int .i64 er]) ∧ Evs w' B l.length d l ∧ Below w.heap.size w w'
theorem al_of {s : St} {p : ByteArray} {rev most er : Int} {l : List Ev} (h : allF s p rev most = (l, er)) {w : World} {e : Ending} {w' : World} (k : AllFEnd (allF s p rev most) w e w') : AlTo l er w e w' := by
  rw [h] at k
  obtain ⟨B, d, he, hr, ok, hb⟩ := k
  exact ⟨B, d, he, ev_of_rows hr ok, hb⟩
theorem allp_at {s : St} {A : Option Addr} {n c : Nat} {B : Option Addr} {m d : Nat} {p : ByteArray} {rev most : Int} {l : List Ev} {er : Int} {w : World} (h : StAt w s A n c B m d) (hs : MaySt s) (hp : p.size ≤ maxLen) (hr : inI rev) (e : allF s p rev most = (l, er)) :
    Calls Try.prog 15 #[s.agg A n c B m d, .string p, .int .i64 rev, .int .i64 most] w (AlTo l er w) :=
  (allp_any s A n c B m d p rev most w h hs hp hr).mono fun _ _ k => al_of e k
theorem allr_at {s : St} {A : Option Addr} {n c : Nat} {B : Option Addr} {m d : Nat} {p : ByteArray} {rev most : Int} {l : List Ev} {er : Int} {w : World} (h : StAt w s A n c B m d) (hs : MaySt s) (hp : p.size ≤ maxLen) (hr : inI rev) (e : allF s p rev most = (l, er)) :
    Calls Try.prog 16 #[s.agg A n c B m d, .string p, .int .i64 rev, .int .i64 most] w (AlTo l er w) :=
  (allr_any s A n c B m d p rev most w h hs hp hr).mono fun _ _ k => al_of e k
theorem allF_len {s : St} (hs : MaySt s) {p : ByteArray} {rev most er : Int} {l : List Ev} (e : allF s p rev most = (l, er)) (he : er = 0) : l = fltS s p rev ∧ l.length ≤ 60 := by
  have h := allF_is hs (p := p) (rev := rev) (most := most) (by rw [e]; exact he)
  rw [e] at h
  refine ⟨h, ?_⟩
  rw [show l = fltS s p rev from h]
  exact Nat.le_trans (List.length_filter_le _ _) hs.len
end Go.Proofs.Ytkikfaeigoeogaa.P
