/- Layer 5's examples, plain, and as calls. -/
import Derived.Test.YtgafkpngnoecaaaMvSame
import Derived.Test.YtgafkpngnoecaaaMvAt
import Derived.Test.YtgafkpngnoecaaaMvApart
namespace Go.Proofs.Ytgafkpngnoecaaa.P
open Go.RowKit Go.Sort
set_option maxHeartbeats 2000000
set_option linter.unusedVariables false
set_option linter.unusedSimpArgs false
set_option maxRecDepth 100000

theorem apply_eq {s : St} {ms : List Mu} {es : List Ev} {l : List KV} (h1 : mayDoB ms = true) (h2 : comeL (s.rev + 1) (nowL s) ms = (es, l, true)) (h3 : es ≠ []) (h4 : s.rev ≠ 1099511627774) (h5 : s.log.length + es.length ≤ 60) :
    applyE s ms = 0 ∧ applyS s ms = ⟨s.rev + 1, s.low, s.base, s.log ++ es⟩ ∧ applyEv s ms = es := by
  have he : eventsOf s ms = es := by unfold eventsOf; rw [h2]
  have hE : applyE s ms = 0 := by
    unfold applyE
    rw [if_neg (by rw [h1]; simp), he, if_neg h3, if_neg]
    rw [h2]
    rintro (h | h | h)
    · cases h
    · exact h4 h
    · omega
  have ha : applied s ms := ⟨hE, by rw [he]; exact h3⟩
  refine ⟨hE, ?_, ?_⟩
  · unfold applyS; rw [if_pos ha]; unfold doneS; rw [he]
  · unfold applyEv; rw [if_pos ha, he]
theorem apply_nil {s : St} {ms : List Mu} {l : List KV} {b : Bool} (h1 : mayDoB ms = true) (h2 : comeL (s.rev + 1) (nowL s) ms = ([], l, b)) : applyE s ms = 0 ∧ applyS s ms = s ∧ applyEv s ms = [] := by
  have he : eventsOf s ms = [] := by unfold eventsOf; rw [h2]
  have hE : applyE s ms = 0 := by unfold applyE; rw [if_neg (by rw [h1]; simp), if_pos he]
  have ha : ¬ applied s ms := fun h => h.2 he
  exact ⟨hE, (apply_not ha).1, (apply_not ha).2⟩
theorem apply_bad {s : St} {ms : List Mu} (h1 : mayDoB ms = false) : applyE s ms = 1 ∧ applyS s ms = s ∧ applyEv s ms = [] := by
  have hE : applyE s ms = 1 := by unfold applyE; rw [if_pos h1]
  have ha : ¬ applied s ms := fun h => by have := h.1; rw [hE] at this; cases this
  exact ⟨hE, (apply_not ha).1, (apply_not ha).2⟩
abbrev tA : ByteArray := ⟨#[97]⟩
abbrev tB : ByteArray := ⟨#[98]⟩
abbrev tC : ByteArray := ⟨#[99]⟩
abbrev tX : ByteArray := ⟨#[120]⟩
abbrev tY : ByteArray := ⟨#[121]⟩
abbrev tN : ByteArray := ⟨#[]⟩
abbrev k1 : KV := ⟨tA, tX, 1, 1, 1, 0⟩
abbrev k2 : KV := ⟨tB, tN, 1, 1, 1, 3⟩
abbrev k3 : KV := ⟨tA, tY, 1, 2, 2, 0⟩
abbrev d1 : Ev := ⟨1, false, k1⟩
abbrev d2 : Ev := ⟨1, false, k2⟩
abbrev d3 : Ev := ⟨2, false, k3⟩
abbrev d4 : Ev := ⟨2, true, k2⟩
abbrev X0 : St := ⟨0, 0, [], []⟩
abbrev X1 : St := ⟨1, 0, [], [d1, d2]⟩
abbrev X2 : St := ⟨2, 0, [], [d1, d2, d3, d4]⟩
abbrev X3 : St := ⟨2, 2, [k3], []⟩
abbrev Xn : St := ⟨0, 1, [], []⟩
abbrev N1 : List Mu := [⟨false, tA, tX, 0⟩, ⟨false, tB, tN, 3⟩]
abbrev N2 : List Mu := [⟨false, tA, tY, 0⟩, ⟨true, tB, tN, 0⟩, ⟨true, tC, tN, 0⟩]
abbrev N3 : List Mu := [⟨true, tC, tN, 0⟩]
abbrev N4 : List Mu := [⟨false, tN, tN, 0⟩]
theorem m1 : mayDoB N1 = true := by simp [mayDoB, doTo, fresh, mutB, checkL, madeL, inB, comeL, stepC, evOf, laid, findL, afterE, layL, takeL, tlt, teq, ByteArray.toList_eq, Op.bytesLess, ByteArray.size, nowL, foldL, stepL, above, shrinkS, keptE, atL, atE, X1, X2, X3, X0, N1, N2, N3, N4, tA, tB, tC, tX, tY, k1, k2, k3, d1, d2, d3, d4]
theorem m2 : mayDoB N2 = true := by simp [mayDoB, doTo, fresh, mutB, checkL, madeL, inB, comeL, stepC, evOf, laid, findL, afterE, layL, takeL, tlt, teq, ByteArray.toList_eq, Op.bytesLess, ByteArray.size, nowL, foldL, stepL, above, shrinkS, keptE, atL, atE, X1, X2, X3, X0, N1, N2, N3, N4, tA, tB, tC, tX, tY, k1, k2, k3, d1, d2, d3, d4]
theorem m3 : mayDoB N3 = true := by simp [mayDoB, doTo, fresh, mutB, checkL, madeL, inB, comeL, stepC, evOf, laid, findL, afterE, layL, takeL, tlt, teq, ByteArray.toList_eq, Op.bytesLess, ByteArray.size, nowL, foldL, stepL, above, shrinkS, keptE, atL, atE, X1, X2, X3, X0, N1, N2, N3, N4, tA, tB, tC, tX, tY, k1, k2, k3, d1, d2, d3, d4]
theorem m4 : mayDoB N4 = false := by simp [mayDoB, doTo, fresh, mutB, checkL, madeL, inB, comeL, stepC, evOf, laid, findL, afterE, layL, takeL, tlt, teq, ByteArray.toList_eq, Op.bytesLess, ByteArray.size, nowL, foldL, stepL, above, shrinkS, keptE, atL, atE, X1, X2, X3, X0, N1, N2, N3, N4, tA, tB, tC, tX, tY, k1, k2, k3, d1, d2, d3, d4]
theorem w1 : nowL X1 = [k1, k2] := by simp [mayDoB, doTo, fresh, mutB, checkL, madeL, inB, comeL, stepC, evOf, laid, findL, afterE, layL, takeL, tlt, teq, ByteArray.toList_eq, Op.bytesLess, ByteArray.size, nowL, foldL, stepL, above, shrinkS, keptE, atL, atE, X1, X2, X3, X0, N1, N2, N3, N4, tA, tB, tC, tX, tY, k1, k2, k3, d1, d2, d3, d4]
theorem w2 : nowL X2 = [k3] := by simp [mayDoB, doTo, fresh, mutB, checkL, madeL, inB, comeL, stepC, evOf, laid, findL, afterE, layL, takeL, tlt, teq, ByteArray.toList_eq, Op.bytesLess, ByteArray.size, nowL, foldL, stepL, above, shrinkS, keptE, atL, atE, X1, X2, X3, X0, N1, N2, N3, N4, tA, tB, tC, tX, tY, k1, k2, k3, d1, d2, d3, d4]
theorem c1 : comeL 1 [] N1 = ([d1, d2], [k1, k2], true) := by simp [mayDoB, doTo, fresh, mutB, checkL, madeL, inB, comeL, stepC, evOf, laid, findL, afterE, layL, takeL, tlt, teq, ByteArray.toList_eq, Op.bytesLess, ByteArray.size, nowL, foldL, stepL, above, shrinkS, keptE, atL, atE, X1, X2, X3, X0, N1, N2, N3, N4, tA, tB, tC, tX, tY, k1, k2, k3, d1, d2, d3, d4]
theorem c2 : comeL 2 [k1, k2] N2 = ([d3, d4], [k3], true) := by simp [mayDoB, doTo, fresh, mutB, checkL, madeL, inB, comeL, stepC, evOf, laid, findL, afterE, layL, takeL, tlt, teq, ByteArray.toList_eq, Op.bytesLess, ByteArray.size, nowL, foldL, stepL, above, shrinkS, keptE, atL, atE, X1, X2, X3, X0, N1, N2, N3, N4, tA, tB, tC, tX, tY, k1, k2, k3, d1, d2, d3, d4]
theorem c3 : comeL 3 [k3] N3 = ([], [k3], true) := by simp [mayDoB, doTo, fresh, mutB, checkL, madeL, inB, comeL, stepC, evOf, laid, findL, afterE, layL, takeL, tlt, teq, ByteArray.toList_eq, Op.bytesLess, ByteArray.size, nowL, foldL, stepL, above, shrinkS, keptE, atL, atE, X1, X2, X3, X0, N1, N2, N3, N4, tA, tB, tC, tX, tY, k1, k2, k3, d1, d2, d3, d4]
theorem a1 : applyE X0 N1 = 0 ∧ applyS X0 N1 = X1 ∧ applyEv X0 N1 = [d1, d2] := apply_eq m1 c1 (by simp) (by decide) (by decide)
theorem a2 : applyE X1 N2 = 0 ∧ applyS X1 N2 = X2 ∧ applyEv X1 N2 = [d3, d4] := apply_eq m2 (by rw [w1]; exact c2) (by simp) (by decide) (by decide)
theorem a3 : applyE X2 N3 = 0 ∧ applyS X2 N3 = X2 ∧ applyEv X2 N3 = [] := apply_nil m3 (by rw [w2]; exact c3)
theorem a4 : applyE X2 N4 = 1 ∧ applyS X2 N4 = X2 ∧ applyEv X2 N4 = [] := apply_bad m4
theorem x0may : MaySt X0 := may_st.1 (by simp [mayB, mayP, rises, mayLogB])
theorem x1may : MaySt X1 := by have := apply_may x0may N1; rwa [a1.2.1] at this
theorem x2may : MaySt X2 := by have := apply_may x1may N2; rwa [a2.2.1] at this
theorem s2 : shrunk X2 2 = X3 ∧ keptE X2 2 = 0 := by
  have h : keptE X2 2 = 0 := by simp [mayDoB, doTo, fresh, mutB, checkL, madeL, inB, comeL, stepC, evOf, laid, findL, afterE, layL, takeL, tlt, teq, ByteArray.toList_eq, Op.bytesLess, ByteArray.size, nowL, foldL, stepL, above, shrinkS, keptE, atL, atE, X1, X2, X3, X0, N1, N2, N3, N4, tA, tB, tC, tX, tY, k1, k2, k3, d1, d2, d3, d4]
  refine ⟨?_, h⟩
  unfold shrunk; rw [if_pos h]
  show (⟨2, 2, foldL [] [d1, d2, d3, d4] 2, above 2 [d1, d2, d3, d4]⟩ : St) = X3
  have e1 : foldL [] [d1, d2, d3, d4] 2 = [k3] := by simp [mayDoB, doTo, fresh, mutB, checkL, madeL, inB, comeL, stepC, evOf, laid, findL, afterE, layL, takeL, tlt, teq, ByteArray.toList_eq, Op.bytesLess, ByteArray.size, nowL, foldL, stepL, above, shrinkS, keptE, atL, atE, X1, X2, X3, X0, N1, N2, N3, N4, tA, tB, tC, tX, tY, k1, k2, k3, d1, d2, d3, d4]
  have e2 : above 2 [d1, d2, d3, d4] = [] := by simp [mayDoB, doTo, fresh, mutB, checkL, madeL, inB, comeL, stepC, evOf, laid, findL, afterE, layL, takeL, tlt, teq, ByteArray.toList_eq, Op.bytesLess, ByteArray.size, nowL, foldL, stepL, above, shrinkS, keptE, atL, atE, X1, X2, X3, X0, N1, N2, N3, N4, tA, tB, tC, tX, tY, k1, k2, k3, d1, d2, d3, d4]
  rw [e1, e2]
theorem x3may : MaySt X3 := by
  have h := shrink_may x2may (rev := 2) s2.2
  have e : shrinkS X2 2 = X3 := by have k := s2.1; unfold shrunk at k; rwa [if_pos s2.2] at k
  rwa [e] at h
theorem b2 : mayB X2 = true := may_st.2 x2may
theorem b3 : mayB X3 = true := may_st.2 x3may
theorem bn : mayB Xn = false := by
  cases h : mayB Xn with
  | false => rfl
  | true => have := (may_st.1 h).le; exact absurd this (by decide)
theorem t1 : atL X2 1 = [k1, k2] ∧ atE X2 1 = 0 := by constructor <;> simp [mayDoB, doTo, fresh, mutB, checkL, madeL, inB, comeL, stepC, evOf, laid, findL, afterE, layL, takeL, tlt, teq, ByteArray.toList_eq, Op.bytesLess, ByteArray.size, nowL, foldL, stepL, above, shrinkS, keptE, atL, atE, X1, X2, X3, X0, N1, N2, N3, N4, tA, tB, tC, tX, tY, k1, k2, k3, d1, d2, d3, d4]
theorem t3 : atL X2 3 = [] ∧ atE X2 3 = 8 := by constructor <;> simp [mayDoB, doTo, fresh, mutB, checkL, madeL, inB, comeL, stepC, evOf, laid, findL, afterE, layL, takeL, tlt, teq, ByteArray.toList_eq, Op.bytesLess, ByteArray.size, nowL, foldL, stepL, above, shrinkS, keptE, atL, atE, X1, X2, X3, X0, N1, N2, N3, N4, tA, tB, tC, tX, tY, k1, k2, k3, d1, d2, d3, d4]
theorem t4 : atL X3 1 = [] ∧ atE X3 1 = 9 := by constructor <;> simp [mayDoB, doTo, fresh, mutB, checkL, madeL, inB, comeL, stepC, evOf, laid, findL, afterE, layL, takeL, tlt, teq, ByteArray.toList_eq, Op.bytesLess, ByteArray.size, nowL, foldL, stepL, above, shrinkS, keptE, atL, atE, X1, X2, X3, X0, N1, N2, N3, N4, tA, tB, tC, tX, tY, k1, k2, k3, d1, d2, d3, d4]
theorem w3 : nowL X3 = [k3] := by simp [mayDoB, doTo, fresh, mutB, checkL, madeL, inB, comeL, stepC, evOf, laid, findL, afterE, layL, takeL, tlt, teq, ByteArray.toList_eq, Op.bytesLess, ByteArray.size, nowL, foldL, stepL, above, shrinkS, keptE, atL, atE, X1, X2, X3, X0, N1, N2, N3, N4, tA, tB, tC, tX, tY, k1, k2, k3, d1, d2, d3, d4]
end Go.Proofs.Ytgafkpngnoecaaa.P
