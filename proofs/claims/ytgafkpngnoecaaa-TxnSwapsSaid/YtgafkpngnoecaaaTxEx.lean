/- Layer 6's examples, plain. -/
import Derived.Test.YtgafkpngnoecaaaTxMake
import Derived.Test.YtgafkpngnoecaaaMvEx
import Derived.Test.YtgafkpngnoecaaaTxDo
namespace Go.Proofs.Ytgafkpngnoecaaa.P
open Go.RowKit Go.Sort
set_option maxHeartbeats 2000000
set_option linter.unusedVariables false
set_option linter.unusedSimpArgs false
set_option maxRecDepth 100000

theorem do_eq {s : St} {t : Tx} {b : Bool} {ms : List Mu} {x : Int} {s' : St} {es : List Ev} (h1 : txMayB t = true) (h2 : allB (nowL s) t.iff = b) (h3 : (if b = true then t.thn else t.els) = ms) (h4 : applyE s ms = x ∧ applyS s ms = s' ∧ applyEv s ms = es) :
    doE s t = x ∧ doS s t = s' ∧ doV s t = es ∧ doY s t = (b && decide (x = 0)) := by
  have hp : pickL s t = ms := by unfold pickL; rw [h2]; exact h3
  obtain ⟨e1, e2, e3, e4⟩ := do_parts (s := s) h1
  rw [hp] at e1 e2 e3 e4
  rw [e1, e2, e3, e4, h2, h4.1, h4.2.1, h4.2.2]
  exact ⟨rfl, rfl, rfl, rfl⟩
abbrev tV : ByteArray := ⟨#[118]⟩
abbrev tW : ByteArray := ⟨#[119]⟩
abbrev tU : ByteArray := ⟨#[117]⟩
abbrev g1 : KV := ⟨tA, tV, 1, 1, 1, 5⟩
abbrev f1 : Ev := ⟨1, false, g1⟩
abbrev f2 : Ev := ⟨2, true, g1⟩
abbrev Y1 : St := ⟨1, 0, [], [f1]⟩
abbrev Y2 : St := ⟨2, 0, [], [f1, f2]⟩
abbrev q5 : Cm := ⟨tA, 5, 1, 0, tN⟩
abbrev q6 : Cm := ⟨tA, 4, 3, 0, tU⟩
abbrev q7 : Cm := ⟨tA, 3, 2, 1, tN⟩
abbrev t5 : Tx := ⟨[q5], [], []⟩
theorem y0now : nowL X0 = [] := by simp [mayDoB, doTo, fresh, mutB, checkL, madeL, inB, comeL, stepC, evOf, laid, findL, afterE, layL, takeL, tlt, teq, ByteArray.toList_eq, Op.bytesLess, ByteArray.size, nowL, foldL, stepL, above, shrinkS, keptE, atL, atE, X0, Y1, Y2, tA, tV, tW, tU, tN, g1, f1, f2]
theorem y1now : nowL Y1 = [g1] := by simp [mayDoB, doTo, fresh, mutB, checkL, madeL, inB, comeL, stepC, evOf, laid, findL, afterE, layL, takeL, tlt, teq, ByteArray.toList_eq, Op.bytesLess, ByteArray.size, nowL, foldL, stepL, above, shrinkS, keptE, atL, atE, X0, Y1, Y2, tA, tV, tW, tU, tN, g1, f1, f2]
theorem y2now : nowL Y2 = [] := by simp [mayDoB, doTo, fresh, mutB, checkL, madeL, inB, comeL, stepC, evOf, laid, findL, afterE, layL, takeL, tlt, teq, ByteArray.toList_eq, Op.bytesLess, ByteArray.size, nowL, foldL, stepL, above, shrinkS, keptE, atL, atE, X0, Y1, Y2, tA, tV, tW, tU, tN, g1, f1, f2]
theorem y1may : MaySt Y1 := by
  have h := apply_may x0may [⟨false, tA, tV, 5⟩]
  have e : applyE X0 [⟨false, tA, tV, 5⟩] = 0 ∧ applyS X0 [⟨false, tA, tV, 5⟩] = Y1 ∧ applyEv X0 [⟨false, tA, tV, 5⟩] = [f1] := apply_eq (l := [g1]) (by simp [mayDoB, doTo, fresh, mutB, checkL, madeL, inB, comeL, stepC, evOf, laid, findL, afterE, layL, takeL, tlt, teq, ByteArray.toList_eq, Op.bytesLess, ByteArray.size, nowL, foldL, stepL, above, shrinkS, keptE, atL, atE, X0, Y1, Y2, tA, tV, tW, tU, tN, g1, f1, f2]) (by rw [y0now]; simp [mayDoB, doTo, fresh, mutB, checkL, madeL, inB, comeL, stepC, evOf, laid, findL, afterE, layL, takeL, tlt, teq, ByteArray.toList_eq, Op.bytesLess, ByteArray.size, nowL, foldL, stepL, above, shrinkS, keptE, atL, atE, X0, Y1, Y2, tA, tV, tW, tU, tN, g1, f1, f2]) (by simp) (by decide) (by decide)
  rwa [e.2.1] at h
theorem a11 : applyE X0 [⟨false, tA, tV, 5⟩] = 0 ∧ applyS X0 [⟨false, tA, tV, 5⟩] = Y1 ∧ applyEv X0 [⟨false, tA, tV, 5⟩] = [f1] := apply_eq (l := [g1]) (by simp [mayDoB, doTo, fresh, mutB, checkL, madeL, inB, comeL, stepC, evOf, laid, findL, afterE, layL, takeL, tlt, teq, ByteArray.toList_eq, Op.bytesLess, ByteArray.size, nowL, foldL, stepL, above, shrinkS, keptE, atL, atE, X0, Y1, Y2, tA, tV, tW, tU, tN, g1, f1, f2]) (by rw [y0now]; simp [mayDoB, doTo, fresh, mutB, checkL, madeL, inB, comeL, stepC, evOf, laid, findL, afterE, layL, takeL, tlt, teq, ByteArray.toList_eq, Op.bytesLess, ByteArray.size, nowL, foldL, stepL, above, shrinkS, keptE, atL, atE, X0, Y1, Y2, tA, tV, tW, tU, tN, g1, f1, f2]) (by simp) (by decide) (by decide)
theorem a12 (s : St) : applyE s [] = 0 ∧ applyS s [] = s ∧ applyEv s [] = [] := apply_nil (l := nowL s) (b := true) (by simp [mayDoB, doTo, fresh, mutB, checkL, madeL, inB, comeL, stepC, evOf, laid, findL, afterE, layL, takeL, tlt, teq, ByteArray.toList_eq, Op.bytesLess, ByteArray.size, nowL, foldL, stepL, above, shrinkS, keptE, atL, atE, X0, Y1, Y2, tA, tV, tW, tU, tN, g1, f1, f2]) rfl
theorem a13 : applyE Y1 [⟨true, tA, tN, 0⟩] = 0 ∧ applyS Y1 [⟨true, tA, tN, 0⟩] = Y2 ∧ applyEv Y1 [⟨true, tA, tN, 0⟩] = [f2] := apply_eq (l := []) (by simp [mayDoB, doTo, fresh, mutB, checkL, madeL, inB, comeL, stepC, evOf, laid, findL, afterE, layL, takeL, tlt, teq, ByteArray.toList_eq, Op.bytesLess, ByteArray.size, nowL, foldL, stepL, above, shrinkS, keptE, atL, atE, X0, Y1, Y2, tA, tV, tW, tU, tN, g1, f1, f2]) (by rw [y1now]; simp [mayDoB, doTo, fresh, mutB, checkL, madeL, inB, comeL, stepC, evOf, laid, findL, afterE, layL, takeL, tlt, teq, ByteArray.toList_eq, Op.bytesLess, ByteArray.size, nowL, foldL, stepL, above, shrinkS, keptE, atL, atE, X0, Y1, Y2, tA, tV, tW, tU, tN, g1, f1, f2]) (by simp) (by decide) (by decide)
theorem y2may : MaySt Y2 := by have h := apply_may y1may [⟨true, tA, tN, 0⟩]; rwa [a13.2.1] at h
theorem z1 : doE X0 (putT tA tV 5) = 0 ∧ doS X0 (putT tA tV 5) = Y1 ∧ doV X0 (putT tA tV 5) = [f1] ∧ doY X0 (putT tA tV 5) = true := do_eq (b := true) (by simp [txMayB, askB, allB, holdsB, holdsX, thingL, numB, txtB, findL, tlt, teq, ByteArray.toList_eq, Op.bytesLess, tA, tV, tW, tU, tN, g1, f1, f2, q5, q6, q7, t5, madeC, putT, dropT]) (by rw [y0now]; simp [txMayB, askB, allB, holdsB, holdsX, thingL, numB, txtB, findL, tlt, teq, ByteArray.toList_eq, Op.bytesLess, tA, tV, tW, tU, tN, g1, f1, f2, q5, q6, q7, t5, madeC, putT, dropT]) rfl a11
theorem z2 : doE Y1 (putT tA tW 6) = 0 ∧ doS Y1 (putT tA tW 6) = Y1 ∧ doV Y1 (putT tA tW 6) = [] ∧ doY Y1 (putT tA tW 6) = false := do_eq (b := false) (by simp [txMayB, askB, allB, holdsB, holdsX, thingL, numB, txtB, findL, tlt, teq, ByteArray.toList_eq, Op.bytesLess, tA, tV, tW, tU, tN, g1, f1, f2, q5, q6, q7, t5, madeC, putT, dropT]) (by rw [y1now]; simp [txMayB, askB, allB, holdsB, holdsX, thingL, numB, txtB, findL, tlt, teq, ByteArray.toList_eq, Op.bytesLess, tA, tV, tW, tU, tN, g1, f1, f2, q5, q6, q7, t5, madeC, putT, dropT]) rfl (a12 _)
theorem z3 : doE Y1 (dropT tA 2) = 0 ∧ doS Y1 (dropT tA 2) = Y1 ∧ doV Y1 (dropT tA 2) = [] ∧ doY Y1 (dropT tA 2) = false := do_eq (b := false) (by simp [txMayB, askB, allB, holdsB, holdsX, thingL, numB, txtB, findL, tlt, teq, ByteArray.toList_eq, Op.bytesLess, tA, tV, tW, tU, tN, g1, f1, f2, q5, q6, q7, t5, madeC, putT, dropT]) (by rw [y1now]; simp [txMayB, askB, allB, holdsB, holdsX, thingL, numB, txtB, findL, tlt, teq, ByteArray.toList_eq, Op.bytesLess, tA, tV, tW, tU, tN, g1, f1, f2, q5, q6, q7, t5, madeC, putT, dropT]) rfl (a12 _)
theorem z4 : doE Y1 (dropT tA 1) = 0 ∧ doS Y1 (dropT tA 1) = Y2 ∧ doV Y1 (dropT tA 1) = [f2] ∧ doY Y1 (dropT tA 1) = true := do_eq (b := true) (by simp [txMayB, askB, allB, holdsB, holdsX, thingL, numB, txtB, findL, tlt, teq, ByteArray.toList_eq, Op.bytesLess, tA, tV, tW, tU, tN, g1, f1, f2, q5, q6, q7, t5, madeC, putT, dropT]) (by rw [y1now]; simp [txMayB, askB, allB, holdsB, holdsX, thingL, numB, txtB, findL, tlt, teq, ByteArray.toList_eq, Op.bytesLess, tA, tV, tW, tU, tN, g1, f1, f2, q5, q6, q7, t5, madeC, putT, dropT]) rfl a13
theorem z5 : doE Y2 t5 = 1 ∧ doS Y2 t5 = Y2 ∧ doV Y2 t5 = [] ∧ doY Y2 t5 = false := by
  obtain ⟨e1, e2, e3, e4⟩ := do_bad (s := Y2) (t := t5) (by simp [txMayB, askB, allB, holdsB, holdsX, thingL, numB, txtB, findL, tlt, teq, ByteArray.toList_eq, Op.bytesLess, tA, tV, tW, tU, tN, g1, f1, f2, q5, q6, q7, t5, madeC, putT, dropT])
  exact ⟨e3, e1, e2, e4⟩
theorem h6 : holdsB [g1] q6 = true := by simp [txMayB, askB, allB, holdsB, holdsX, thingL, numB, txtB, findL, tlt, teq, ByteArray.toList_eq, Op.bytesLess, tA, tV, tW, tU, tN, g1, f1, f2, q5, q6, q7, t5, madeC, putT, dropT]
theorem h7 : holdsB [g1] q7 = false := by simp [txMayB, askB, allB, holdsB, holdsX, thingL, numB, txtB, findL, tlt, teq, ByteArray.toList_eq, Op.bytesLess, tA, tV, tW, tU, tN, g1, f1, f2, q5, q6, q7, t5, madeC, putT, dropT]
theorem h8 : holdsB [] (madeC tA 0) = true := by simp [txMayB, askB, allB, holdsB, holdsX, thingL, numB, txtB, findL, tlt, teq, ByteArray.toList_eq, Op.bytesLess, tA, tV, tW, tU, tN, g1, f1, f2, q5, q6, q7, t5, madeC, putT, dropT]
theorem h9 : allB [g1] [madeC tA 1, madeC tA 0] = false := by simp [txMayB, askB, allB, holdsB, holdsX, thingL, numB, txtB, findL, tlt, teq, ByteArray.toList_eq, Op.bytesLess, tA, tV, tW, tU, tN, g1, f1, f2, q5, q6, q7, t5, madeC, putT, dropT]
end Go.Proofs.Ytgafkpngnoecaaa.P
