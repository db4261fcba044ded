/- What two Puts and two Drops of one key do, plain. -/
import Derived.Test.YtgafkpngnoecaaaTxDo
import Derived.Test.YtgafkpngnoecaaaTxMake
import Derived.Test.YtgafkpngnoecaaaMvApart
namespace Go.Proofs.Ytgafkpngnoecaaa.P
open Go.RowKit
set_option linter.unusedVariables false

theorem apply_bare (s : St) : applyE s [] = 0 ∧ applyS s [] = s ∧ applyEv s [] = [] := by
  have he : eventsOf s [] = [] := rfl
  have hE : applyE s [] = 0 := by unfold applyE; rw [if_neg (by decide), if_pos he]
  have ha : ¬ applied s [] := fun h => h.2 he
  exact ⟨hE, if_neg ha, if_neg ha⟩
theorem thing_cre {s : St} (h : MaySt s) (k : ByteArray) : (∀ x, findL (nowL s) k = some x → 1 ≤ x.cre ∧ 1 ≤ x.mod ∧ x.mod ≤ s.rev) := by
  intro x hx
  have hm := (findL_mem _ _ _ hx).1
  have h1 := may_one h.now.may x hm
  unfold oneB at h1
  rw [Bool.and_eq_true, decide_eq_true_eq] at h1
  have h2 := h.now.mod x hm
  unfold OneP at h1
  omega
theorem put_may (k v : ByteArray) (l : Int) : txMayB (putT k v l) = true := by simp [txMayB, askB]
theorem drop_may (k : ByteArray) (rev : Int) : txMayB (dropT k rev) = true := by simp [txMayB, askB]
theorem made_holds (l : List KV) (k : ByteArray) (rev : Int) : allB l [madeC k rev] = decide ((thingL l k).cre = rev) := by simp [allB, holdsB, holdsX, numB]
theorem put_asks {s : St} (h : MaySt s) (k : ByteArray) : allB (nowL s) [madeC k 0] = !(findL (nowL s) k).isSome := by
  rw [made_holds]
  cases hf : findL (nowL s) k with
  | none => unfold thingL; rw [hf]; rfl
  | some x =>
    have := thing_cre h k x hf
    unfold thingL; rw [hf]
    exact decide_eq_false (show ¬ x.cre = 0 by omega)
/-- A deed whose question doesn't hold, and that has nothing else to do. -/
theorem do_idle {s : St} {t : Tx} (hm : txMayB t = true) (ha : allB (nowL s) t.iff = false) (he : t.els = []) : doE s t = 0 ∧ doS s t = s ∧ doV s t = [] ∧ doY s t = false := by
  have hp : pickL s t = [] := by unfold pickL; rw [ha, he]; rfl
  obtain ⟨e1, e2, e3, e4⟩ := do_parts (s := s) hm
  obtain ⟨b1, b2, b3⟩ := apply_bare s
  rw [hp] at e1 e2 e3 e4
  rw [e1, e2, e3, e4, ha, b1, b2, b3]
  exact ⟨rfl, rfl, rfl, rfl⟩
theorem do_pick {s : St} {t : Tx} (hm : txMayB t = true) (ha : allB (nowL s) t.iff = true) : doE s t = applyE s t.thn ∧ doS s t = applyS s t.thn ∧ doY s t = decide (applyE s t.thn = 0) := by
  have hp : pickL s t = t.thn := by unfold pickL; rw [ha]; rfl
  obtain ⟨e1, e2, e3, e4⟩ := do_parts (s := s) hm
  rw [hp] at e1 e2 e3 e4
  rw [e1, e3, e4, ha]
  exact ⟨rfl, rfl, rfl⟩
/-- A Put that is well done told whether the key was not there. -/
theorem put_yes {s : St} (h : MaySt s) {k v : ByteArray} {l : Int} (he : doE s (putT k v l) = 0) : doY s (putT k v l) = !(findL (nowL s) k).isSome := by
  rw [(do_fine he).2.2.2.2]
  exact put_asks h k
/-- Behind a Put that is well done the key is there. -/
theorem put_there {s : St} (h : MaySt s) {k v : ByteArray} {l : Int} (he : doE s (putT k v l) = 0) : (findL (nowL (doS s (putT k v l))) k).isSome = true := by
  have hA := put_asks h k
  cases hf : (findL (nowL s) k).isSome with
  | true =>
    rw [hf] at hA
    rw [(do_idle (put_may k v l) hA rfl).2.1]; exact hf
  | false =>
    rw [hf] at hA
    obtain ⟨p1, p2, p3⟩ := do_pick (put_may k v l) hA
    rw [p2]
    have hi := find_apply_in h (ms := [⟨false, k, v, l⟩]) (by rw [← p1]; exact he) (m := ⟨false, k, v, l⟩) (by simp)
    rw [hi]; rfl
/-- A second Put changes nothing. -/
theorem put_again {s : St} (h : MaySt s) {k v v2 : ByteArray} {l l2 : Int} (he : doE s (putT k v l) = 0) :
    doE (doS s (putT k v l)) (putT k v2 l2) = 0 ∧ doS (doS s (putT k v l)) (putT k v2 l2) = doS s (putT k v l) ∧ doV (doS s (putT k v l)) (putT k v2 l2) = [] ∧ doY (doS s (putT k v l)) (putT k v2 l2) = false :=
  do_idle (put_may k v2 l2) (by show allB _ [madeC k 0] = false; rw [put_asks (do_may h _) k, put_there h he]; rfl) rfl
/-- A Put that did nothing left the store as it was. -/
theorem put_no {s : St} (h : MaySt s) {k v : ByteArray} {l : Int} (he : doE s (putT k v l) = 0) (hy : doY s (putT k v l) = false) : doS s (putT k v l) = s := by
  rw [put_yes h he] at hy
  have hA : allB (nowL s) [madeC k 0] = false := by rw [put_asks h k]; exact hy
  exact (do_idle (put_may k v l) hA rfl).2.1
/-- What a Put laid is of the new revision: a Drop of it holds, and takes it away, if there is room. -/
theorem put_laid {s : St} (h : MaySt s) {k v : ByteArray} {l : Int} (he : doE s (putT k v l) = 0) (hy : doY s (putT k v l) = true) :
    (doS s (putT k v l)).rev = s.rev + 1 ∧ findL (nowL (doS s (putT k v l))) k = some ⟨k, v, s.rev + 1, s.rev + 1, 1, l⟩ ∧ mutB ⟨false, k, v, l⟩ = true := by
  rw [put_yes h he] at hy
  have hn : findL (nowL s) k = none := by
    cases hf : findL (nowL s) k with
    | none => rfl
    | some x => rw [hf] at hy; cases hy
  have hA : allB (nowL s) [madeC k 0] = true := by rw [put_asks h k, hn]; rfl
  obtain ⟨p1, p2, p3⟩ := do_pick (put_may k v l) hA
  have hE : applyE s [⟨false, k, v, l⟩] = 0 := by rw [← p1]; exact he
  have hi := find_apply_in h hE (m := ⟨false, k, v, l⟩) (by simp)
  have hd := (apply_now h hE).2
  have hdo := (may_do hd).2
  have hmut : mutB ⟨false, k, v, l⟩ = true := by
    simp only [doTo, Bool.and_eq_true] at hdo
    exact hdo.1.2
  have hl := events_len h hdo
  have hlen : (eventsOf s [⟨false, k, v, l⟩]).length = 1 := by rw [hl]; rfl
  have hr := (apply_rev hE).1
  rw [if_neg (by omega)] at hr
  rw [p2]
  refine ⟨hr, ?_, hmut⟩
  rw [hi]
  show some (laid (nowL s) ⟨false, k, v, l⟩ (s.rev + 1)) = _
  unfold laid
  rw [show findL (nowL s) (Mu.key ⟨false, k, v, l⟩) = none from hn]
theorem drop_asks {s : St} {k : ByteArray} {x : KV} {rev : Int} (h : findL (nowL s) k = some x) (hx : x.cre = rev) : allB (nowL s) [madeC k rev] = true := by
  rw [made_holds]; unfold thingL; rw [h]; exact decide_eq_true hx
/-- A Drop that holds: done or full; behind it the key is gone, and a second one changes nothing. -/
theorem drop_done {s : St} (h : MaySt s) {k : ByteArray} {rev : Int} (ha : allB (nowL s) [madeC k rev] = true) (hc : checkL k.data.toList = true) (h1 : 1 ≤ rev) :
    (doE s (dropT k rev) = 0 ∨ doE s (dropT k rev) = 4) ∧ (doE s (dropT k rev) = 0 → doY s (dropT k rev) = true ∧ findL (nowL (doS s (dropT k rev))) k = none ∧
      doE (doS s (dropT k rev)) (dropT k rev) = 0 ∧ doS (doS s (dropT k rev)) (dropT k rev) = doS s (dropT k rev) ∧ doV (doS s (dropT k rev)) (dropT k rev) = [] ∧ doY (doS s (dropT k rev)) (dropT k rev) = false) := by
  obtain ⟨p1, p2, p3⟩ := do_pick (s := s) (drop_may k rev) ha
  have hd : mayDoB [⟨true, k, ⟨#[]⟩, 0⟩] = true := by
    have : mutB ⟨true, k, ⟨#[]⟩, 0⟩ = true := by unfold mutB; rw [hc]; simp [ByteArray.size]
    simp [mayDoB, doTo, fresh, this]
  constructor
  · rw [p1]
    show applyE s [⟨true, k, ⟨#[]⟩, 0⟩] = 0 ∨ applyE s [⟨true, k, ⟨#[]⟩, 0⟩] = 4
    unfold applyE
    rw [if_neg (by rw [hd]; simp)]
    split
    · exact Or.inl rfl
    · split
      · exact Or.inr rfl
      · exact Or.inl rfl
  · intro he
    have hE : applyE s [⟨true, k, ⟨#[]⟩, 0⟩] = 0 := by rw [← p1]; exact he
    have hi := find_apply_in h hE (m := ⟨true, k, ⟨#[]⟩, 0⟩) (by simp)
    have hn : findL (nowL (doS s (dropT k rev))) k = none := by rw [p2]; exact hi
    refine ⟨by rw [p3]; exact decide_eq_true hE, hn, do_idle (drop_may k rev) ?_ rfl⟩
    show allB _ [madeC k rev] = false
    rw [made_holds]; unfold thingL; rw [hn]
    exact decide_eq_false (show ¬ (0 : Int) = rev by omega)
theorem mut_name {m : Mu} (h : mutB m = true) : checkL m.key.data.toList = true := by unfold mutB at h; rw [Bool.and_eq_true] at h; exact h.1
end Go.Proofs.Ytgafkpngnoecaaa.P
