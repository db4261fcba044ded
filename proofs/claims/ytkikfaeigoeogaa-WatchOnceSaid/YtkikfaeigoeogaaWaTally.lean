/- Layer 7, plain: a map from revisions to the numbers of their events. -/
import Derived.Test.YtkikfaeigoeogaaWaPure
import Derived.Lib.SlKeysI
namespace Go.Proofs.Ytkikfaeigoeogaa.P
open Go Go.RowKit
set_option linter.unusedVariables false
set_option linter.unusedSimpArgs false
/-! The tally: a map from revisions to numbers. -/
def numD : DataW Unit → Int
  | .lit (.int _ c) => c
  | _ => 0
def bumpD (D : DataW Unit) (x : Int) : DataW Unit := D.put (.int .i64 x) (.lit (.int .i64 (wrap64 (numD (D.atKey (.int .i64 x) (.lit (.int .i64 0))) + 1))))
def tallyD (l : List Int) : DataW Unit := l.foldl bumpD (.map [])
theorem tally_snoc (l : List Int) (x : Int) : tallyD (l ++ [x]) = bumpD (tallyD l) x := by simp [tallyD]
theorem tally_is (l : List Int) (hl : l.length ≤ 1000000) : Maps.IsMap (tallyD l) ∧ (∀ x : Int, Maps.has (tallyD l) (.int .i64 x) = decide (x ∈ l)) ∧ ∀ x : Int, (tallyD l).atKey (.int .i64 x) (.lit (.int .i64 0)) = .lit (.int .i64 (l.count x : Int)) := by
  have key : ∀ n, n ≤ l.length → Maps.IsMap (tallyD (l.take n)) ∧ (∀ x : Int, Maps.has (tallyD (l.take n)) (.int .i64 x) = decide (x ∈ l.take n)) ∧ ∀ x : Int, (tallyD (l.take n)).atKey (.int .i64 x) (.lit (.int .i64 0)) = .lit (.int .i64 ((l.take n).count x : Int)) := by
    intro n
    induction n with
    | zero => intro _; exact ⟨⟨[], rfl⟩, fun x => rfl, fun x => rfl⟩
    | succ n ih =>
      intro hn
      obtain ⟨i1, i2, i3⟩ := ih (by omega)
      have hz : l[n]? = some l[n] := List.getElem?_eq_getElem (by omega)
      obtain ⟨z, hzz⟩ : ∃ z, l[n]? = some z := ⟨_, hz⟩
      have ht : l.take (n + 1) = l.take n ++ [z] := by rw [List.take_add_one, hzz]; rfl
      rw [ht, tally_snoc]
      have hkey : WideAt.IsKeyLit (.int .i64 z) := trivial
      have hcl : (l.take n).count z ≤ n := Nat.le_trans List.count_le_length (by rw [List.length_take]; omega)
      refine ⟨i1.put _ _, fun x => ?_, fun x => ?_⟩
      · by_cases e : x = z
        · subst e; unfold bumpD; rw [Maps.has_put_same i1 hkey]; simp
        · unfold bumpD; rw [Maps.has_put_other (by intro h; cases h; exact e rfl), i2]; simp [e]
      · by_cases e : x = z
        · subst e; unfold bumpD
          rw [Maps.atKey_put_same i1 hkey, i3]
          show DataW.lit (.int .i64 (wrap64 (((l.take n).count x : Int) + 1))) = _
          rw [List.count_append, List.count_singleton_self, IntWalk.wrap64_in _ (by omega)]
          simp
        · unfold bumpD
          rw [Maps.atKey_put_other (by intro h; cases h; exact e rfl), i3, List.count_append]
          rw [List.count_singleton, if_neg (by simpa using fun h => e h.symm)]
          simp
  have := key l.length (Nat.le_refl _)
  rwa [List.take_length] at this
theorem cnt_count (es : List Ev) (r : Int) : (revsL es).count r = cntL es r := by
  unfold revsL cntL
  rw [List.count_eq_countP, List.countP_map]
  refine List.countP_congr fun e _ => ?_
  simp
end Go.Proofs.Ytkikfaeigoeogaa.P
