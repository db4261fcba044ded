/- Reading and writing, plain: what is written is read; what is read is written so. -/
import Derived.Test.YtimbklggifbibaaGreatDoorWirePure
import Derived.Test.YtimbklggifbibaaGreatDoorShiftMath
namespace Go.Proofs.YtimbklggifbibaaGreatDoor.P
open Go.RowKit Go.Lib
set_option linter.unusedVariables false

/-- From p to p' stand the bytes t, and nothing was wrong. -/
def Got (s : ByteArray) (p p' : Nat × Bool) (t : List UInt8) : Prop := p.2 = false ∧ p'.2 = false ∧ s.data.toList.drop p.1 = t ++ s.data.toList.drop p'.1
theorem Got.trans {s : ByteArray} {p q r : Nat × Bool} {t u : List UInt8} (h : Got s p q t) (k : Got s q r u) : Got s p r (t ++ u) :=
  ⟨h.1, k.2.1, by rw [h.2.2, k.2.2, List.append_assoc]⟩
theorem num_put {s : ByteArray} {a n : Nat} {r : List UInt8} (h : s.data.toList.drop a = varL n ++ r) (hn : n ≤ 1099511627775) : numR s (a, false) = (n, (a + (varL n).length, false)) := by
  have hr := read_var r 9 n 0 0 rfl (by omega) (by omega)
  have e : varF 9 n = varL n := rfl
  rw [e, ← h] at hr
  unfold numR
  simp [hr, hn]
theorem num_got {s : ByteArray} {p : Nat × Bool} (h : (numR s p).2.2 = false) : Got s p (numR s p).2 (varL (numR s p).1) := by
  obtain ⟨a, bad⟩ := p
  unfold numR at h ⊢
  cases bad with
  | true => simp at h
  | false =>
    simp only [Bool.false_eq_true, if_false] at h ⊢
    split at h
    · rename_i hc
      rw [if_pos hc]
      obtain ⟨v, c, e, hr⟩ : ∃ v c e, readR (s.data.toList.drop a) 0 0 = (v, c, e) := ⟨_, _, _, rfl⟩
      simp only [hr] at hc ⊢
      obtain ⟨rfl, hv⟩ := hc
      obtain ⟨q, hq, _, _, _, ht⟩ := var_read _ 0 0 v c (by omega) hr
      have hvq : v = q := by omega
      subst hvq
      refine ⟨rfl, rfl, ?_⟩
      have e : varL v = (s.data.toList.drop a).take c := ht.symm
      rw [e, ← List.drop_drop, List.take_append_drop]
    · simp at h

theorem ext_list (s : ByteArray) (i k : Nat) : (s.extract i (i + k)).data.toList = (s.data.toList.drop i).take k := by
  rw [ByteArray.data_extract, Array.toList_extract, List.extract_eq_take_drop]
  simp
theorem drop_len (s : ByteArray) (i : Nat) : (s.data.toList.drop i).length = s.size - i := by rw [List.length_drop]; rfl
theorem txt_put {s t : ByteArray} {a : Nat} {r : List UInt8} (h : s.data.toList.drop a = varL t.size ++ (t.data.toList ++ r)) (ht : t.size ≤ 1099511627775) : txtR s (a, false) = (t, (a + (varL t.size ++ t.data.toList).length, false)) := by
  have hn := num_put h ht
  have hd : s.data.toList.drop (a + (varL t.size).length) = t.data.toList ++ r := by
    rw [← List.drop_drop, h, List.drop_left]
  have hl : t.data.toList.length = t.size := by simp
  have hs := drop_len s (a + (varL t.size).length)
  rw [hd, List.length_append, hl] at hs
  unfold txtR
  rw [hn]
  simp only
  rw [if_neg (by omega), List.length_append, hl, Nat.add_assoc]
  congr 1
  apply ByteArray.ext
  rw [← Array.toList_inj, ← Nat.add_assoc, ext_list, hd, List.take_left' hl]
theorem txt_got {s : ByteArray} {p : Nat × Bool} (hp : p.1 ≤ s.size) (h : (txtR s p).2.2 = false) : Got s p (txtR s p).2 (varL (txtR s p).1.size ++ (txtR s p).1.data.toList) := by
  have ha := (numR_at s p hp).2
  unfold txtR at h ⊢
  split at h
  · simp at h
  · rename_i hlt
    rw [if_neg hlt]
    simp only at h ⊢
    have g := num_got h
    generalize numR s p = q at *
    obtain ⟨k, a, bad⟩ := q
    simp only at *
    have hl : (s.extract a (a + k)).data.toList.length = k := by
      rw [ext_list, List.length_take, drop_len]; omega
    have hsz : (s.extract a (a + k)).size = k := by
      have e2 : (s.extract a (a + k)).data.toList.length = (s.extract a (a + k)).data.size := Array.length_toList
      exact e2.symm.trans hl
    rw [hsz, ext_list]
    refine g.trans ⟨h, h, ?_⟩
    rw [← List.drop_drop, List.take_append_drop]
theorem var_one : varL 1 = [1] := by decide
theorem var_zero : varL 0 = [0] := by decide
theorem yes_put {s : ByteArray} {a : Nat} {y : Bool} {r : List UInt8} (h : s.data.toList.drop a = [if y then (1 : UInt8) else 0] ++ r) : yesR s (a, false) = (y, (a + 1, false)) := by
  cases y with
  | true =>
    have hn := num_put (n := 1) (by rw [var_one]; exact h) (by omega)
    unfold yesR uptoR; rw [hn, var_one]; simp
  | false =>
    have hn := num_put (n := 0) (by rw [var_zero]; exact h) (by omega)
    unfold yesR uptoR; rw [hn, var_zero]; simp
theorem yes_got {s : ByteArray} {p : Nat × Bool} (h : (yesR s p).2.2 = false) : Got s p (yesR s p).2 [if (yesR s p).1 then (1 : UInt8) else 0] := by
  unfold yesR uptoR at h ⊢
  simp only at h ⊢
  split at h
  · simp at h
  · rename_i hlt
    rw [if_neg hlt]
    have g := num_got h
    rcases Nat.lt_or_ge (numR s p).1 1 with h0 | h1
    · have e : (numR s p).1 = 0 := by omega
      rw [e] at g ⊢; simpa [var_zero] using g
    · have e : (numR s p).1 = 1 := by omega
      rw [e] at g ⊢; simpa [var_one] using g
end Go.Proofs.YtimbklggifbibaaGreatDoor.P
