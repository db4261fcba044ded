/- Layer 12, plain: messages in their order; no program in sight. -/
import Derived.Test.YtdmhpnobdflkfaaKvPure
namespace Go.Proofs.Ytdmhpnobdflkfaa.P
open Go
set_option linter.unusedVariables false

structure Msg where
  frm : Int
  dst : Int
  body : ByteArray
instance : Inhabited Msg := ⟨⟨0, 0, ⟨#[]⟩⟩⟩
abbrev zeroMsg : Msg := ⟨0, 0, ⟨#[]⟩⟩
theorem msg_ext {a b : Msg} (h0 : a.frm = b.frm) (h1 : a.dst = b.dst) (h2 : a.body = b.body) : a = b := by cases a; cases b; simp_all
def msgEq (a b : Msg) : Bool := decide (a.frm = b.frm) && (decide (a.dst = b.dst) && decide (a.body.toList = b.body.toList))
theorem msgEq_iff {a b : Msg} : msgEq a b = true ↔ a = b := by
  unfold msgEq
  simp only [Bool.and_eq_true, decide_eq_true_eq]
  constructor
  · rintro ⟨h0, h1, h2⟩; exact msg_ext h0 h1 (bytes_ext h2)
  · rintro rfl; exact ⟨rfl, rfl, rfl⟩
instance : DecidableEq Msg := fun a b => if h : msgEq a b = true then isTrue (msgEq_iff.1 h) else isFalse (fun e => h (msgEq_iff.2 e))
theorem msgEq_self (a : Msg) : msgEq a a = true := msgEq_iff.2 rfl
theorem msgEq_ne {a b : Msg} (h : a ≠ b) : msgEq a b = false := by
  cases hb : msgEq a b with
  | false => rfl
  | true => exact absurd (msgEq_iff.1 hb) h
def mayM (m : Msg) : Bool := decide (0 ≤ m.frm ∧ m.frm ≤ 5 ∧ 0 ≤ m.dst ∧ m.dst ≤ 5 ∧ m.frm ≠ m.dst ∧ m.body.size ≤ 4096)
theorem mayM_iff {m : Msg} : mayM m = true ↔ (0 ≤ m.frm ∧ m.frm ≤ 5 ∧ 0 ≤ m.dst ∧ m.dst ≤ 5 ∧ m.frm ≠ m.dst ∧ m.body.size ≤ 4096) := decide_eq_true_iff
def allM (l : List Msg) : Bool := l.all mayM
def bagB (b : List Msg) : Bool := decide (b.length ≤ 16) && allM b
def putE (b l : List Msg) : Int := if allM l = true then (if b.length + l.length ≤ 16 then 0 else 4) else 1
def putL (b l : List Msg) : List Msg := if putE b l = 0 then b ++ l else b
def hasM (b : List Msg) (i : Int) : Bool := decide (0 ≤ i ∧ i < b.length)
theorem hasM_iff {b : List Msg} {i : Int} : hasM b i = true ↔ (0 ≤ i ∧ i < b.length) := decide_eq_true_iff
def tkE (b : List Msg) (i : Int) : Int := if hasM b i = true then 0 else 5
def tkM (b : List Msg) (i : Int) : Msg := if hasM b i = true then (b[i.toNat]?).getD zeroMsg else zeroMsg
def without (b : List Msg) (k : Nat) : List Msg := b.take k ++ b.drop (k + 1)
def tkL (b : List Msg) (i : Int) : List Msg := if hasM b i = true then without b i.toNat else b
def cpE (b : List Msg) (i : Int) : Int := if hasM b i = true then (if b.length < 16 then 0 else 4) else 5
def cpL (b : List Msg) (i : Int) : List Msg := if cpE b i = 0 then b ++ [tkM b i] else b
def isM (f t : Int) (m : Msg) : Bool := decide (m.frm = f ∧ m.dst = t)
def hitM (b : List Msg) (f t : Int) (k : Nat) : Bool := match b[k]? with | some m => isM f t m | none => false
def btwTo (b : List Msg) (f t : Int) (j : Nat) : List Int := ((List.range j).filter (hitM b f t)).map Int.ofNat
def btwL (b : List Msg) (f t : Int) : List Int := btwTo b f t b.length

theorem btw_more {b : List Msg} {f t : Int} {j : Nat} {m : Msg} (h : b[j]? = some m) : btwTo b f t (j + 1) = if isM f t m = true then btwTo b f t j ++ [(j : Int)] else btwTo b f t j := by
  have hh : hitM b f t j = isM f t m := by unfold hitM; rw [h]
  unfold btwTo
  rw [List.range_succ, List.filter_append, List.map_append]
  cases hm : isM f t m <;> simp [hh, hm]
theorem btw_len {b : List Msg} {f t : Int} (j : Nat) : (btwTo b f t j).length ≤ j := by
  unfold btwTo
  rw [List.length_map]
  exact Nat.le_trans (List.length_filter_le _ _) (by rw [List.length_range]; omega)
theorem take_more {α : Type} (l : List α) (k : Nat) (x : α) (h : l[k]? = some x) : l.take (k + 1) = l.take k ++ [x] := by
  rw [List.take_add_one, h]; rfl
theorem btw_count (b : List Msg) (f t : Int) : ∀ j, j ≤ b.length → (btwTo b f t j).length = (b.take j).countP (isM f t)
  | 0, _ => rfl
  | j + 1, hj => by
    have hx : b[j]? = some b[j] := List.getElem?_eq_getElem (by omega)
    rw [btw_more hx, take_more b j _ hx, List.countP_append, ← btw_count b f t j (by omega)]
    cases hm : isM f t b[j] <;> simp [hm]
theorem btw_count' (b : List Msg) (f t : Int) : (btwL b f t).length = b.countP (isM f t) := by
  have := btw_count b f t b.length (Nat.le_refl _)
  rw [List.take_length] at this; exact this
theorem btw_mem {b : List Msg} {f t : Int} {k : Nat} {z : Int} (h : (btwL b f t)[k]? = some z) : ∃ (j : Nat) (m : Msg), z = (j : Int) ∧ j < b.length ∧ b[j]? = some m ∧ m.frm = f ∧ m.dst = t := by
  have hz := List.mem_of_getElem? h
  unfold btwL btwTo at hz
  obtain ⟨j, hj, rfl⟩ := List.mem_map.1 hz
  obtain ⟨h1, h2⟩ := List.mem_filter.1 hj
  have hl := List.mem_range.1 h1
  unfold hitM at h2
  rw [List.getElem?_eq_getElem hl] at h2
  have := decide_eq_true_iff.1 h2
  exact ⟨j, b[j], rfl, hl, List.getElem?_eq_getElem hl, this.1, this.2⟩
theorem btw_rise {b : List Msg} {f t : Int} {k : Nat} {y z : Int} (hy : (btwL b f t)[k]? = some y) (hz : (btwL b f t)[k + 1]? = some z) : y < z := by
  have hp : List.Pairwise (fun a c : Int => a < c) (btwL b f t) := by
    unfold btwL btwTo
    refine List.Pairwise.map Int.ofNat (fun a c (h : a < c) => ?_) ((List.pairwise_lt_range (n := b.length)).filter _)
    exact Int.ofNat_lt.2 h
  obtain ⟨h1, rfl⟩ := List.getElem?_eq_some_iff.1 hy
  obtain ⟨h2, rfl⟩ := List.getElem?_eq_some_iff.1 hz
  exact List.pairwise_iff_getElem.1 hp k (k + 1) h1 h2 (by omega)

theorem without_len {b : List Msg} {k : Nat} (h : k < b.length) : (without b k).length = b.length - 1 := by
  unfold without; rw [List.length_append, List.length_take, List.length_drop]; omega
theorem without_split {b : List Msg} {k : Nat} {m : Msg} (h : b[k]? = some m) : b = b.take k ++ [m] ++ b.drop (k + 1) := by
  obtain ⟨hk, rfl⟩ := List.getElem?_eq_some_iff.1 h
  rw [List.append_assoc, List.singleton_append, ← List.drop_eq_getElem_cons hk, List.take_append_drop]
theorem without_count {b : List Msg} {k : Nat} {m : Msg} (p : Msg → Bool) (h : b[k]? = some m) : b.countP p = (without b k).countP p + (if p m = true then 1 else 0) := by
  have e := congrArg (List.countP p) (without_split h)
  rw [List.countP_append, List.countP_append] at e
  unfold without
  rw [List.countP_append, e]
  cases hm : p m <;> simp [hm]; omega
theorem without_all {b : List Msg} {k : Nat} (h : allM b = true) : allM (without b k) = true := by
  unfold allM at h ⊢
  rw [List.all_eq_true] at h ⊢
  intro x hx
  rcases List.mem_append.1 hx with hx | hx
  · exact h x (List.mem_of_mem_take hx)
  · exact h x (List.mem_of_mem_drop hx)
theorem without_low {b : List Msg} {k j : Nat} (h : j < k) (hk : k ≤ b.length) : (without b k)[j]? = b[j]? := by
  unfold without
  rw [List.getElem?_append_left (by rw [List.length_take]; omega), List.getElem?_take_of_lt h]
theorem without_high {b : List Msg} {k j : Nat} (h : k ≤ j) (hk : k < b.length) : (without b k)[j]? = b[j + 1]? := by
  unfold without
  rw [List.getElem?_append_right (by rw [List.length_take]; omega), List.length_take, List.getElem?_drop]
  congr 1; omega
theorem all_app (a b : List Msg) : allM (a ++ b) = (allM a && allM b) := List.all_append
theorem bag_iff {b : List Msg} : bagB b = true ↔ (b.length ≤ 16 ∧ allM b = true) := by unfold bagB; rw [Bool.and_eq_true, decide_eq_true_iff]
theorem put_may {b l : List Msg} (h : bagB b = true) : bagB (putL b l) = true := by
  unfold putL putE
  by_cases ha : allM l = true
  · rw [if_pos ha]
    by_cases hn : b.length + l.length ≤ 16
    · rw [if_pos hn, if_pos rfl]
      exact bag_iff.2 ⟨by rw [List.length_append]; exact hn, by rw [all_app, (bag_iff.1 h).2, ha]; rfl⟩
    · rw [if_neg hn, if_neg (by omega)]; exact h
  · rw [if_neg ha, if_neg (by omega)]; exact h
theorem has_at {b : List Msg} {i : Int} (h : hasM b i = true) : b[i.toNat]? = some (tkM b i) := by
  have hh := hasM_iff.1 h
  unfold tkM
  rw [if_pos h, List.getElem?_eq_getElem (by omega)]
  rfl
theorem take_may {b : List Msg} {i : Int} (h : bagB b = true) : bagB (tkL b i) = true := by
  unfold tkL
  by_cases hh : hasM b i = true
  · rw [if_pos hh]
    have := hasM_iff.1 hh
    exact bag_iff.2 ⟨by rw [without_len (by omega)]; have := (bag_iff.1 h).1; omega, without_all (bag_iff.1 h).2⟩
  · rw [if_neg hh]; exact h
theorem copy_may {b : List Msg} {i : Int} (h : bagB b = true) : bagB (cpL b i) = true := by
  unfold cpL cpE
  by_cases hh : hasM b i = true
  · rw [if_pos hh]
    by_cases hn : b.length < 16
    · rw [if_pos hn, if_pos rfl]
      refine bag_iff.2 ⟨by rw [List.length_append]; exact hn, ?_⟩
      rw [all_app, (bag_iff.1 h).2]
      have hm : tkM b i ∈ b := List.mem_of_getElem? (has_at hh)
      have := List.all_eq_true.1 (bag_iff.1 h).2 _ hm
      show (true && ([tkM b i].all mayM)) = true
      simp [this]
    · rw [if_neg hn, if_neg (by omega)]; exact h
  · rw [if_neg hh, if_neg (by omega)]; exact h
theorem put_err {b l : List Msg} (h : putE b l ≠ 0) : putL b l = b := by unfold putL; rw [if_neg h]
theorem put_ok {b l : List Msg} (h : putE b l = 0) : putL b l = b ++ l := by unfold putL; rw [if_pos h]
theorem tk_err {b : List Msg} {i : Int} (h : hasM b i = false) : tkL b i = b ∧ tkM b i = zeroMsg ∧ tkE b i = 5 := by unfold tkL tkM tkE; simp [h]
theorem tk_ok {b : List Msg} {i : Int} (h : hasM b i = true) : tkL b i = without b i.toNat ∧ tkE b i = 0 := by unfold tkL tkE; simp [h]
theorem cp_err {b : List Msg} {i : Int} (h : cpE b i ≠ 0) : cpL b i = b := by unfold cpL; rw [if_neg h]
theorem cp_ok {b : List Msg} {i : Int} (h : cpE b i = 0) : cpL b i = b ++ [tkM b i] ∧ hasM b i = true := by
  refine ⟨by unfold cpL; rw [if_pos h], ?_⟩
  unfold cpE at h
  cases hh : hasM b i with
  | true => rfl
  | false => rw [hh] at h; simp at h
theorem without_end (b : List Msg) (m : Msg) : without (b ++ [m]) b.length = b := by
  unfold without
  rw [List.take_left' rfl, List.drop_eq_nil_of_le (by rw [List.length_append]; exact Nat.le_refl _), List.append_nil]
theorem without_put (b l : List Msg) (k : Nat) (h : k < l.length) : without (b ++ l.take (k + 1)) (b.length + k) = b ++ l.take k := by
  rw [take_more l k _ (List.getElem?_eq_getElem h), ← List.append_assoc]
  have e : b.length + k = (b ++ l.take k).length := by rw [List.length_append, List.length_take]; omega
  rw [e]
  exact without_end _ _
theorem put_at (b l : List Msg) (k : Nat) (h : k < l.length) : (b ++ l.take (k + 1))[b.length + k]? = l[k]? := by
  rw [List.getElem?_append_right (by omega), show b.length + k - b.length = k by omega, List.getElem?_take_of_lt (by omega)]
end Go.Proofs.Ytdmhpnobdflkfaa.P
