/- Layer 2: what lies under a prefix, and what id a key tells. -/
import Derived.Test.YtcaapnjipjemiaaDoorKeyTick
namespace Go.Proofs.YtcaapnjipjemiaaDoor.P
open Go.RowKit
set_option maxHeartbeats 400000
set_option linter.unusedVariables false
set_option maxRecDepth 100000

/-! ### Beginning with a prefix -/
theorem ext_list {a b : ByteArray} (h : a.data.toList = b.data.toList) : a = b := by
  apply ByteArray.ext; exact Array.ext' h
theorem app_list (s t : ByteArray) : (s ++ t).data.toList = s.data.toList ++ t.data.toList := by simp
theorem extract_list (s : ByteArray) (a b : Nat) : (s.extract a b).data.toList = (s.data.toList.take b).drop a := by
  rw [ByteArray.data_extract, Array.toList_extract, List.drop_take]
theorem head_app (p r : ByteArray) : (p ++ r).extract 0 p.size = p := by
  apply ext_list
  rw [extract_list, app_list, ← list_size, List.take_left']
  · rfl
  · rfl
theorem tail_app (p r : ByteArray) : (p ++ r).extract p.size (p.size + r.size) = r := by
  apply ext_list
  rw [extract_list, app_list, ← list_size p, ← list_size r, ← List.length_append, List.take_length, List.drop_left]
theorem parts (k : ByteArray) (n : Nat) (h : n ≤ k.size) : k = k.extract 0 n ++ k.extract n k.size := by
  apply ext_list
  rw [app_list, extract_list, extract_list, ← list_size k, List.take_length, List.drop_zero, List.take_append_drop]
theorem size_app (p r : ByteArray) : (p ++ r).size = p.size + r.size := ByteArray.size_append

/-- k begins with p. -/
def Begins (p k : ByteArray) : Prop := ∃ r, k = p ++ r
theorem begins_not {p k : ByteArray} (h : ¬ Begins p k) (hs : p.size ≤ k.size) : ((k.extract 0 p.size).toList == p.toList) = false := by
  rw [ByteArray.toList_eq, ByteArray.toList_eq]
  cases hh : ((k.extract 0 p.size).data.toList == p.data.toList)
  · rfl
  · exfalso
    apply h
    have e := ext_list (beq_iff_eq.1 hh)
    refine ⟨k.extract p.size k.size, ?_⟩
    have := parts k p.size hs
    rw [e] at this
    exact this

def isHex (c : UInt8) : Bool := (decide (48 ≤ c.toNat) && decide (c.toNat ≤ 57)) || (decide (97 ≤ c.toNat) && decide (c.toNat ≤ 102))
def worth (c : UInt8) : Nat := if c.toNat ≤ 57 then c.toNat - 48 else c.toNat - 87
def digB : ByteArray := ⟨#[48, 49, 50, 51, 52, 53, 54, 55, 56, 57, 97, 98, 99, 100, 101, 102]⟩
theorem idx_fin : ∀ x : Fin 256, firstIdx ⟨#[48, 49, 50, 51, 52, 53, 54, 55, 56, 57, 97, 98, 99, 100, 101, 102]⟩ (UInt8.ofNat x.1) = if isHex (UInt8.ofNat x.1) = true then (worth (UInt8.ofNat x.1) : Int) else -1 := by decide +kernel
theorem idx_all (c : UInt8) : firstIdx ⟨#[48, 49, 50, 51, 52, 53, 54, 55, 56, 57, 97, 98, 99, 100, 101, 102]⟩ c = if isHex c = true then (worth c : Int) else -1 := by
  have h := idx_fin ⟨c.toNat, c.toNat_lt⟩
  simp only [UInt8.ofNat_toNat] at h
  exact h
theorem worth_lt {c : UInt8} (h : isHex c = true) : worth c < 16 := by
  simp only [isHex, Bool.or_eq_true, Bool.and_eq_true, decide_eq_true_eq] at h
  unfold worth
  split <;> omega

def unhexN (l : List UInt8) : Nat := l.foldl (fun a c => 16 * a + worth c) 0
theorem unhexN_snoc (l : List UInt8) (c : UInt8) : unhexN (l ++ [c]) = 16 * unhexN l + worth c := by
  unfold unhexN; rw [List.foldl_append]; rfl
theorem take_snoc (s : ByteArray) (k : Nat) (h : k < s.size) : s.data.toList.take (k + 1) = s.data.toList.take k ++ [s[k]] := by
  rw [List.take_succ_eq_append_getElem (by simpa using h)]; rfl
theorem unhexN_lt (l : List UInt8) (h : l.all isHex = true) : unhexN l < 16 ^ l.length := by
  generalize hn : l.length = n
  induction n generalizing l with
  | zero =>
    have : l = [] := List.length_eq_zero_iff.1 hn
    subst this; simp [unhexN]
  | succ n ih =>
    have hne : l ≠ [] := by intro h; subst h; simp at hn
    obtain ⟨l', c, rfl⟩ : ∃ l' c, l = l' ++ [c] := ⟨l.dropLast, l.getLast hne, (List.dropLast_concat_getLast hne).symm⟩
    rw [unhexN_snoc]
    simp only [List.all_append, List.all_cons, List.all_nil, Bool.and_true, Bool.and_eq_true] at h
    have := ih l' h.1 (by simpa using hn)
    have := worth_lt h.2
    rw [Nat.pow_succ]
    omega
theorem or16_nat (a b : Nat) (ha : a ≤ 15) (hb : b ≤ 68719476735) : (BitVec.ofInt 64 ((b : Int) * 16) ||| BitVec.ofInt 64 (a : Int)).toNat = 16 * b + a := by
  have e : ((b : Int) * 16) = ((16 * b : Nat) : Int) := by omega
  rw [BitVec.toNat_or, e]
  simp only [BitVec.toNat_ofInt]
  have h1 : ((16 * b : Nat) : Int) % ((2 ^ 64 : Nat) : Int) = ((16 * b : Nat) : Int) := Int.emod_eq_of_lt (by omega) (by simp; omega)
  have h2 : ((a : Nat) : Int) % ((2 ^ 64 : Nat) : Int) = (a : Int) := Int.emod_eq_of_lt (by omega) (by simp; omega)
  rw [h1, h2, Int.toNat_natCast, Int.toNat_natCast]
  have := Nat.two_pow_add_eq_or_of_lt (show a < 2 ^ 4 by omega) b
  simpa using this.symm
theorem or16 (b a : Nat) (ha : a ≤ 15) (hb : b ≤ 68719476735) : bits .or .i64 ((b : Int) * 16) (a : Int) = ((16 * b + a : Nat) : Int) := by
  rw [bits.eq_2]
  have e : (BitVec.ofInt IntKind.i64.bits ((b : Int) * 16) ||| BitVec.ofInt IntKind.i64.bits (a : Int)).toNat = 16 * b + a := or16_nat a b (by omega) (by omega)
  rw [e]
  exact IntWalk.i64_in _ (by omega)

def hexAll (r : ByteArray) : Bool := r.data.toList.all isHex
def idV (r : ByteArray) : Int := if hexAll r = true then (unhexN r.data.toList : Int) else 0
theorem idV_yes {r : ByteArray} (h : r.data.toList.all isHex = true) : idV r = (unhexN r.data.toList : Int) ∧ hexAll r = true := ⟨if_pos h, h⟩
theorem idV_no {r : ByteArray} (h : r.data.toList.all isHex = false) : idV r = 0 ∧ hexAll r = false := ⟨if_neg (by unfold hexAll; rw [h]; simp), h⟩
theorem ret_ib {a b : Int} {x y : Bool} (h : a = b) (g : x = y) : Ending.returned (.tuple #[.int .i64 a, .bool x]) = .returned (.tuple #[.int .i64 b, .bool y]) := by rw [h, g]
end Go.Proofs.YtcaapnjipjemiaaDoor.P
