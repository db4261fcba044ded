/- Layer 2: what lies under a prefix, and what id a key tells. -/
import Derived.Test.YthagkjadbfodaaaDoorKeyTick
namespace Go.Proofs.YthagkjadbfodaaaDoor.P
open Go.RowKit
set_option maxHeartbeats 400000
set_option linter.unusedVariables false
set_option maxRecDepth 100000

/-! ### Beginning with a prefix -/
theorem ext_list {a b : ByteArray} (h : a.data.toList = b.data.toList) : a = b := by
  apply ByteArray.ext; exact Array.ext' h
theorem app_list (s t : ByteArray) : (s ++ t).data.toList = s.data.toList ++ t.data.toList := by simp
theorem extract_list (s : ByteArray) (a b : Nat) : (s.extract a b).data.toList = (s.data.toList.take b).drop a := by
  rw [ByteArray.data_extract, Array.toList_extract, List.drop_take]
theorem head_app (p r : ByteArray) : (p ++ r).extract 0 p.size = p := by
  apply ext_list
  rw [extract_list, app_list, ← list_size, List.take_left']
  · rfl
  · rfl
theorem tail_app (p r : ByteArray) : (p ++ r).extract p.size (p.size + r.size) = r := by
  apply ext_list
  rw [extract_list, app_list, ← list_size p, ← list_size r, ← List.length_append, List.take_length, List.drop_left]
theorem parts (k : ByteArray) (n : Nat) (h : n ≤ k.size) : k = k.extract 0 n ++ k.extract n k.size := by
  apply ext_list
  rw [app_list, extract_list, extract_list, ← list_size k, List.take_length, List.drop_zero, List.take_append_drop]
theorem size_app (p r : ByteArray) : (p ++ r).size = p.size + r.size := ByteArray.size_append

/-- k begins with p. -/
def Begins (p k : ByteArray) : Prop := ∃ r, k = p ++ r
theorem begins_not {p k : ByteArray} (h : ¬ Begins p k) (hs : p.size ≤ k.size) : ((k.extract 0 p.size).toList == p.toList) = false := by
  rw [ByteArray.toList_eq, ByteArray.toList_eq]
  cases hh : ((k.extract 0 p.size).data.toList == p.data.toList)
  · rfl
  · exfalso
    apply h
    have e := ext_list (beq_iff_eq.1 hh)
    refine ⟨k.extract p.size k.size, ?_⟩
    have := parts k p.size hs
    rw [e] at this
    exact this

theorem hasl_yes (p r : ByteArray) (w : World) (hm : (p ++ r).size ≤ maxLen) :
    Calls Tryd.prog 61 #[.string (p ++ r), .string p] w fun e w' => e = .returned (.bool true) ∧ w = w' := by
  unfold maxLen at hm
  have hx := head_app p r
  have hz := size_app p r
  have hz1 : p.size ≤ (p ++ r).size := by omega
  rw [hz] at hm
  generalize p ++ r = k at *
  have HX := Lib.hid hx
  have hx2 : ((k.extract 0 p.size).toList == p.toList) = true := by rw [hx]; simp
  have hp1 : (p.size : Int) ≤ 9223372036854775807 := by omega
  have hk1 : (k.size : Int) ≤ 9223372036854775807 := by omega
  clear hx hz
  go_enter Tryd.func61, Tryd.ntmps61
  go_wp2
  go_ret
  exact ⟨rfl, rfl⟩
theorem hasl_no (p k : ByteArray) (w : World) (h : ¬ Begins p k) (hm : k.size ≤ maxLen) (hm2 : p.size ≤ maxLen) :
    Calls Tryd.prog 61 #[.string k, .string p] w fun e w' => e = .returned (.bool false) ∧ w = w' := by
  unfold maxLen at hm hm2
  by_cases hs : p.size ≤ k.size
  · have hx2 := begins_not h hs
    clear h
    go_enter Tryd.func61, Tryd.ntmps61
    go_wp2
    go_ret
    exact ⟨rfl, rfl⟩
  · clear h
    go_enter Tryd.func61, Tryd.ntmps61
    go_wp2
    go_ret
    exact ⟨rfl, rfl⟩

theorem cut_yes (p r : ByteArray) (w : World) (hm : (p ++ r).size ≤ maxLen) :
    Calls Tryd.prog 45 #[.string (p ++ r), .string p] w fun e w' => e = .returned (.tuple #[.string r, .bool true]) ∧ w = w' := by
  have hz := size_app p r
  have ht := tail_app p r
  have hc := fun w => hasl_yes p r w hm
  unfold maxLen at hm
  rw [← hz] at ht
  have hz1 : p.size ≤ (p ++ r).size := by omega
  generalize p ++ r = k at *
  have HC := Lib.hid hc
  have HT := Lib.hid ht
  clear hz hc ht
  go_enter Tryd.func45, Tryd.ntmps45
  go_wp2_with fail
  go_in
  go_wp2_with fail
  refine (HC.out _).mono ?_; rintro e w' ⟨rfl, rfl⟩
  go_wp2
  go_ret2
  exact ⟨by rw [HT.out]; rfl, rfl⟩
theorem cut_no (p k : ByteArray) (w : World) (h : ¬ Begins p k) (hm : k.size ≤ maxLen) (hm2 : p.size ≤ maxLen) :
    Calls Tryd.prog 45 #[.string k, .string p] w fun e w' => e = .returned (.tuple #[.string k, .bool false]) ∧ w = w' := by
  have HH := Lib.hid h
  clear h
  go_enter Tryd.func45, Tryd.ntmps45
  go_wp2_with fail
  go_in
  go_wp2_with fail
  refine (hasl_no p k _ HH.out hm hm2).mono ?_; rintro e w' ⟨rfl, rfl⟩
  go_wp2
  go_ret2
  exact ⟨rfl, rfl⟩

/-! ### Digits -/
def isHex (c : UInt8) : Bool := (decide (48 ≤ c.toNat) && decide (c.toNat ≤ 57)) || (decide (97 ≤ c.toNat) && decide (c.toNat ≤ 102))
def worth (c : UInt8) : Nat := if c.toNat ≤ 57 then c.toNat - 48 else c.toNat - 87
def digB : ByteArray := ⟨#[48, 49, 50, 51, 52, 53, 54, 55, 56, 57, 97, 98, 99, 100, 101, 102]⟩
theorem idx_fin : ∀ x : Fin 256, firstIdx ⟨#[48, 49, 50, 51, 52, 53, 54, 55, 56, 57, 97, 98, 99, 100, 101, 102]⟩ (UInt8.ofNat x.1) = if isHex (UInt8.ofNat x.1) = true then (worth (UInt8.ofNat x.1) : Int) else -1 := by decide +kernel
theorem idx_all (c : UInt8) : firstIdx ⟨#[48, 49, 50, 51, 52, 53, 54, 55, 56, 57, 97, 98, 99, 100, 101, 102]⟩ c = if isHex c = true then (worth c : Int) else -1 := by
  have h := idx_fin ⟨c.toNat, c.toNat_lt⟩
  simp only [UInt8.ofNat_toNat] at h
  exact h
theorem worth_lt {c : UInt8} (h : isHex c = true) : worth c < 16 := by
  simp only [isHex, Bool.or_eq_true, Bool.and_eq_true, decide_eq_true_eq] at h
  unfold worth
  split <;> omega

theorem ibyte_any (c : UInt8) (w : World) :
    Calls Tryd.prog 46 #[.string ⟨#[48, 49, 50, 51, 52, 53, 54, 55, 56, 57, 97, 98, 99, 100, 101, 102]⟩, .int .u8 (c.toNat : Int)] w fun e w' => e = .returned (.int .i64 (if isHex c = true then (worth c : Int) else -1)) ∧ w = w' := by
  have hrun : ∀ w, (callFunc 62 #[.string ⟨#[48, 49, 50, 51, 52, 53, 54, 55, 56, 57, 97, 98, 99, 100, 101, 102]⟩, .int .u8 (c.toNat : Int)]).run Tryd.prog w = .ok (.value (.int .i64 (if isHex c = true then (worth c : Int) else -1))) w := by
    intro w
    rw [run_callFunc_indexByte Tryd.func62 (by kernel_rfl) (by kernel_rfl) (by kernel_rfl) (by kernel_rfl), run_indexByte_string]
    have : (c.toNat : Int).toNat.toUInt8 = c := by simp
    rw [this, idx_all]
    rfl
  generalize (if isHex c = true then (worth c : Int) else -1) = v at *
  go_enter Tryd.func46, Tryd.ntmps46
  go_wp2_with fail
  go_in
  go_wp2
  go_ret
  exact ⟨rfl, rfl⟩

def unhexN (l : List UInt8) : Nat := l.foldl (fun a c => 16 * a + worth c) 0
theorem unhexN_snoc (l : List UInt8) (c : UInt8) : unhexN (l ++ [c]) = 16 * unhexN l + worth c := by
  unfold unhexN; rw [List.foldl_append]; rfl
theorem take_snoc (s : ByteArray) (k : Nat) (h : k < s.size) : s.data.toList.take (k + 1) = s.data.toList.take k ++ [s[k]] := by
  rw [List.take_succ_eq_append_getElem (by simpa using h)]; rfl
theorem unhexN_lt (l : List UInt8) (h : l.all isHex = true) : unhexN l < 16 ^ l.length := by
  generalize hn : l.length = n
  induction n generalizing l with
  | zero =>
    have : l = [] := List.length_eq_zero_iff.1 hn
    subst this; simp [unhexN]
  | succ n ih =>
    have hne : l ≠ [] := by intro h; subst h; simp at hn
    obtain ⟨l', c, rfl⟩ : ∃ l' c, l = l' ++ [c] := ⟨l.dropLast, l.getLast hne, (List.dropLast_concat_getLast hne).symm⟩
    rw [unhexN_snoc]
    simp only [List.all_append, List.all_cons, List.all_nil, Bool.and_true, Bool.and_eq_true] at h
    have := ih l' h.1 (by simpa using hn)
    have := worth_lt h.2
    rw [Nat.pow_succ]
    omega
theorem or16_nat (a b : Nat) (ha : a ≤ 15) (hb : b ≤ 68719476735) : (BitVec.ofInt 64 ((b : Int) * 16) ||| BitVec.ofInt 64 (a : Int)).toNat = 16 * b + a := by
  have e : ((b : Int) * 16) = ((16 * b : Nat) : Int) := by omega
  rw [BitVec.toNat_or, e]
  simp only [BitVec.toNat_ofInt]
  have h1 : ((16 * b : Nat) : Int) % ((2 ^ 64 : Nat) : Int) = ((16 * b : Nat) : Int) := Int.emod_eq_of_lt (by omega) (by simp; omega)
  have h2 : ((a : Nat) : Int) % ((2 ^ 64 : Nat) : Int) = (a : Int) := Int.emod_eq_of_lt (by omega) (by simp; omega)
  rw [h1, h2, Int.toNat_natCast, Int.toNat_natCast]
  have := Nat.two_pow_add_eq_or_of_lt (show a < 2 ^ 4 by omega) b
  simpa using this.symm
theorem or16 (b a : Nat) (ha : a ≤ 15) (hb : b ≤ 68719476735) : bits .or .i64 ((b : Int) * 16) (a : Int) = ((16 * b + a : Nat) : Int) := by
  rw [bits.eq_2]
  have e : (BitVec.ofInt IntKind.i64.bits ((b : Int) * 16) ||| BitVec.ofInt IntKind.i64.bits (a : Int)).toNat = 16 * b + a := or16_nat a b (by omega) (by omega)
  rw [e]
  exact IntWalk.i64_in _ (by omega)

theorem index_hex (c : UInt8) (w : World) (h : isHex c = true) :
    Calls Tryd.prog 46 #[.string ⟨#[48, 49, 50, 51, 52, 53, 54, 55, 56, 57, 97, 98, 99, 100, 101, 102]⟩, .int .u8 (c.toNat : Int)] w fun e w' => e = .returned (.int .i64 (worth c : Int)) ∧ w = w' :=
  (ibyte_any c w).mono fun e w' g => ⟨g.1.trans (by rw [if_pos h]), g.2⟩
theorem index_bad (c : UInt8) (w : World) (h : isHex c = false) :
    Calls Tryd.prog 46 #[.string ⟨#[48, 49, 50, 51, 52, 53, 54, 55, 56, 57, 97, 98, 99, 100, 101, 102]⟩, .int .u8 (c.toNat : Int)] w fun e w' => e = .returned (.int .i64 (-1)) ∧ w = w' :=
  (ibyte_any c w).mono fun e w' g => ⟨g.1.trans (by rw [if_neg (by simp [h])]), g.2⟩

def hexAll (r : ByteArray) : Bool := r.data.toList.all isHex
def idV (r : ByteArray) : Int := if hexAll r = true then (unhexN r.data.toList : Int) else 0
theorem idV_yes {r : ByteArray} (h : r.data.toList.all isHex = true) : idV r = (unhexN r.data.toList : Int) ∧ hexAll r = true := ⟨if_pos h, h⟩
theorem idV_no {r : ByteArray} (h : r.data.toList.all isHex = false) : idV r = 0 ∧ hexAll r = false := ⟨if_neg (by unfold hexAll; rw [h]; simp), h⟩
theorem ret_ib {a b : Int} {x y : Bool} (h : a = b) (g : x = y) : Ending.returned (.tuple #[.int .i64 a, .bool x]) = .returned (.tuple #[.int .i64 b, .bool y]) := by rw [h, g]
/-- What ten bytes behind a prefix tell. -/
theorem id_ten (p r : ByteArray) (w : World) (hr : r.size = 10) (hm : (p ++ r).size ≤ maxLen) :
    Calls Tryd.prog 24 #[.string p, .string (p ++ r)] w fun e w' => e = .returned (.tuple #[.int .i64 (idV r), .bool (hexAll r)]) ∧ Below w.heap.size w w' := by
  obtain ⟨C, W1, hconv, hb, hcell, hC⟩ := conv_bytes (P := Tryd.prog) w 9 78 5 r Tryd.underlying9 Tryd.underlying78 Tryd.underlying5
  have HB := Lib.hid hb
  have hc := fun w => cut_yes p r w hm
  have hr1 : r.size ≤ 10 := by omega
  have hr2 : 10 ≤ r.size := by omega
  have HR := Lib.hid hr
  have hne : ((r.size : Int) != 10) = false := by simp; omega
  generalize p ++ r = k at *
  have HC := Lib.hid hc
  clear hb hc hr hm
  go_enter Tryd.func24, Tryd.ntmps24
  go_wp2_with fail
  refine (HC.out _).mono ?_; rintro e w' ⟨rfl, rfl⟩
  go_wp2
  go_loop [8, 28] (fun n i => ∃ j : Nat, j ≤ r.size ∧ i = .int .i64 j ∧ n = .int .i64 (unhexN (r.data.toList.take j)) ∧ Hid ((r.data.toList.take j).all isHex = true)) (fun _ i => r.size - (intOf i).toNat)
  case atStart => exact ⟨0, Nat.zero_le _, rfl, rfl, rfl⟩
  case round =>
    obtain ⟨j, hj, rfl, rfl, hall⟩ := hrel
    by_cases hlt : j < r.size
    · have hcj := hcell j hlt
      clear hcell
      have HT := Lib.hid (all_take r isHex j hlt)
      by_cases hgood : isHex r[j] = true
      · have hw := worth_lt hgood
        have hsn := unhexN_snoc (r.data.toList.take j) r[j]
        rw [← take_snoc r j hlt] at hsn
        have hlt9 : unhexN (r.data.toList.take j) < 68719476736 := by
          have h1 := unhexN_lt _ hall.out
          have h2 : 16 ^ (r.data.toList.take j).length ≤ 16 ^ 9 := Nat.pow_le_pow_right (by decide) (by rw [List.length_take]; omega)
          exact Nat.lt_of_lt_of_le h1 h2
        have HG := Lib.hid hgood
        have HO := Lib.hid (or16 (unhexN (r.data.toList.take j)) (worth r[j]) (by omega) (by omega))
        have HS := Lib.hid hsn
        clear hgood hsn
        generalize unhexN (r.data.toList.take j) = m at *
        go_wp2_with fail
        refine (index_hex _ _ HG.out).mono ?_; rintro e w' ⟨rfl, rfl⟩
        go_wp2
        go_round
        case rel => exact ⟨j + 1, by omega, by go_num, by rw [HO.out, HS.out], by show _ = true; rw [HT.out, hall.out, HG.out]; rfl⟩
        case measure => simp [intOf]; omega
      · have HG := Lib.hid (show isHex r[j] = false by simpa using hgood)
        have HS := Lib.hid (all_stop r isHex j hlt HG.out)
        clear hgood
        go_wp2_with fail
        refine (index_bad _ _ HG.out).mono ?_; rintro e w' ⟨rfl, rfl⟩
        go_wp2
        go_ret2
        exact ⟨ret_ib (idV_no HS.out).1.symm (idV_no HS.out).2.symm, HB.out⟩
    · have e : j = r.size := by omega
      subst e
      rw [take_all] at *
      clear hcell
      go_wp2
      go_ret2
      exact ⟨ret_ib (idV_yes hall.out).1.symm (idV_yes hall.out).2.symm, HB.out⟩
theorem id_none (p k : ByteArray) (w : World) (h : ∀ r, k = p ++ r → r.size ≠ 10) (hm : k.size ≤ maxLen) (hm2 : p.size ≤ maxLen) :
    Calls Tryd.prog 24 #[.string p, .string k] w fun e w' => e = .returned (.tuple #[.int .i64 0, .bool false]) ∧ w = w' := by
  by_cases hb : Begins p k
  · obtain ⟨r, rfl⟩ := hb
    have hr := h r rfl
    have hc := fun w => cut_yes p r w hm
    have hz := size_app p r
    unfold maxLen at hm
    have hne : ((r.size : Int) == 10) = false := by simp; omega
    have hr1 : r.size ≤ 9223372036854775807 := by omega
    clear h hr
    generalize p ++ r = k at *
    have HC := Lib.hid hc
    clear hc hz hm
    go_enter Tryd.func24, Tryd.ntmps24
    go_wp2_with fail
    refine (HC.out _).mono ?_; rintro e w' ⟨rfl, rfl⟩
    go_wp2
    go_ret2
    exact ⟨rfl, rfl⟩
  · have HH := Lib.hid hb
    clear hb h
    go_enter Tryd.func24, Tryd.ntmps24
    go_wp2_with fail
    refine (cut_no p k _ HH.out hm hm2).mono ?_; rintro e w' ⟨rfl, rfl⟩
    go_wp2
    go_ret2
    exact ⟨rfl, rfl⟩
end Go.Proofs.YthagkjadbfodaaaDoor.P
