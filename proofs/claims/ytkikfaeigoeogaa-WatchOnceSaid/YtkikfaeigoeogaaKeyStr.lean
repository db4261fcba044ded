/- Layer 2's questions about texts: which keys and names may be. -/
import Derived.Test.YtkikfaeigoeogaaProg
import Derived.WalkKit
import Derived.BigQuiet
import Derived.Lib.Hide
import Derived.Maps.AppendAt
import Derived.Deep.RegionHeld3
namespace Go.Proofs.Ytkikfaeigoeogaa.P
open Go.RowKit
set_option maxHeartbeats 400000
set_option linter.unusedVariables false
set_option maxRecDepth 100000

theorem conv_bytes {P : Program} (w : World) (src dst e : TypeId) (s : ByteArray) (hs : P.underlying src = some .string) (hd : P.underlying dst = some (.slice e)) (he : P.underlying e = some (.int .u8)) :
    ∃ C W1, (convert src dst (.string s)).run P w = .ok (.slice (some ⟨w.heap.size, 0, none⟩) s.size C) W1 ∧ Below w.heap.size w W1 ∧ (∀ i (h : i < s.size), W1.cell? ⟨w.heap.size, i, none⟩ = some (.int .u8 (s[i].toNat : Int))) ∧ s.size ≤ C := by
  refine ⟨_, _, run_bytes_of_string w src dst e s hs hd he, (Below.drew (Below.refl _ _)).alloc (Nat.le_refl _) _, fun i hi => ?_, grownCap_ge _ _ _ _⟩
  rw [show w.heap.size = w.drew.heap.size from rfl, World.cell?_alloc_mark]
  exact bytesRow_at s _ i hi

/-- A byte from lo to hi. -/
def inB (lo hi : Nat) (c : UInt8) : Bool := decide (lo ≤ c.toNat) && decide (c.toNat ≤ hi)
def alnum (c : UInt8) : Bool := inB 97 122 c || inB 48 57 c
/-- What 'made' asks: some bytes, no more than most, each of them good. -/
def madeL (most : Nat) (p : UInt8 → Bool) (l : List UInt8) : Bool := decide (1 ≤ l.length) && decide (l.length ≤ most) && l.all p
def checkL (l : List UInt8) : Bool := madeL 40 (inB 33 126) l
def nameL (l : List UInt8) : Bool := madeL 12 alnum l

theorem between_any (lo hi : Int) (w : World) :
    Calls Try.prog 83 #[.int .u8 lo, .int .u8 hi] w fun e w' => e = .returned (.func (.func 89) #[] #[.pointer (some ⟨w.heap.size, 0, none⟩), .pointer (some ⟨w.heap.size + 1, 0, none⟩)]) ∧
      w'.cell? ⟨w.heap.size, 0, none⟩ = some (.int .u8 lo) ∧ w'.cell? ⟨w.heap.size + 1, 0, none⟩ = some (.int .u8 hi) ∧ w'.heap.size = w.heap.size + 2 ∧ Below w.heap.size w w' := by
  go_enter Try.func83, Try.ntmps83
  go_wp2
  go_ret
  refine ⟨rfl, ?_, ?_, by simp, ((Below.refl _ _).alloc (Nat.le_refl _) _).alloc (by simp) _⟩
  · simp [go_sem]
  · simp [go_sem]

theorem inB_any (lo hi : Nat) (a b : Addr) (c : UInt8) (w : World) (ha : w.cell? a = some (.int .u8 lo)) (hb : w.cell? b = some (.int .u8 hi)) (hh : hi < 256) :
    Calls Try.prog 89 #[.int .u8 (c.toNat : Int), .pointer (some a), .pointer (some b)] w fun e w' => e = .returned (.bool (inB lo hi c)) ∧ w = w' := by
  have hc := c.toNat_lt
  by_cases h1 : lo ≤ c.toNat
  · go_enter Try.func89, Try.ntmps89
    go_wp2
    go_ret
    exact ⟨by simp [inB, h1], rfl⟩
  · go_enter Try.func89, Try.ntmps89
    go_wp2
    go_ret
    exact ⟨by simp [inB, h1], rfl⟩

theorem all_take (s : ByteArray) (p : UInt8 → Bool) (k : Nat) (h : k < s.size) : (s.data.toList.take (k + 1)).all p = ((s.data.toList.take k).all p && p s[k]) := by
  rw [List.take_succ_eq_append_getElem (by simpa using h), List.all_append]
  simp
  rfl
theorem all_stop (s : ByteArray) (p : UInt8 → Bool) (k : Nat) (h : k < s.size) (hb : p s[k] = false) : s.data.toList.all p = false := by
  rw [List.all_eq_false]
  refine ⟨s[k], ?_, by simp [hb]⟩
  have : s[k] = s.data.toList[k]'(by simpa using h) := rfl
  rw [this]
  exact List.getElem_mem _
theorem take_all (s : ByteArray) : s.data.toList.take s.size = s.data.toList := List.take_of_length_le (by rw [Array.length_toList]; exact Nat.le_refl _)
theorem list_size (s : ByteArray) : s.data.toList.length = s.size := by simp

theorem str_ne {s : ByteArray} (h : s.size ≠ 0) : ¬ s.toList = [] := by
  rw [ByteArray.toList_eq]
  intro e
  have := list_size s
  rw [e] at this
  exact h this.symm
theorem str_nil {s : ByteArray} (h : s.size = 0) : s.toList = [] := by
  rw [ByteArray.toList_eq]
  exact List.length_eq_zero_iff.1 ((list_size s).trans h)
theorem str_full {s : ByteArray} (h : s.size ≠ 0) : s.toList.isEmpty = false := by
  simp [str_ne h]
theorem madeL_short {most : Nat} {p : UInt8 → Bool} {l : List UInt8} (h : l.length = 0) : madeL most p l = false := by simp [madeL, h]
theorem madeL_long {most : Nat} {p : UInt8 → Bool} {l : List UInt8} (h : most < l.length) : madeL most p l = false := by
  have : ¬ l.length ≤ most := by omega
  simp [madeL, this]
theorem madeL_fit {most : Nat} {p : UInt8 → Bool} {l : List UInt8} (h0 : l.length ≠ 0) (h : l.length ≤ most) : madeL most p l = l.all p := by
  have : 1 ≤ l.length := by omega
  simp [madeL, h, this]
theorem ret_bool {a b : Bool} (h : a = b) : Ending.returned (.bool a) = .returned (.bool b) := by rw [h]

theorem made_in (s : ByteArray) (most : Nat) (a b : Addr) (p : UInt8 → Bool) (w : World) (hm : most ≤ 1000) (hs : s.size ≤ maxLen)
    (hp : ∀ (c : UInt8) (w1 : World), Below w.heap.size w w1 → Calls Try.prog 89 #[.int .u8 (c.toNat : Int), .pointer (some a), .pointer (some b)] w1 fun e w' => e = .returned (.bool (p c)) ∧ w1 = w') :
    Calls Try.prog 82 #[.string s, .int .i64 most, .func (.func 89) #[] #[.pointer (some a), .pointer (some b)]] w fun e w' => e = .returned (.bool (madeL most p s.data.toList)) ∧ Below w.heap.size w w' := by
  unfold maxLen at hs
  have hsize := list_size s
  by_cases h0 : s.size = 0
  · have he := str_nil h0
    have HM := Lib.hid (madeL_short (most := most) (p := p) (hsize.trans h0))
    have h0' : s.size ≤ 0 := by omega
    clear h0 hsize
    go_enter Try.func82, Try.ntmps82
    go_wp2
    go_ret
    exact ⟨ret_bool HM.out.symm, Below.refl _ _⟩
  · have he1 := str_ne h0
    have he2 := str_full h0
    by_cases h1 : most < s.size
    · have HM := Lib.hid (madeL_long (most := most) (p := p) (l := s.data.toList) (by omega))
      clear hsize
      go_enter Try.func82, Try.ntmps82
      go_wp2
      go_ret
      exact ⟨ret_bool HM.out.symm, Below.refl _ _⟩
    · obtain ⟨C, W1, hconv, hb, hcell, hC⟩ := conv_bytes (P := Try.prog) w 9 118 5 s Try.underlying9 Try.underlying118 Try.underlying5
      have HM := Lib.hid (madeL_fit (most := most) (p := p) (l := s.data.toList) (by omega) (by omega))
      have HB := Lib.hid hb
      have HP := Lib.hid hp
      clear hb hp hsize
      go_enter Try.func82, Try.ntmps82
      go_wp2
      go_loop [20] (fun i => ∃ k : Nat, k ≤ s.size ∧ i = .int .i64 k ∧ Hid ((s.data.toList.take k).all p = true)) (fun i => s.size - (intOf i).toNat)
      case atStart => exact ⟨0, Nat.zero_le _, rfl, rfl⟩
      case round =>
        obtain ⟨k, hk, rfl, hall⟩ := hrel
        by_cases hlt : k < s.size
        · have hck := hcell k hlt
          clear hcell
          have HT := Lib.hid (all_take s p k hlt)
          by_cases hgood : p s[k] = true
          · go_wp2_with fail
            refine (HP.out s[k] _ HB.out).mono ?_; rintro e w' ⟨rfl, rfl⟩
            go_wp2
            go_round
            case rel => exact ⟨k + 1, by omega, by go_num, by show _ = true; rw [HT.out, hall.out, hgood]; rfl⟩
            case measure => simp [intOf]; omega
          · have hbad : p s[k] = false := by simpa using hgood
            clear hgood
            have HS := Lib.hid (all_stop s p k hlt hbad)
            go_wp2_with fail
            refine (HP.out s[k] _ HB.out).mono ?_; rintro e w' ⟨rfl, rfl⟩
            go_wp2
            go_ret
            exact ⟨ret_bool (by rw [HM.out, HS.out]), HB.out⟩
        · have e : k = s.size := by omega
          subst e
          rw [take_all] at hall
          clear hcell
          go_wp2
          go_ret
          exact ⟨ret_bool (by rw [HM.out, hall.out]), HB.out⟩

theorem check_any (s : ByteArray) (w : World) (hs : s.size ≤ maxLen) :
    Calls Try.prog 71 #[.string s] w fun e w' => e = .returned (.bool (checkL s.data.toList)) ∧ Below w.heap.size w w' := by
  go_enter Try.func71, Try.ntmps71
  go_wp2_with fail
  refine (between_any _ _ _).mono ?_; rintro e w1 ⟨rfl, h1, h2, hz, hb⟩
  have H1 := Lib.hid h1
  have H2 := Lib.hid h2
  have HZ := Lib.hid hz
  have HB := Lib.hid hb
  clear h1 h2 hz hb
  go_wp2_with fail
  refine (made_in s 40 ⟨w.heap.size, 0, none⟩ ⟨w.heap.size + 1, 0, none⟩ (inB 33 126) w1 (by omega) hs (fun c w2 hb => inB_any 33 126 _ _ c w2 ((hb.cell (by rw [HZ.out]; simp only; omega)).trans H1.out) ((hb.cell (by rw [HZ.out]; simp only; omega)).trans H2.out) (by omega))).mono ?_
  rintro e w2 ⟨rfl, hb2⟩
  have HB2 := Lib.hid hb2
  clear hb2
  go_wp2
  go_ret
  exact ⟨rfl, HB.out.trans (HB2.out.mono (by rw [HZ.out]; omega))⟩

theorem check_ref (s : ByteArray) (w : World) (hs : s.size ≤ maxLen) :
    Calls Try.prog 74 #[.string s] w fun e w' => e = .returned (.bool (checkL s.data.toList)) ∧ w = w' := by
  unfold maxLen at hs
  have hsize := list_size s
  by_cases h0 : s.size < 1
  · have HM := Lib.hid (madeL_short (most := 40) (p := inB 33 126) (l := s.data.toList) (by omega))
    clear hsize
    go_enter Try.func74, Try.ntmps74
    go_wp2
    go_ret
    exact ⟨ret_bool HM.out.symm, rfl⟩
  · by_cases h1 : 40 < s.size
    · have HM := Lib.hid (madeL_long (most := 40) (p := inB 33 126) (l := s.data.toList) (by omega))
      clear hsize
      go_enter Try.func74, Try.ntmps74
      go_wp2
      go_ret
      exact ⟨ret_bool HM.out.symm, rfl⟩
    · have HM := Lib.hid (madeL_fit (most := 40) (p := inB 33 126) (l := s.data.toList) (by omega) (by omega))
      clear hsize
      go_enter Try.func74, Try.ntmps74
      go_wp2
      go_loop [3] (fun i => ∃ k : Nat, k ≤ s.size ∧ i = .int .i64 k ∧ Hid ((s.data.toList.take k).all (inB 33 126) = true)) (fun i => s.size - (intOf i).toNat)
      case atStart => exact ⟨0, Nat.zero_le _, rfl, rfl⟩
      case round =>
        obtain ⟨k, hk, rfl, hall⟩ := hrel
        by_cases hlt : k < s.size
        · have HT := Lib.hid (all_take s (inB 33 126) k hlt)
          have hc := s[k].toNat_lt
          by_cases hgood : 33 ≤ s[k].toNat
          · by_cases hgood2 : s[k].toNat ≤ 126
            · go_wp2
              go_round
              case rel => exact ⟨k + 1, by omega, by go_num, by show _ = true; rw [HT.out, hall.out]; simp [inB, hgood, hgood2]⟩
              case measure => simp [intOf]; omega
            · have HS := Lib.hid (all_stop s (inB 33 126) k hlt (by simp [inB, hgood2]))
              go_wp2
              go_ret
              exact ⟨ret_bool (by show _ = checkL _; unfold checkL; rw [HM.out, HS.out]), rfl⟩
          · have HS := Lib.hid (all_stop s (inB 33 126) k hlt (by simp [inB, hgood]))
            go_wp2
            go_ret
            exact ⟨ret_bool (by show _ = checkL _; unfold checkL; rw [HM.out, HS.out]), rfl⟩
        · have e : k = s.size := by omega
          subst e
          rw [take_all] at hall
          go_wp2
          go_ret
          exact ⟨ret_bool (by show _ = checkL _; unfold checkL; rw [HM.out, hall.out]), rfl⟩

end Go.Proofs.Ytkikfaeigoeogaa.P
