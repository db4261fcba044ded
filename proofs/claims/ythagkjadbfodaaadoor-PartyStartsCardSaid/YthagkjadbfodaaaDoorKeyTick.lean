/- Layer 2: prefixes, tickets, flags, and what ids they tell. -/
import Derived.Test.YthagkjadbfodaaaDoorKeyName
namespace Go.Proofs.YthagkjadbfodaaaDoor.P
open Go.RowKit
set_option maxHeartbeats 400000
set_option linter.unusedVariables false
set_option maxRecDepth 100000

/-- The letter of a kind. -/
def letterB : Nat → ByteArray
  | 1 => ⟨#[109]⟩
  | 2 => ⟨#[108]⟩
  | 3 => ⟨#[108]⟩
  | 4 => ⟨#[115]⟩
  | 5 => ⟨#[101]⟩
  | 6 => ⟨#[112]⟩
  | 7 => ⟨#[113]⟩
  | 8 => ⟨#[113]⟩
  | _ => ⟨#[]⟩
/-- The table of letters lies where the program's start laid it. -/
def Letters (w : World) : Prop := 0 < w.heap.size ∧ ∀ k, k < 9 → w.cell? ⟨0, k, none⟩ = some (.string (letterB k))
theorem Letters.below {w w' : World} (h : Letters w) (hb : Below w.heap.size w w') : Letters w' :=
  ⟨Nat.lt_of_lt_of_le h.1 hb.size, fun k hk => (hb.cell h.1).trans (h.2 k hk)⟩

def prefixB (kind : Nat) (name : ByteArray) : ByteArray := letterB kind ++ ⟨#[47]⟩ ++ name ++ ⟨#[47]⟩
theorem letter_size {k : Nat} (h0 : 1 ≤ k) (h1 : k ≤ 8) : (letterB k).size = 1 := by
  match k, h0, h1 with
  | 1, _, _ => rfl
  | 2, _, _ => rfl
  | 3, _, _ => rfl
  | 4, _, _ => rfl
  | 5, _, _ => rfl
  | 6, _, _ => rfl
  | 7, _, _ => rfl
  | 8, _, _ => rfl
theorem nameL_size {s : ByteArray} (h : nameL s.data.toList = true) : 1 ≤ s.size ∧ s.size ≤ 12 := by
  simp only [nameL, madeL, Bool.and_eq_true, decide_eq_true_eq, list_size] at h
  exact h.1
theorem name_yes (s : ByteArray) (w : World) (hs : s.size ≤ maxLen) (hn : nameL s.data.toList = true) :
    Calls Tryd.prog 17 #[.string s] w fun e w' => e = .returned (.bool true) ∧ Below w.heap.size w w' :=
  (name_any s w hs).mono fun e w' h => ⟨h.1.trans (by rw [hn]), h.2⟩
theorem name_no (s : ByteArray) (w : World) (hs : s.size ≤ maxLen) (hn : nameL s.data.toList = false) :
    Calls Tryd.prog 17 #[.string s] w fun e w' => e = .returned (.bool false) ∧ Below w.heap.size w w' :=
  (name_any s w hs).mono fun e w' h => ⟨h.1.trans (by rw [hn]), h.2⟩

theorem prefix_yes (k : Nat) (s : ByteArray) (w : World) (h0 : 1 ≤ k) (h1 : k ≤ 8) (hn : nameL s.data.toList = true) (hL : Letters w) :
    Calls Tryd.prog 23 #[.int .i64 (k : Int), .string s] w fun e w' => e = .returned (.tuple #[.string (prefixB k s), .bool true]) ∧ Below w.heap.size w w' := by
  have hcell := hL.2 k (by omega)
  have HL := Lib.hid hL
  have hls := letter_size h0 h1
  have he1 := str_ne (s := letterB k) (by omega)
  have he2 := str_full (s := letterB k) (by omega)
  obtain ⟨n1, n2⟩ := nameL_size hn
  have HN := Lib.hid hn
  have h3 : (letterB k).size ≤ 1 := by omega
  have hm : s.size ≤ maxLen := by unfold maxLen; omega
  have HM := Lib.hid hm
  clear hL hls hn hm
  go_enter Tryd.func23, Tryd.ntmps23
  go_wp2_with fail
  refine (name_yes s _ HM.out HN.out).mono ?_; rintro e w1 ⟨rfl, hb⟩
  have hcell1 := (hb.cell (p := ⟨0, k, none⟩) HL.out.1).trans (HL.out.2 k (by omega))
  have HB := Lib.hid hb
  clear hb hcell
  go_wp2
  go_ret2
  exact ⟨rfl, HB.out⟩

theorem prefix_no (k : Int) (s : ByteArray) (w : World) (h : ¬ (1 ≤ k ∧ k ≤ 8 ∧ nameL s.data.toList = true)) (hm : s.size ≤ maxLen) (b0 : -9223372036854775808 ≤ k) (b1 : k ≤ 9223372036854775807) (hL : Letters w) :
    Calls Tryd.prog 23 #[.int .i64 k, .string s] w fun e w' => e = .returned (.tuple #[.string ⟨#[]⟩, .bool false]) ∧ Below w.heap.size w w' := by
  have HM := Lib.hid hm
  have HL := Lib.hid hL
  have HH := Lib.hid h
  clear hm hL h
  by_cases h0 : k < 0
  · go_enter Tryd.func23, Tryd.ntmps23
    go_wp2
    go_ret2
    exact ⟨rfl, Below.refl _ _⟩
  · by_cases h9 : 9 ≤ k
    · go_enter Tryd.func23, Tryd.ntmps23
      go_wp2
      go_ret2
      exact ⟨rfl, Below.refl _ _⟩
    · by_cases hz : k ≤ 0
      · obtain rfl : k = 0 := by omega
        have hcell := HL.out.2 0 (by omega)
        simp only [letterB] at hcell
        go_enter Tryd.func23, Tryd.ntmps23
        go_wp2
        go_ret2
        exact ⟨rfl, Below.refl _ _⟩
      · obtain ⟨j, rfl⟩ := Int.eq_ofNat_of_zero_le (show 0 ≤ k by omega)
        have hn : nameL s.data.toList = false := by
          have := HH.out
          cases hh : nameL s.data.toList
          · rfl
          · exact absurd ⟨by omega, by omega, hh⟩ this
        have HN := Lib.hid hn
        clear hn
        have hcell := HL.out.2 j (by omega)
        have hls := letter_size (k := j) (by omega) (by omega)
        have he1 := str_ne (s := letterB j) (by omega)
        have he2 := str_full (s := letterB j) (by omega)
        clear hls
        go_enter Tryd.func23, Tryd.ntmps23
        go_wp2_with fail
        refine (name_no s _ HM.out HN.out).mono ?_; rintro e w1 ⟨rfl, hb⟩
        have HB := Lib.hid hb
        clear hb hcell
        go_wp2
        go_ret2
        exact ⟨rfl, HB.out⟩

/-- A digit of base 16, as a byte. -/
def hexD (d : Nat) : UInt8 := if d < 10 then UInt8.ofNat (48 + d) else UInt8.ofNat (87 + d)
/-- The k lowest digits of n, the highest one first. -/
def hexL (n : Nat) : Nat → List UInt8
  | 0 => []
  | k + 1 => hexD (n / 16 ^ k % 16) :: hexL n k
theorem hexL_length (n k : Nat) : (hexL n k).length = k := by
  induction k with
  | zero => rfl
  | succ k ih => simp [hexL, ih]
def hexB (n : Nat) : ByteArray := ⟨(hexL n 10).toArray⟩

def byteVals (l : List UInt8) : List Value := l.map fun b => .int .u8 (b.toNat : Int)
theorem byteVals_get (l : List UInt8) (i : Nat) (h : i < l.length) : (byteVals l)[i]? = some (.int .u8 (l[i].toNat : Int)) := by
  unfold byteVals; simp [h]
/-- The row of a hex on its way: nothing yet ahead, digits behind. -/
def hexRow (m p : Nat) : Array Value := (List.replicate p (Value.int .u8 0) ++ byteVals (hexL m (10 - p))).toArray
theorem hexRow_set (m p : Nat) (h : p + 1 ≤ 10) (v : Value) (hv : v = .int .u8 ((hexD (m / 16 ^ (10 - (p + 1)) % 16)).toNat : Int)) : (hexRow m (p + 1)).setIfInBounds p v = hexRow m p := by
  subst hv
  unfold hexRow
  apply Array.ext'
  simp only [Array.toList_setIfInBounds]
  rw [List.replicate_succ', List.append_assoc, List.set_append_right _ _ (by simp)]
  rw [show 10 - p = 10 - (p + 1) + 1 by omega]
  simp [hexL, byteVals]
theorem hexRow_get (m p : Nat) : (hexRow m (p + 1))[p]? = some (.int .u8 0) := by
  unfold hexRow
  rw [List.getElem?_toArray, List.getElem?_append_left (by simp)]
  simp
theorem hexRow_start (m : Nat) : hexRow m 10 = #[Value.int IntKind.u8 0, Value.int IntKind.u8 0, Value.int IntKind.u8 0, Value.int IntKind.u8 0, Value.int IntKind.u8 0, Value.int IntKind.u8 0, Value.int IntKind.u8 0, Value.int IntKind.u8 0, Value.int IntKind.u8 0, Value.int IntKind.u8 0] := by
  unfold hexRow; rfl
theorem hexRow_end (m : Nat) : hexRow m 0 = (byteVals (hexL m 10)).toArray := by simp [hexRow]
theorem hex_step (m k : Nat) : ((m / 16 ^ k : Nat) : Int) / 16 = ((m / 16 ^ (k + 1) : Nat) : Int) := by
  rw [Nat.pow_succ, ← Nat.div_div_eq_div_mul]; rfl

theorem dig_fin : ∀ y : Fin 16, (⟨#[48, 49, 50, 51, 52, 53, 54, 55, 56, 57, 97, 98, 99, 100, 101, 102]⟩ : ByteArray)[y.1]'(y.2) = hexD y.1 := by decide
theorem dig_at (x : Nat) (h : x < (⟨#[48, 49, 50, 51, 52, 53, 54, 55, 56, 57, 97, 98, 99, 100, 101, 102]⟩ : ByteArray).size) : (⟨#[48, 49, 50, 51, 52, 53, 54, 55, 56, 57, 97, 98, 99, 100, 101, 102]⟩ : ByteArray)[x] = hexD x := dig_fin ⟨x, h⟩

theorem hex_any (n : Int) (w : World) (h0 : 0 ≤ n) (h1 : n ≤ 1099511627775) :
    Calls Tryd.prog 47 #[.int .i64 n] w fun e w' => e = .returned (.string (hexB n.toNat)) ∧ Below w.heap.size w w' := by
  obtain ⟨m, rfl⟩ := Int.eq_ofNat_of_zero_le h0
  go_enter Tryd.func47, Tryd.ntmps47
  go_wp2
  rw [← hexRow_start m]
  go_loopw [0, 4] (fun t i wr => ∃ p : Nat, p ≤ 10 ∧ i = .int .i64 ((p : Int) - 1) ∧ t = .int .i64 ((m / 16 ^ (10 - p) : Nat) : Int) ∧ wr = w.alloc (.cells (hexRow m p) 86)) (fun _ i _ => (intOf i + 1).toNat)
  case atStart => exact ⟨10, Nat.le_refl _, rfl, by simp, rfl⟩
  case round =>
    obtain ⟨p, hp, rfl, rfl, rfl⟩ := hrel
    cases p with
    | succ q =>
      rw [show ((q + 1 : Nat) : Int) - 1 = (q : Int) by omega]
      have hcell : (w.alloc (.cells (hexRow m (q + 1)) 86)).cell? ⟨w.heap.size, q, none⟩ = some (.int .u8 0) := by
        rw [World.cell?_alloc_mark]; exact hexRow_get m q
      have hfr : (w.alloc (.cells (hexRow m (q + 1)) 86)).frozen? ⟨w.heap.size, q, none⟩ = false := by
        rw [World.frozen?_alloc_mark]; simp
      have hb0 : ((m / 16 ^ (10 - (q + 1)) : Nat) : Int) ≤ 1099511627775 := by
        have := Nat.div_le_self m (16 ^ (10 - (q + 1)))
        omega
      have hst := hex_step m (10 - (q + 1))
      rw [show 10 - (q + 1) + 1 = 10 - q by omega] at hst
      generalize hd : m / 16 ^ (10 - (q + 1)) = d at *
      have HD := Lib.hid hd
      have HS := Lib.hid hst
      clear hd hst
      have hd16 : d % 16 < 16 := by omega
      go_wp2
      go_roundw
      case rel => exact ⟨q, by omega, rfl, by rw [HS.out], by rw [hexRow_set m q hp _ (by rw [dig_at, HD.out])]⟩
      case measure => simp [intOf]
    | zero =>
      have hcs : ∀ j (hj : j < (hexL m 10).length), (w.alloc (.cells (hexRow m 0) 86)).cell? ((⟨w.heap.size, 0, none⟩ : Addr).add j) = some (.int .u8 ((hexL m 10)[j].toNat : Int)) := by
        intro j hj
        have e : ((⟨w.heap.size, 0, none⟩ : Addr).add j) = ⟨w.heap.size, j, none⟩ := by
          unfold Addr.add
          split <;> simp_all
        rw [e, World.cell?_alloc_mark, hexRow_end, List.getElem?_toArray]
        exact byteVals_get _ _ hj
      have hback := run_convert_bytes_back (P := Tryd.prog) (w.alloc (.cells (hexRow m 0) 86)) 78 9 5 ⟨w.heap.size, 0, none⟩ 10 (hexL m 10) Tryd.underlying78 Tryd.underlying5 Tryd.underlying9 hcs
      rw [hexL_length] at hback
      clear hcs
      go_wp2
      go_ret
      exact ⟨rfl, (Below.refl _ _).alloc (Nat.le_refl _) _⟩

def ticketB (k : Nat) (s : ByteArray) (n : Nat) : ByteArray := prefixB k s ++ hexB n
theorem prefix_size {k : Nat} (h0 : 1 ≤ k) (h1 : k ≤ 8) (s : ByteArray) : (prefixB k s).size = s.size + 3 := by
  unfold prefixB
  simp only [ByteArray.size_append, letter_size h0 h1]
  show 1 + 1 + s.size + 1 = _
  omega
theorem hex_size (n : Nat) : (hexB n).size = 10 := by
  show (hexL n 10).toArray.size = 10
  rw [List.size_toArray, hexL_length]

theorem ticket_yes (k : Nat) (s : ByteArray) (n : Int) (w : World) (h0 : 1 ≤ k) (h1 : k ≤ 8) (hn : nameL s.data.toList = true) (n0 : 0 ≤ n) (n1 : n ≤ 1099511627775) (hL : Letters w) :
    Calls Tryd.prog 27 #[.int .i64 (k : Int), .string s, .int .i64 n] w fun e w' => e = .returned (.tuple #[.string (ticketB k s n.toNat), .bool true]) ∧ Below w.heap.size w w' := by
  obtain ⟨m1, m2⟩ := nameL_size hn
  have hps := prefix_size h0 h1 s
  have hp3 : (prefixB k s).size ≤ 15 := by omega
  have hhs := hex_size n.toNat
  have hh3 : (hexB n.toNat).size ≤ 10 := by omega
  have HN := Lib.hid hn
  have HL := Lib.hid hL
  clear hn hL hps hhs
  go_enter Tryd.func27, Tryd.ntmps27
  go_wp2_with fail
  refine (prefix_yes k s _ h0 h1 HN.out HL.out).mono ?_; rintro e w1 ⟨rfl, hb1⟩; have HB1 := Lib.hid hb1; clear hb1
  go_wp2_with fail
  refine (hex_any n _ n0 n1).mono ?_; rintro e w2 ⟨rfl, hb2⟩; have HB2 := Lib.hid hb2; clear hb2
  go_wp2
  go_ret2
  exact ⟨rfl, HB1.out.trans (HB2.out.mono HB1.out.size)⟩

theorem ticket_no (k : Int) (s : ByteArray) (n : Int) (w : World) (h : ¬ (1 ≤ k ∧ k ≤ 8 ∧ nameL s.data.toList = true ∧ 0 ≤ n ∧ n ≤ 1099511627775)) (hm : s.size ≤ maxLen) (b0 : -9223372036854775808 ≤ k) (b1 : k ≤ 9223372036854775807) (b2 : -9223372036854775808 ≤ n) (b3 : n ≤ 9223372036854775807) (hL : Letters w) :
    Calls Tryd.prog 27 #[.int .i64 k, .string s, .int .i64 n] w fun e w' => e = .returned (.tuple #[.string ⟨#[]⟩, .bool false]) ∧ Below w.heap.size w w' := by
  have HL := Lib.hid hL
  have HM := Lib.hid hm
  have HH := Lib.hid h
  clear hL hm h
  by_cases hk : 1 ≤ k ∧ k ≤ 8 ∧ nameL s.data.toList = true
  · obtain ⟨k0, k1, hn⟩ := hk
    have hn01 : n < 0 ∨ 1099511627775 < n := by
      have := HH.out
      by_cases h2 : n < 0
      · exact .inl h2
      · by_cases h3 : 1099511627775 < n
        · exact .inr h3
        · exact absurd ⟨k0, k1, hn, by omega, by omega⟩ this
    obtain ⟨j, rfl⟩ := Int.eq_ofNat_of_zero_le (show 0 ≤ k by omega)
    have HN := Lib.hid hn
    clear hn
    rcases hn01 with hlo | hhi
    · go_enter Tryd.func27, Tryd.ntmps27
      go_wp2_with fail
      refine (prefix_yes j s _ (by omega) (by omega) HN.out HL.out).mono ?_; rintro e w1 ⟨rfl, hb1⟩; have HB1 := Lib.hid hb1; clear hb1
      go_wp2
      go_ret2
      exact ⟨rfl, HB1.out⟩
    · go_enter Tryd.func27, Tryd.ntmps27
      go_wp2_with fail
      refine (prefix_yes j s _ (by omega) (by omega) HN.out HL.out).mono ?_; rintro e w1 ⟨rfl, hb1⟩; have HB1 := Lib.hid hb1; clear hb1
      go_wp2
      go_ret2
      exact ⟨rfl, HB1.out⟩
  · have HK := Lib.hid hk
    clear hk
    go_enter Tryd.func27, Tryd.ntmps27
    go_wp2_with fail
    refine (prefix_no k s _ HK.out HM.out (by omega) (by omega) HL.out).mono ?_; rintro e w1 ⟨rfl, hb1⟩; have HB1 := Lib.hid hb1; clear hb1
    go_wp2
    go_ret2
    exact ⟨rfl, HB1.out⟩

theorem flag_yes (s : ByteArray) (w : World) (hn : nameL s.data.toList = true) (hL : Letters w) :
    Calls Tryd.prog 60 #[.string s] w fun e w' => e = .returned (.tuple #[.string (prefixB 6 s ++ ⟨#[111, 112, 101, 110]⟩), .bool true]) ∧ Below w.heap.size w w' := by
  obtain ⟨m1, m2⟩ := nameL_size hn
  have hps := prefix_size (k := 6) (by decide) (by decide) s
  have hp3 : (prefixB 6 s).size ≤ 15 := by omega
  have HN := Lib.hid hn
  have HL := Lib.hid hL
  clear hn hL hps
  go_enter Tryd.func60, Tryd.ntmps60
  go_wp2_with fail
  refine (prefix_yes 6 s _ (by decide) (by decide) HN.out HL.out).mono ?_; rintro e w1 ⟨rfl, hb1⟩; have HB1 := Lib.hid hb1; clear hb1
  go_wp2
  go_ret2
  exact ⟨rfl, HB1.out⟩
theorem flag_no (s : ByteArray) (w : World) (hn : nameL s.data.toList = false) (hm : s.size ≤ maxLen) (hL : Letters w) :
    Calls Tryd.prog 60 #[.string s] w fun e w' => e = .returned (.tuple #[.string ⟨#[]⟩, .bool false]) ∧ Below w.heap.size w w' := by
  have HN := Lib.hid hn
  have HL := Lib.hid hL
  have HM := Lib.hid hm
  clear hn hL hm
  go_enter Tryd.func60, Tryd.ntmps60
  go_wp2_with fail
  refine (prefix_no 6 s _ (by rw [HN.out]; simp) HM.out (by decide) (by decide) HL.out).mono ?_; rintro e w1 ⟨rfl, hb1⟩; have HB1 := Lib.hid hb1; clear hb1
  go_wp2
  go_ret2
  exact ⟨rfl, HB1.out⟩
end Go.Proofs.YthagkjadbfodaaaDoor.P
