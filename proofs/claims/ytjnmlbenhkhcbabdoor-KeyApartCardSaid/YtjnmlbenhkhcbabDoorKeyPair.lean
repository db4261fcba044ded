/- Layer 2, plain: which two prefixes are the same, and which two tickets. -/
import Derived.Test.YtjnmlbenhkhcbabDoorKeyMath
namespace Go.Proofs.YtjnmlbenhkhcbabDoor.P
open Go.RowKit
set_option maxHeartbeats 8000000
set_option linter.unusedVariables false
set_option maxRecDepth 100000

theorem less_app (p x y : List UInt8) : Op.bytesLess (p ++ x) (p ++ y) = Op.bytesLess x y := by
  induction p with
  | nil => rfl
  | cons c p ih =>
    simp only [List.cons_append, Op.bytesLess, ih]
    simp
theorem hexD_lt : ∀ x y : Fin 16, (hexD x.1 < hexD y.1) ↔ x.1 < y.1 := by decide
theorem hexD_eq : ∀ x y : Fin 16, (hexD x.1 = hexD y.1) ↔ x.1 = y.1 := by decide
theorem split16 (a k : Nat) : a % 16 ^ (k + 1) = 16 ^ k * (a / 16 ^ k % 16) + a % 16 ^ k := by
  rw [Nat.pow_succ, Nat.mod_mul]; omega
theorem hex_less (a b k : Nat) : Op.bytesLess (hexL a k) (hexL b k) = decide (a % 16 ^ k < b % 16 ^ k) := by
  induction k with
  | zero => simp [hexL, Op.bytesLess, Nat.mod_one]
  | succ k ih =>
    simp only [hexL, Op.bytesLess]
    rw [ih, split16 a k, split16 b k]
    have hp : 0 < 16 ^ k := Nat.pow_pos (by decide)
    have ha := Nat.mod_lt a hp
    have hb := Nat.mod_lt b hp
    have e1 := hexD_lt ⟨a / 16 ^ k % 16, Nat.mod_lt _ (by decide)⟩ ⟨b / 16 ^ k % 16, Nat.mod_lt _ (by decide)⟩
    have e2 := hexD_eq ⟨a / 16 ^ k % 16, Nat.mod_lt _ (by decide)⟩ ⟨b / 16 ^ k % 16, Nat.mod_lt _ (by decide)⟩
    simp only at e1 e2
    generalize hexD (a / 16 ^ k % 16) = u at *
    generalize hexD (b / 16 ^ k % 16) = v at *
    generalize a / 16 ^ k % 16 = x at *
    generalize b / 16 ^ k % 16 = y at *
    generalize a % 16 ^ k = m at *
    generalize b % 16 ^ k = n at *
    generalize 16 ^ k = c at *
    rw [Bool.eq_iff_iff]
    simp only [Bool.or_eq_true, Bool.and_eq_true, decide_eq_true_eq, beq_iff_eq]
    rw [e1, e2]
    constructor
    · rintro (h | ⟨h, h'⟩)
      · have : c * (x + 1) ≤ c * y := Nat.mul_le_mul_left c h
        rw [Nat.mul_add] at this
        omega
      · subst h; omega
    · intro h
      rcases Nat.lt_trichotomy x y with h2 | h2 | h2
      · exact .inl h2
      · subst h2; exact .inr ⟨rfl, by omega⟩
      · exfalso
        have : c * (y + 1) ≤ c * x := Nat.mul_le_mul_left c h2
        rw [Nat.mul_add] at this
        omega
theorem mod10 (a : Int) (h1 : a ≤ 1099511627775) : a.toNat % 16 ^ 10 = a.toNat :=
  Nat.mod_eq_of_lt (by have : (16 : Nat) ^ 10 = 1099511627776 := by decide
                       omega)
theorem ticket_list (k n : Nat) (s : ByteArray) : (ticketB k s n).toList = (prefixB k s).data.toList ++ hexL n 10 := by
  rw [ByteArray.toList_eq]; unfold ticketB; rw [app_list, hexB_list]
theorem ticket_order (k : Nat) (s : ByteArray) (a b : Int) (h0 : 0 ≤ a) (h1 : a ≤ 1099511627775) (h2 : 0 ≤ b) (h3 : b ≤ 1099511627775) :
    Op.bytesLess (ticketB k s a.toNat).toList (ticketB k s b.toNat).toList = decide (a < b) := by
  rw [ticket_list, ticket_list, less_app, hex_less, mod10 a h1, mod10 b h3]
  exact decide_eq_decide.2 (by omega)
theorem ticket_same (k : Nat) (s : ByteArray) (a b : Int) (h0 : 0 ≤ a) (h1 : a ≤ 1099511627775) (h2 : 0 ≤ b) (h3 : b ≤ 1099511627775) :
    ((ticketB k s a.toNat).toList == (ticketB k s b.toNat).toList) = (a == b) := by
  rw [ticket_list, ticket_list, Bool.eq_iff_iff]
  simp only [beq_iff_eq]
  constructor
  · intro h
    have := congrArg unhexN (List.append_cancel_left h)
    rw [unhex_hex, unhex_hex, mod10 a h1, mod10 b h3] at this
    omega
  · intro h; rw [h]
/-! ### What Prefix and Ticket answer, under one name -/
def pOk (k : Int) (s : ByteArray) : Bool := decide (1 ≤ k ∧ k ≤ 8) && nameL s.data.toList
def pS (k : Int) (s : ByteArray) : ByteArray := if pOk k s = true then prefixB k.toNat s else ⟨#[]⟩
def tOk (k : Int) (s : ByteArray) (n : Int) : Bool := pOk k s && decide (0 ≤ n ∧ n ≤ 1099511627775)
def tS (k : Int) (s : ByteArray) (n : Int) : ByteArray := if tOk k s n = true then ticketB k.toNat s n.toNat else ⟨#[]⟩
theorem pOk_iff (k : Int) (s : ByteArray) : pOk k s = true ↔ (1 ≤ k ∧ k ≤ 8 ∧ nameL s.data.toList = true) := by
  simp [pOk, and_assoc]
theorem tOk_iff (k : Int) (s : ByteArray) (n : Int) : tOk k s n = true ↔ (1 ≤ k ∧ k ≤ 8 ∧ nameL s.data.toList = true ∧ 0 ≤ n ∧ n ≤ 1099511627775) := by
  unfold tOk
  rw [Bool.and_eq_true, pOk_iff, decide_eq_true_eq]
  constructor
  · rintro ⟨⟨a, b, c⟩, d, e⟩; exact ⟨a, b, c, d, e⟩
  · rintro ⟨a, b, c, d, e⟩; exact ⟨⟨a, b, c⟩, d, e⟩
theorem ret_sb {a b : ByteArray} {x y : Bool} (h : a = b) (g : x = y) : Ending.returned (.tuple #[.string a, .bool x]) = .returned (.tuple #[.string b, .bool y]) := by rw [h, g]
theorem prefix_all (k : Int) (s : ByteArray) (w : World) (hm : s.size ≤ maxLen) (b0 : -9223372036854775808 ≤ k) (b1 : k ≤ 9223372036854775807) (hL : Letters w) :
    Calls Tryd.prog 9 #[.int .i64 k, .string s] w fun e w' => e = .returned (.tuple #[.string (pS k s), .bool (pOk k s)]) ∧ Below w.heap.size w w' := by
  by_cases h : pOk k s = true
  · obtain ⟨h1, h2, h3⟩ := (pOk_iff k s).1 h
    obtain ⟨j, rfl⟩ := Int.eq_ofNat_of_zero_le (show 0 ≤ k by omega)
    exact (prefix_yes j s w (by omega) (by omega) h3 hL).mono fun e w' g => ⟨g.1.trans (ret_sb (by unfold pS; rw [if_pos h]; rfl) h.symm), g.2⟩
  · exact (prefix_no k s w (fun g => h ((pOk_iff k s).2 g)) hm b0 b1 hL).mono fun e w' g => ⟨g.1.trans (ret_sb (by unfold pS; rw [if_neg h]) (by simpa using h)), g.2⟩
theorem ticket_all (k : Int) (s : ByteArray) (n : Int) (w : World) (hm : s.size ≤ maxLen) (b0 : -9223372036854775808 ≤ k) (b1 : k ≤ 9223372036854775807) (b2 : -9223372036854775808 ≤ n) (b3 : n ≤ 9223372036854775807) (hL : Letters w) :
    Calls Tryd.prog 11 #[.int .i64 k, .string s, .int .i64 n] w fun e w' => e = .returned (.tuple #[.string (tS k s n), .bool (tOk k s n)]) ∧ Below w.heap.size w w' := by
  by_cases h : tOk k s n = true
  · obtain ⟨h1, h2, h3, h4, h5⟩ := (tOk_iff k s n).1 h
    obtain ⟨j, rfl⟩ := Int.eq_ofNat_of_zero_le (show 0 ≤ k by omega)
    exact (ticket_yes j s n w (by omega) (by omega) h3 h4 h5 hL).mono fun e w' g => ⟨g.1.trans (ret_sb (by unfold tS; rw [if_pos h]; rfl) h.symm), g.2⟩
  · exact (ticket_no k s n w (fun g => h ((tOk_iff k s n).2 g)) hm b0 b1 b2 b3 hL).mono fun e w' g => ⟨g.1.trans (ret_sb (by unfold tS; rw [if_neg h]) (by simpa using h)), g.2⟩

/-! ### Which prefixes are the same -/
def oneB (a b : Int) : Prop := a = b ∨ (a = 2 ∧ b = 3) ∨ (a = 3 ∧ b = 2) ∨ (a = 7 ∧ b = 8) ∨ (a = 8 ∧ b = 7)
theorem letters_same : ∀ a b : Fin 9, 1 ≤ a.1 → 1 ≤ b.1 → ((letterB a.1).data.toList = (letterB b.1).data.toList ↔ (a.1 = b.1 ∨ (a.1 = 2 ∧ b.1 = 3) ∨ (a.1 = 3 ∧ b.1 = 2) ∨ (a.1 = 7 ∧ b.1 = 8) ∨ (a.1 = 8 ∧ b.1 = 7))) := by decide
theorem split_unique : ∀ (n m h r : List UInt8), (47 : UInt8) ∉ n → (47 : UInt8) ∉ m → n ++ 47 :: h = m ++ 47 :: r → n = m
  | [], [], _, _, _, _, _ => rfl
  | [], c :: m, h, r, _, hm, e => by
    simp only [List.nil_append, List.cons_append, List.cons.injEq] at e
    exact absurd (by rw [e.1]; exact List.mem_cons_self) hm
  | c :: n, [], h, r, hn, _, e => by
    simp only [List.nil_append, List.cons_append, List.cons.injEq] at e
    exact absurd (by rw [← e.1]; exact List.mem_cons_self) hn
  | c :: n, d :: m, h, r, hn, hm, e => by
    simp only [List.cons_append, List.cons.injEq] at e
    rw [e.1, split_unique n m h r (fun x => hn (List.mem_cons_of_mem _ x)) (fun x => hm (List.mem_cons_of_mem _ x)) e.2]
theorem name_slash {s : ByteArray} (h : nameL s.data.toList = true) : (47 : UInt8) ∉ s.data.toList := by
  intro hm
  simp only [nameL, madeL, Bool.and_eq_true] at h
  have := List.all_eq_true.1 h.2 47 hm
  exact absurd this (by decide)
theorem letter_one {k : Nat} (h1 : 1 ≤ k) (h8 : k ≤ 8) : ∃ c, (letterB k).data.toList = [c] := by
  have := letter_size h1 h8
  rw [← list_size] at this
  match h : (letterB k).data.toList, this with
  | [c], _ => exact ⟨c, rfl⟩
theorem prefix_begins {i j : Nat} {a b h : ByteArray} (i1 : 1 ≤ i) (i8 : i ≤ 8) (j1 : 1 ≤ j) (j8 : j ≤ 8) (ha : nameL a.data.toList = true) (hb : nameL b.data.toList = true) (hB : Begins (prefixB j b) (prefixB i a ++ h)) :
    (letterB i).data.toList = (letterB j).data.toList ∧ a = b := by
  obtain ⟨r, hr⟩ := hB
  have e := congrArg (fun x : ByteArray => x.data.toList) hr
  simp only [prefixB, app_list] at e
  obtain ⟨c, hc⟩ := letter_one i1 i8
  obtain ⟨d, hd⟩ := letter_one j1 j8
  rw [hc, hd] at e
  simp only [List.cons_append, List.nil_append, List.append_assoc, List.cons.injEq, true_and] at e
  exact ⟨by rw [hc, hd, e.1], ext_list (split_unique _ _ _ _ (name_slash ha) (name_slash hb) e.2)⟩
theorem pS_of {k : Int} {s : ByteArray} (h : pOk k s = true) : pS k s = prefixB k.toNat s := by unfold pS; rw [if_pos h]
theorem tS_of {k n : Int} {s : ByteArray} (h : tOk k s n = true) : tS k s n = prefixB k.toNat s ++ hexB n.toNat := by unfold tS; rw [if_pos h]; rfl

/-- All that the law asks of two tickets. -/
theorem pair_facts {i j m n : Int} {a b : ByteArray} (hi : tOk i a m = true) (hj : tOk j b n = true) :
    (∀ w, (oneB i j ∧ a = b) → Calls Tryd.prog 21 #[.string (pS j b), .string (tS i a m)] w fun e w' => e = .returned (.bool true) ∧ w = w') ∧
    (∀ w, ¬ (oneB i j ∧ a = b) → Calls Tryd.prog 21 #[.string (pS j b), .string (tS i a m)] w fun e w' => e = .returned (.bool false) ∧ w = w') ∧
    ((oneB i j ∧ a = b) → ((pS i a).toList == (pS j b).toList) = true ∧ ((tS i a m).toList == (tS j b n).toList) = (m == n)) ∧
    (¬ (oneB i j ∧ a = b) → ((pS i a).toList == (pS j b).toList) = false ∧ ((tS i a m).toList == (tS j b n).toList) = false) := by
  obtain ⟨i1, i8, ha, m0, m1⟩ := (tOk_iff _ _ _).1 hi
  obtain ⟨j1, j8, hb, n0, n1⟩ := (tOk_iff _ _ _).1 hj
  have hpi : pOk i a = true := (pOk_iff _ _).2 ⟨i1, i8, ha⟩
  have hpj : pOk j b = true := (pOk_iff _ _).2 ⟨j1, j8, hb⟩
  rw [pS_of hpi, pS_of hpj, tS_of hi, tS_of hj]
  obtain ⟨x, rfl⟩ := Int.eq_ofNat_of_zero_le (show 0 ≤ i by omega)
  obtain ⟨y, rfl⟩ := Int.eq_ofNat_of_zero_le (show 0 ≤ j by omega)
  simp only [Int.toNat_natCast]
  have hl := letters_same ⟨x, by omega⟩ ⟨y, by omega⟩ (show 1 ≤ x by omega) (show 1 ≤ y by omega)
  simp only at hl
  have hone : oneB (x : Int) (y : Int) ↔ (letterB x).data.toList = (letterB y).data.toList := by
    rw [hl]; unfold oneB; omega
  have hsame : (oneB (x : Int) (y : Int) ∧ a = b) → prefixB x a = prefixB y b := by
    rintro ⟨h1, rfl⟩
    apply ext_list
    simp only [prefixB, app_list]
    rw [hone.1 h1]
  have hdiff : ∀ h, Begins (prefixB y b) (prefixB x a ++ h) → oneB (x : Int) (y : Int) ∧ a = b := fun h hB => by
    obtain ⟨e1, e2⟩ := prefix_begins (by omega) (by omega) (by omega) (by omega) ha hb hB
    exact ⟨hone.2 e1, e2⟩
  have hz1 : (prefixB x a ++ hexB m.toNat).size ≤ maxLen := by
    have h1 := prefix_size (k := x) (by omega) (by omega) a
    have h2 := hex_size m.toNat
    have h3 := nameL_size ha
    unfold maxLen; rw [size_app]; omega
  have hz2 : (prefixB y b).size ≤ maxLen := by
    have h1 := prefix_size (k := y) (by omega) (by omega) b
    have h3 := nameL_size hb
    unfold maxLen; omega
  refine ⟨fun w h => ?_, fun w h => ?_, fun h => ⟨?_, ?_⟩, fun h => ⟨?_, ?_⟩⟩
  · rw [hsame h] at *
    exact under_yes _ _ w (by rw [hex_size]; decide) hz1
  · exact under_no _ _ w (.inr fun hB => h (hdiff _ hB)) hz1 hz2
  · rw [hsame h]; simp
  · rw [hsame h]
    have e := ticket_same y b m n m0 m1 n0 n1
    exact e
  · cases hh : ((prefixB x a).toList == (prefixB y b).toList)
    · rfl
    · exfalso
      have e := beq_iff_eq.1 hh
      rw [ByteArray.toList_eq, ByteArray.toList_eq] at e
      exact h (hdiff (hexB 0) ⟨hexB 0, by rw [ext_list e]⟩)
  · cases hh : ((prefixB x a ++ hexB m.toNat).toList == (prefixB y b ++ hexB n.toNat).toList)
    · rfl
    · exfalso
      have e := beq_iff_eq.1 hh
      rw [ByteArray.toList_eq, ByteArray.toList_eq] at e
      exact h (hdiff _ ⟨hexB n.toNat, ext_list e⟩)

/-- The three arrays lie in memory. -/
def Boxes (w W : World) (a0 b0 : Int) (a1 b1 : ByteArray) (a2 b2 : Int) : Prop :=
  w.heap.size + 3 ≤ W.heap.size ∧ W.cell? ⟨w.heap.size, 0, none⟩ = some (.int .i64 a0) ∧ W.cell? ⟨w.heap.size, 1, none⟩ = some (.int .i64 b0) ∧
    W.cell? ⟨w.heap.size + 1, 0, none⟩ = some (.string a1) ∧ W.cell? ⟨w.heap.size + 1, 1, none⟩ = some (.string b1) ∧
    W.cell? ⟨w.heap.size + 1 + 1, 0, none⟩ = some (.int .i64 a2) ∧ W.cell? ⟨w.heap.size + 1 + 1, 1, none⟩ = some (.int .i64 b2)
theorem Boxes.below {w W W' : World} {a0 b0 : Int} {a1 b1 : ByteArray} {a2 b2 : Int} (h : Boxes w W a0 b0 a1 b1 a2 b2) (hb : Below W.heap.size W W') : Boxes w W' a0 b0 a1 b1 a2 b2 := by
  obtain ⟨h0, h1, h2, h3, h4, h5, h6⟩ := h
  exact ⟨Nat.le_trans h0 hb.size, (hb.cell (by simp only; omega)).trans h1, (hb.cell (by simp only; omega)).trans h2, (hb.cell (by simp only; omega)).trans h3, (hb.cell (by simp only; omega)).trans h4, (hb.cell (by simp only; omega)).trans h5, (hb.cell (by simp only; omega)).trans h6⟩
theorem boxes_start (w : World) (a0 b0 : Int) (a1 b1 : ByteArray) (a2 b2 : Int) :
    Boxes w (((w.alloc (.cells #[.int .i64 a0, .int .i64 b0] 33)).alloc (.cells #[.string a1, .string b1] 34)).alloc (.cells #[.int .i64 a2, .int .i64 b2] 33)) a0 b0 a1 b1 a2 b2 :=
  ⟨by simp, by simp [go_sem], by simp [go_sem], by simp [go_sem], by simp [go_sem], by simp [go_sem], by simp [go_sem]⟩
theorem box3 {w w1 : World} {x y z : Obj} (h : Below (((w.alloc x).alloc y).alloc z).heap.size (((w.alloc x).alloc y).alloc z) w1) : Below w.heap.size w w1 :=
  (((((Below.refl _ _).alloc (Nat.le_refl _) _).alloc (by simp) _).alloc (by simp; omega) _)).trans (h.mono (by simp; omega))
theorem letters3 {w : World} (h : Letters w) (x y z : Obj) : Letters (((w.alloc x).alloc y).alloc z) :=
  h.below ((((Below.refl _ _).alloc (Nat.le_refl _) _).alloc (by simp) _).alloc (by simp; omega) _)

end Go.Proofs.YtjnmlbenhkhcbabDoor.P
