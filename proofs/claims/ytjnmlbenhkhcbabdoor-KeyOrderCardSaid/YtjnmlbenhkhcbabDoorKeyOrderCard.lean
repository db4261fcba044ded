/- For every kind and name and every two ids the law KeyOrder answers true: tickets of one kind and name stand in the order of their ids. No condition. -/
import Derived.Test.YtjnmlbenhkhcbabDoorKeyLaid
import Derived.Test.YtjnmlbenhkhcbabDoorKeyMath
import Derived.Test.YtjnmlbenhkhcbabDoorKeyTwo
import Derived.WalkSmall
import Derived.Deep.QuietTactic
namespace Go.Proofs.YtjnmlbenhkhcbabDoor.keyOrder
open Go.ChangeShapes Go.WideShapes Go.ChangeAt Go.RowKit Go.Proofs.YtjnmlbenhkhcbabDoor.P
open Go.ChangeMaps (open_string shut_string)
set_option linter.unusedVariables false
set_option maxHeartbeats 1000000
set_option maxRecDepth 100000
theorem less_app (p x y : List UInt8) : Op.bytesLess (p ++ x) (p ++ y) = Op.bytesLess x y := by
  induction p with
  | nil => rfl
  | cons c p ih =>
    simp only [List.cons_append, Op.bytesLess, ih]
    simp
theorem hexD_lt : ∀ x y : Fin 16, (hexD x.1 < hexD y.1) ↔ x.1 < y.1 := by decide
theorem hexD_eq : ∀ x y : Fin 16, (hexD x.1 = hexD y.1) ↔ x.1 = y.1 := by decide
theorem split16 (a k : Nat) : a % 16 ^ (k + 1) = 16 ^ k * (a / 16 ^ k % 16) + a % 16 ^ k := by
  rw [Nat.pow_succ, Nat.mod_mul]; omega
theorem hex_less (a b k : Nat) : Op.bytesLess (hexL a k) (hexL b k) = decide (a % 16 ^ k < b % 16 ^ k) := by
  induction k with
  | zero => simp [hexL, Op.bytesLess, Nat.mod_one]
  | succ k ih =>
    simp only [hexL, Op.bytesLess]
    rw [ih, split16 a k, split16 b k]
    have hp : 0 < 16 ^ k := Nat.pow_pos (by decide)
    have ha := Nat.mod_lt a hp
    have hb := Nat.mod_lt b hp
    have e1 := hexD_lt ⟨a / 16 ^ k % 16, Nat.mod_lt _ (by decide)⟩ ⟨b / 16 ^ k % 16, Nat.mod_lt _ (by decide)⟩
    have e2 := hexD_eq ⟨a / 16 ^ k % 16, Nat.mod_lt _ (by decide)⟩ ⟨b / 16 ^ k % 16, Nat.mod_lt _ (by decide)⟩
    simp only at e1 e2
    generalize hexD (a / 16 ^ k % 16) = u at *
    generalize hexD (b / 16 ^ k % 16) = v at *
    generalize a / 16 ^ k % 16 = x at *
    generalize b / 16 ^ k % 16 = y at *
    generalize a % 16 ^ k = m at *
    generalize b % 16 ^ k = n at *
    generalize 16 ^ k = c at *
    rw [Bool.eq_iff_iff]
    simp only [Bool.or_eq_true, Bool.and_eq_true, decide_eq_true_eq, beq_iff_eq]
    rw [e1, e2]
    constructor
    · rintro (h | ⟨h, h'⟩)
      · have : c * (x + 1) ≤ c * y := Nat.mul_le_mul_left c h
        rw [Nat.mul_add] at this
        omega
      · subst h; omega
    · intro h
      rcases Nat.lt_trichotomy x y with h2 | h2 | h2
      · exact .inl h2
      · subst h2; exact .inr ⟨rfl, by omega⟩
      · exfalso
        have : c * (y + 1) ≤ c * x := Nat.mul_le_mul_left c h2
        rw [Nat.mul_add] at this
        omega
theorem mod10 (a : Int) (h1 : a ≤ 1099511627775) : a.toNat % 16 ^ 10 = a.toNat :=
  Nat.mod_eq_of_lt (by have : (16 : Nat) ^ 10 = 1099511627776 := by decide
                       omega)
theorem ticket_list (k n : Nat) (s : ByteArray) : (ticketB k s n).toList = (prefixB k s).data.toList ++ hexL n 10 := by
  rw [ByteArray.toList_eq]; unfold ticketB; rw [app_list, hexB_list]
theorem ticket_order (k : Nat) (s : ByteArray) (a b : Int) (h0 : 0 ≤ a) (h1 : a ≤ 1099511627775) (h2 : 0 ≤ b) (h3 : b ≤ 1099511627775) :
    Op.bytesLess (ticketB k s a.toNat).toList (ticketB k s b.toNat).toList = decide (a < b) := by
  rw [ticket_list, ticket_list, less_app, hex_less, mod10 a h1, mod10 b h3]
  exact decide_eq_decide.2 (by omega)
theorem ticket_same (k : Nat) (s : ByteArray) (a b : Int) (h0 : 0 ≤ a) (h1 : a ≤ 1099511627775) (h2 : 0 ≤ b) (h3 : b ≤ 1099511627775) :
    ((ticketB k s a.toNat).toList == (ticketB k s b.toNat).toList) = (a == b) := by
  rw [ticket_list, ticket_list, Bool.eq_iff_iff]
  simp only [beq_iff_eq]
  constructor
  · intro h
    have := congrArg unhexN (List.append_cancel_left h)
    rw [unhex_hex, unhex_hex, mod10 a h1, mod10 b h3] at this
    omega
  · intro h; rw [h]
theorem ticket_len {k : Nat} (h1 : 1 ≤ k) (h8 : k ≤ 8) (s : ByteArray) (n : Nat) : (ticketB k s n).size = s.size + 13 := by
  unfold ticketB; rw [size_app, hex_size, prefix_size h1 h8]
theorem letters_box (w : World) (h : Letters w) (o : Obj) (n : Nat) : Letters ((w.alloc o).drewN n) := h.below (below_drewN ((Below.refl _ _).alloc (Nat.le_refl _) _) n)
theorem box_then {w w1 : World} {o : Obj} {n : Nat} (h : Below ((w.alloc o).drewN n).heap.size ((w.alloc o).drewN n) w1) : Below w.heap.size w w1 := (below_drewN ((Below.refl _ _).alloc (Nat.le_refl _) _) n).trans (h.mono (below_drewN ((Below.refl w.heap.size w).alloc (Nat.le_refl _) o) n).size)

theorem walk (a0 : Int) (a1 : ByteArray) (a2 b2 : Int) (w0 : (Lit.int .i64 a0).wf = true) (w1 : a1.size ≤ maxLen) (w2 : (Lit.int .i64 a2).wf = true) (u2 : (Lit.int .i64 b2).wf = true) (w : World) (hL : Letters w) :
    Calls Tryd.prog 7 #[.int .i64 a0, .string a1, .agg #[.int .i64 a2, .int .i64 b2]] w fun e w' => e = .returned (.bool true) ∧ Below w.heap.size w w' := by
  obtain ⟨lo0, hi0⟩ := bounds_i64 w0
  clear w0
  have M1 := Lib.hid w1
  have z1 : a1.size ≤ 9223372036854775807 := by unfold maxLen at w1; omega
  clear w1
  obtain ⟨lo2, hi2⟩ := bounds_i64 w2
  obtain ⟨lp2, hj2⟩ := bounds_i64 u2
  clear w2 u2
  have HL := Lib.hid hL
  clear hL
  by_cases hl : (100 : Int) < a1.size
  · go_enter Tryd.func7, Tryd.ntmps7
    go_wp2_with fail
    go_quiet (fail)
    go_wp2_with fail
    refine (live_any _ (letters_box _ HL.out _ _)).mono ?_; rintro e w1 ⟨rfl, hb⟩; have B1 := Lib.hid (box_then hb); clear hb
    go_wp2
    go_ret
    exact ⟨rfl, B1.out⟩
  · by_cases hp : 1 ≤ a0 ∧ a0 ≤ 8 ∧ nameL a1.data.toList = true
    · obtain ⟨g1, g2, g3⟩ := hp
      obtain ⟨k, rfl⟩ := Int.eq_ofNat_of_zero_le (show 0 ≤ a0 by omega)
      have hk1 : 1 ≤ k := by omega
      have hk8 : k ≤ 8 := by omega
      have HN := Lib.hid g3
      clear g3
      by_cases ha : 0 ≤ a2 ∧ a2 ≤ 1099511627775
      · by_cases hb : 0 ≤ b2 ∧ b2 ≤ 1099511627775
        · obtain ⟨ha0, ha1⟩ := ha
          obtain ⟨hb0, hb1⟩ := hb
          have hless := ticket_order k a1 a2 b2 ha0 ha1 hb0 hb1
          have hsame := ticket_same k a1 a2 b2 ha0 ha1 hb0 hb1
          have hs1 := ticket_len hk1 hk8 a1 a2.toNat
          have hs2 := ticket_len hk1 hk8 a1 b2.toNat
          go_enter Tryd.func7, Tryd.ntmps7
          go_wp2_with fail
          go_quiet (fail)
          go_wp2_with fail
          refine (ticket_yes k a1 a2 _ hk1 hk8 HN.out ha0 ha1 (letters_box _ HL.out _ _)).mono ?_; rintro e w1 ⟨rfl, hb⟩; have B1 := Lib.hid (box_then hb); clear hb
          go_wp2_with fail
          refine (ticket_yes k a1 b2 _ hk1 hk8 HN.out hb0 hb1 (HL.out.below B1.out)).mono ?_; rintro e w2 ⟨rfl, hb⟩; have B2 := Lib.hid (below_then B1.out hb); clear hb
          go_wp2_with fail
          refine (live_any _ (HL.out.below B2.out)).mono ?_; rintro e w3 ⟨rfl, hb⟩; have B3 := Lib.hid (below_then B2.out hb); clear hb
          go_wp2
          go_ret
          exact ⟨rfl, B3.out⟩
        · have HK := Lib.hid hb
          obtain ⟨ha0, ha1⟩ := ha
          clear hb
          go_enter Tryd.func7, Tryd.ntmps7
          go_wp2_with fail
          go_quiet (fail)
          go_wp2_with fail
          refine (ticket_yes k a1 a2 _ hk1 hk8 HN.out ha0 ha1 (letters_box _ HL.out _ _)).mono ?_; rintro e w1 ⟨rfl, hb⟩; have B1 := Lib.hid (box_then hb); clear hb
          go_wp2_with fail
          refine (ticket_no _ a1 b2 _ (fun h => HK.out h.2.2.2) M1.out (by omega) (by omega) (by omega) (by omega) (HL.out.below B1.out)).mono ?_; rintro e w2 ⟨rfl, hb⟩; have B2 := Lib.hid (below_then B1.out hb); clear hb
          go_wp2_with fail
          refine (live_any _ (HL.out.below B2.out)).mono ?_; rintro e w3 ⟨rfl, hb⟩; have B3 := Lib.hid (below_then B2.out hb); clear hb
          go_wp2
          go_ret
          exact ⟨rfl, B3.out⟩
      · have HK := Lib.hid ha
        clear ha
        by_cases hb : 0 ≤ b2 ∧ b2 ≤ 1099511627775
        · obtain ⟨hb0, hb1⟩ := hb
          go_enter Tryd.func7, Tryd.ntmps7
          go_wp2_with fail
          go_quiet (fail)
          go_wp2_with fail
          refine (ticket_no _ a1 a2 _ (fun h => HK.out h.2.2.2) M1.out (by omega) (by omega) (by omega) (by omega) (letters_box _ HL.out _ _)).mono ?_; rintro e w1 ⟨rfl, hb⟩; have B1 := Lib.hid (box_then hb); clear hb
          go_wp2_with fail
          refine (ticket_yes k a1 b2 _ hk1 hk8 HN.out hb0 hb1 (HL.out.below B1.out)).mono ?_; rintro e w2 ⟨rfl, hb⟩; have B2 := Lib.hid (below_then B1.out hb); clear hb
          go_wp2_with fail
          refine (live_any _ (HL.out.below B2.out)).mono ?_; rintro e w3 ⟨rfl, hb⟩; have B3 := Lib.hid (below_then B2.out hb); clear hb
          go_wp2
          go_ret
          exact ⟨rfl, B3.out⟩
        · have HJ := Lib.hid hb
          clear hb
          go_enter Tryd.func7, Tryd.ntmps7
          go_wp2_with fail
          go_quiet (fail)
          go_wp2_with fail
          refine (ticket_no _ a1 a2 _ (fun h => HK.out h.2.2.2) M1.out (by omega) (by omega) (by omega) (by omega) (letters_box _ HL.out _ _)).mono ?_; rintro e w1 ⟨rfl, hb⟩; have B1 := Lib.hid (box_then hb); clear hb
          go_wp2_with fail
          refine (ticket_no _ a1 b2 _ (fun h => HJ.out h.2.2.2) M1.out (by omega) (by omega) (by omega) (by omega) (HL.out.below B1.out)).mono ?_; rintro e w2 ⟨rfl, hb⟩; have B2 := Lib.hid (below_then B1.out hb); clear hb
          go_wp2_with fail
          refine (live_any _ (HL.out.below B2.out)).mono ?_; rintro e w3 ⟨rfl, hb⟩; have B3 := Lib.hid (below_then B2.out hb); clear hb
          go_wp2
          go_ret
          exact ⟨rfl, B3.out⟩
    · have HP := Lib.hid hp
      clear hp
      go_enter Tryd.func7, Tryd.ntmps7
      go_wp2_with fail
      go_quiet (fail)
      go_wp2_with fail
      refine (ticket_no _ a1 a2 _ (fun h => HP.out ⟨h.1, h.2.1, h.2.2.1⟩) M1.out (by omega) (by omega) (by omega) (by omega) (letters_box _ HL.out _ _)).mono ?_; rintro e w1 ⟨rfl, hb⟩; have B1 := Lib.hid (box_then hb); clear hb
      go_wp2_with fail
      refine (ticket_no _ a1 b2 _ (fun h => HP.out ⟨h.1, h.2.1, h.2.2.1⟩) M1.out (by omega) (by omega) (by omega) (by omega) (HL.out.below B1.out)).mono ?_; rintro e w2 ⟨rfl, hb⟩; have B2 := Lib.hid (below_then B1.out hb); clear hb
      go_wp2_with fail
      refine (live_any _ (HL.out.below B2.out)).mono ?_; rintro e w3 ⟨rfl, hb⟩; have B3 := Lib.hid (below_then B2.out hb); clear hb
      go_wp2
      go_ret
      exact ⟨rfl, B3.out⟩

set_option maxRecDepth 100000 in
theorem lifted (os : Os) (started : os.Started) (H : Type) (enc : TypeId × Value → H) :
    ReturnsInHanded {} Tryd.checked os 7 .any (fun w args => (Rows.keyOrderSpec.pre enc Tryd.prog Tryd.f7 [] false w args ∧ laidMetH Tryd.prog laidK w) ∧ sizedMet enc Tryd.prog Tryd.f7 (OpenSpec.ofChange Rows.keyOrderSpec) false w args)
      (Rows.keyOrderSpec.post enc Tryd.prog Tryd.f7 false true false false) := by
  refine returnsInHanded_of_change_and (C := Tryd.checked) (X := fun w _ => laidMetH Tryd.prog laidK w) (fun _ _ _ hh h => h.of_heap hh) own started (by kernel_rfl) Tryd.func7
    (ChangeSpec.witness_shaped (enc := enc) (C := Tryd.checked) (os := os) (X := fun w _ => laidMetH Tryd.prog laidK w) false (World.doorLaid Tryd.prog 400 os) #[.int .i64 0, .string ByteArray.empty, .agg #[.int .i64 0, .int .i64 0]] 8 rfl (World.shaped_of_RefB (by kernel_rfl) (by kernel_rfl)) (by kernel_rfl) (by kernel_rfl) (by kernel_rfl) (door_met os _)) ?_
  intro W base args ds gs before hval0 hW _ _ hL _
  have hval : ∀ (j : Nat) t v, Tryd.f7.params[j]? = some t → args[j]? = some v → Value.okWide Tryd.prog W .any base t v := hval0
  have hW' := hW
  obtain ⟨p, q, hA0, hV, rfl, hfz, hnd⟩ := hW
  have hA : DataW.TrodAll enc Tryd.prog W 0 (fun _ => true) true Tryd.f7.params.toList args.toList ds p := hA0
  rw [Tryd.params7] at hA hval
  obtain ⟨v0, vs0, d0, ds0, p0, q0, hargs, rfl, rfl, h0, r0⟩ := trodAll_cons hA
  obtain ⟨v1, vs1, d1, ds1, p1, q1, rfl, rfl, rfl, h1, r1⟩ := trodAll_cons r0
  obtain ⟨v2, vs2, d2, ds2, p2, q2, rfl, rfl, rfl, h2, r2⟩ := trodAll_cons r1
  obtain ⟨rfl, rfl, rfl⟩ := trodAll_nil r2
  obtain rfl : args = #[v0, v1, v2] := by cases args; simp_all
  obtain ⟨rfl, rfl⟩ := trodVars_none hV
  obtain ⟨a0, rfl, rfl, rfl, w0⟩ := open_int Tryd.underlying3 (hval 0 3 v0 rfl rfl) h0
  obtain ⟨a1, rfl, rfl, rfl, w1⟩ := open_string Tryd.underlying9 (hval 1 9 v1 rfl rfl) h1
  obtain ⟨a2, b2, rfl, rfl, rfl, w2, u2⟩ := open_two_int Tryd.underlying33 Tryd.underlying3 (by kernel_rfl) (by kernel_rfl) (hval 2 33 v2 rfl rfl) h2
  have hlet := letters_of_laid hL
  clear hA0 hval0 hL
  refine (walk a0 a1 a2 b2 w0 w1 w2 u2 W hlet).mono fun e W' ⟨he, bel⟩ => ?_
  subst he
  exact ⟨_, rfl, _, _, _, [], _, [], hW', trodAll_mk1 (shut_bool Tryd.underlying4 _), (trodAll_cons_mk (shut_int Tryd.underlying3 w0) (trodAll_cons_mk (shut_string Tryd.underlying9 w1) (trodAll_cons_mk (shut_two_int Tryd.underlying33 Tryd.underlying3 (by kernel_rfl) (by kernel_rfl) w2 u2) trodAll_mk0))), rfl, bel.frame _, fun h => by cases h⟩

theorem over : Rows.KeyOrderSaid :=
  OpenClaim.holds_of_wide 7 Tryd.f7 rfl rfl rfl rfl rfl rfl rfl ⟨rfl, rfl, rfl, rfl, rfl⟩ rfl rfl rfl rfl rfl (by kernel_rfl) Tryd.func7 (by kernel_rfl)
    (of_decide_eq_true (by kernel_rfl)) (by unfold Func.isWrapper; first | (rw [if_pos (by decide +kernel)]; kernel_rfl) | (rw [if_neg (by decide +kernel)]; exact ⟨rfl, rfl⟩))
    (fun os started H enc _ => lifted os started H enc)

theorem plain (f : FuncId) (fn : Func) (hf : Tryd.pinned.checked.prog.funcNamed "baton/batonlaw02.KeyOrder" = some f) (hfn : Tryd.pinned.checked.prog.funcs[f]? = some fn) :
    false = Tryd.pinned.checked.prog.looks [] ∧ ∀ (j : Nat) t, fn.params[j]? = some t → Tryd.pinned.checked.prog.wantsStandIn t = false := by
  obtain rfl : f = 7 := Option.some.inj ((show Tryd.prog.funcNamed "baton/batonlaw02.KeyOrder" = some 7 by kernel_rfl).symm.trans hf) |>.symm
  obtain rfl : fn = Tryd.f7 := (Option.some.inj (Tryd.func7.symm.trans hfn)).symm
  refine ⟨by kernel_rfl, fun j t ht => ?_⟩
  rw [Tryd.params7] at ht
  have hm : t ∈ [3, 9, 33] := by simpa using Array.mem_of_getElem? ht
  have hall : ([3, 9, 33].all fun u => !Tryd.prog.wantsStandIn u) = true := by kernel_rfl
  exact (show Tryd.prog.wantsStandIn t = false by simpa using List.all_eq_true.1 hall t hm)

theorem proved : Rows.KeyOrderCardSaid :=
  Claim7.holds_tied_plain_at .later [] _ _ _ _ over (fun _ h => by cases h) (by kernel_rfl) (fun _ h => by cases h) keyOrder_row_tie rfl ⟨rfl, rfl⟩ (by kernel_rfl) rfl plain (by kernel_rfl)
#print axioms proved
end Go.Proofs.YtjnmlbenhkhcbabDoor.keyOrder
