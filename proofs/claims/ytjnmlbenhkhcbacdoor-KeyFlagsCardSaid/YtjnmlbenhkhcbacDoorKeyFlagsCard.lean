/- For every name and id the law KeyFlags answers true: a party's flag is a key that may be, lies under its prefix, and is no ticket there. No condition. -/
import Derived.Test.YtjnmlbenhkhcbacDoorKeyLaid
import Derived.Test.YtjnmlbenhkhcbacDoorKeyMath
namespace Go.Proofs.YtjnmlbenhkhcbacDoor.keyFlags
open Go.ChangeShapes Go.WideShapes Go.ChangeAt Go.RowKit Go.Proofs.YtjnmlbenhkhcbacDoor.P
open Go.ChangeMaps (open_string shut_string)
set_option linter.unusedVariables false
set_option maxHeartbeats 1000000
set_option maxRecDepth 100000
theorem flag_back (s : ByteArray) (w : World) (hn : nameL s.data.toList = true) :
    Calls Tryd.prog 9 #[.string (prefixB 6 s), .string (prefixB 6 s ++ ⟨#[111, 112, 101, 110]⟩)] w (fun e w' => e = .returned (.tuple #[.int .i64 0, .bool false]) ∧ Below w.heap.size w w') ∧
    Calls Tryd.prog 10 #[.string (prefixB 6 s ++ ⟨#[111, 112, 101, 110]⟩)] w (fun e w' => e = .returned (.bool true) ∧ Below w.heap.size w w') ∧
    Calls Tryd.prog 11 #[.string (prefixB 6 s), .string (prefixB 6 s ++ ⟨#[111, 112, 101, 110]⟩)] w (fun e w' => e = .returned (.bool true) ∧ w = w') := by
  have hz := prefix_size (k := 6) (by decide) (by decide) s
  have hs := nameL_size hn
  have hsz : (prefixB 6 s ++ ⟨#[111, 112, 101, 110]⟩ : ByteArray).size = s.size + 7 := by rw [size_app, hz]; rfl
  have hm : (prefixB 6 s ++ ⟨#[111, 112, 101, 110]⟩ : ByteArray).size ≤ maxLen := by unfold maxLen; omega
  have hm2 : (prefixB 6 s).size ≤ maxLen := by unfold maxLen; omega
  refine ⟨?_, ?_, ?_⟩
  · refine (id_none _ _ w (fun r h hr => ?_) hm hm2).mono fun e w' h => ⟨h.1, h.2 ▸ Below.refl _ _⟩
    have := congrArg ByteArray.size h
    rw [size_app, size_app, hr] at this
    exact absurd (Nat.add_left_cancel this) (by decide)
  · refine (check_any _ w hm).mono fun e w' h => ⟨h.1.trans (ret_bool ?_), h.2⟩
    unfold checkL
    rw [madeL_fit (by rw [list_size]; omega) (by rw [list_size]; omega), app_list, List.all_append, prefix_key (by decide) hn]
    rfl
  · exact under_yes _ _ w (by decide) hm
theorem flag_not (s : ByteArray) (n : Nat) : ((ticketB 6 s n).toList == (prefixB 6 s ++ ⟨#[111, 112, 101, 110]⟩ : ByteArray).toList) = false := by
  cases h : ((ticketB 6 s n).toList == (prefixB 6 s ++ ⟨#[111, 112, 101, 110]⟩ : ByteArray).toList)
  · rfl
  · exfalso
    have := congrArg List.length (beq_iff_eq.1 h)
    rw [ByteArray.toList_eq, ByteArray.toList_eq, list_size, list_size] at this
    unfold ticketB at this
    rw [size_app, size_app, hex_size] at this
    exact absurd (Nat.add_left_cancel this) (by decide)

theorem walk (a0 : ByteArray) (a1 : Int) (w0 : a0.size ≤ maxLen) (w1 : (Lit.int .i64 a1).wf = true) (w : World) (hL : Letters w) :
    Calls Tryd.prog 3 #[.string a0, .int .i64 a1] w fun e w' => e = .returned (.bool true) ∧ Below w.heap.size w w' := by
  have M0 := Lib.hid w0
  have z0 : a0.size ≤ 9223372036854775807 := by unfold maxLen at w0; omega
  clear w0
  obtain ⟨lo1, hi1⟩ := bounds_i64 w1
  clear w1
  have HL := Lib.hid hL
  clear hL
  by_cases hl : (100 : Int) < a0.size
  · go_enter Tryd.func3, Tryd.ntmps3
    go_wp2_with fail
    refine (live_any _ HL.out).mono ?_; rintro e w1 ⟨rfl, hb⟩; have B1 := Lib.hid hb; clear hb
    go_wp2
    go_ret
    exact ⟨rfl, B1.out⟩
  · by_cases hn : nameL a0.data.toList = true
    · have HN := Lib.hid hn
      have hfb := fun w => flag_back a0 w hn
      have hnf := flag_not a0 a1.toNat
      have HB := Lib.hid hfb
      clear hfb hn
      by_cases hm : 0 ≤ a1 ∧ a1 ≤ 1099511627775
      · go_enter Tryd.func3, Tryd.ntmps3
        go_wp2_with fail
        refine (flag_yes a0 _ HN.out HL.out).mono ?_; rintro e w1 ⟨rfl, hb⟩; have B1 := Lib.hid hb; clear hb
        go_wp2_with fail
        refine (prefix_yes 6 a0 _ (by decide) (by decide) HN.out (HL.out.below B1.out)).mono ?_; rintro e w2 ⟨rfl, hb⟩; have B2 := Lib.hid (below_then B1.out hb); clear hb
        go_wp2_with fail
        refine (ticket_yes 6 a0 a1 _ (by decide) (by decide) HN.out hm.1 hm.2 (HL.out.below B2.out)).mono ?_; rintro e w3 ⟨rfl, hb⟩; have B3 := Lib.hid (below_then B2.out hb); clear hb
        go_wp2_with fail
        refine ((HB.out _).1).mono ?_; rintro e w4 ⟨rfl, hb⟩; have B4 := Lib.hid (below_then B3.out hb); clear hb
        go_wp2_with fail
        refine ((HB.out _).2.1).mono ?_; rintro e w5 ⟨rfl, hb⟩; have B5 := Lib.hid (below_then B4.out hb); clear hb
        go_wp2_with fail
        refine ((HB.out _).2.2).mono ?_; rintro e w' ⟨rfl, rfl⟩
        go_wp2_with fail
        refine (live_any _ (HL.out.below B5.out)).mono ?_; rintro e w6 ⟨rfl, hb⟩; have B6 := Lib.hid (below_then B5.out hb); clear hb
        go_wp2
        go_ret
        exact ⟨rfl, B6.out⟩
      · have HK := Lib.hid (show ¬ (1 ≤ (6 : Int) ∧ (6 : Int) ≤ 8 ∧ nameL a0.data.toList = true ∧ 0 ≤ a1 ∧ a1 ≤ 1099511627775) from fun h => hm h.2.2.2)
        clear hm
        go_enter Tryd.func3, Tryd.ntmps3
        go_wp2_with fail
        refine (flag_yes a0 _ HN.out HL.out).mono ?_; rintro e w1 ⟨rfl, hb⟩; have B1 := Lib.hid hb; clear hb
        go_wp2_with fail
        refine (prefix_yes 6 a0 _ (by decide) (by decide) HN.out (HL.out.below B1.out)).mono ?_; rintro e w2 ⟨rfl, hb⟩; have B2 := Lib.hid (below_then B1.out hb); clear hb
        go_wp2_with fail
        refine (ticket_no 6 a0 a1 _ HK.out M0.out (by decide) (by decide) (by omega) (by omega) (HL.out.below B2.out)).mono ?_; rintro e w3 ⟨rfl, hb⟩; have B3 := Lib.hid (below_then B2.out hb); clear hb
        go_wp2_with fail
        refine ((HB.out _).1).mono ?_; rintro e w4 ⟨rfl, hb⟩; have B4 := Lib.hid (below_then B3.out hb); clear hb
        go_wp2_with fail
        refine ((HB.out _).2.1).mono ?_; rintro e w5 ⟨rfl, hb⟩; have B5 := Lib.hid (below_then B4.out hb); clear hb
        go_wp2_with fail
        refine ((HB.out _).2.2).mono ?_; rintro e w' ⟨rfl, rfl⟩
        go_wp2_with fail
        refine (live_any _ (HL.out.below B5.out)).mono ?_; rintro e w6 ⟨rfl, hb⟩; have B6 := Lib.hid (below_then B5.out hb); clear hb
        go_wp2
        go_ret
        exact ⟨rfl, B6.out⟩
    · have hn : nameL a0.data.toList = false := by simpa using hn
      have HN := Lib.hid hn
      have HK := Lib.hid (show ¬ (1 ≤ (6 : Int) ∧ (6 : Int) ≤ 8 ∧ nameL a0.data.toList = true ∧ 0 ≤ a1 ∧ a1 ≤ 1099511627775) from fun h => by rw [hn] at h; exact absurd h.2.2.1 (by decide))
      have HP := Lib.hid (show ¬ (1 ≤ (6 : Int) ∧ (6 : Int) ≤ 8 ∧ nameL a0.data.toList = true) from fun h => by rw [hn] at h; exact absurd h.2.2 (by decide))
      clear hn
      go_enter Tryd.func3, Tryd.ntmps3
      go_wp2_with fail
      refine (flag_no a0 _ HN.out M0.out HL.out).mono ?_; rintro e w1 ⟨rfl, hb⟩; have B1 := Lib.hid hb; clear hb
      go_wp2_with fail
      refine (prefix_no 6 a0 _ HP.out M0.out (by decide) (by decide) (HL.out.below B1.out)).mono ?_; rintro e w2 ⟨rfl, hb⟩; have B2 := Lib.hid (below_then B1.out hb); clear hb
      go_wp2_with fail
      refine (ticket_no 6 a0 a1 _ HK.out M0.out (by decide) (by decide) (by omega) (by omega) (HL.out.below B2.out)).mono ?_; rintro e w3 ⟨rfl, hb⟩; have B3 := Lib.hid (below_then B2.out hb); clear hb
      go_wp2_with fail
      refine (name_no a0 _ M0.out HN.out).mono ?_; rintro e w4 ⟨rfl, hb⟩; have B4 := Lib.hid (below_then B3.out hb); clear hb
      go_wp2_with fail
      refine (live_any _ (HL.out.below B4.out)).mono ?_; rintro e w5 ⟨rfl, hb⟩; have B5 := Lib.hid (below_then B4.out hb); clear hb
      go_wp2
      go_ret
      exact ⟨rfl, B5.out⟩

set_option maxRecDepth 100000 in
theorem lifted (os : Os) (started : os.Started) (H : Type) (enc : TypeId × Value → H) :
    ReturnsInHanded {} Tryd.checked os 3 .any (fun w args => (Rows.keyFlagsSpec.pre enc Tryd.prog Tryd.f3 [] false w args ∧ laidMetH Tryd.prog laidK w) ∧ sizedMet enc Tryd.prog Tryd.f3 (OpenSpec.ofChange Rows.keyFlagsSpec) false w args)
      (Rows.keyFlagsSpec.post enc Tryd.prog Tryd.f3 false true false false) := by
  refine returnsInHanded_of_change_and (C := Tryd.checked) (X := fun w _ => laidMetH Tryd.prog laidK w) (fun _ _ _ hh h => h.of_heap hh) own started (by kernel_rfl) Tryd.func3
    (ChangeSpec.witness_shaped (enc := enc) (C := Tryd.checked) (os := os) (X := fun w _ => laidMetH Tryd.prog laidK w) false (World.doorLaid Tryd.prog 400 os) #[.string ByteArray.empty, .int .i64 0] 8 rfl (World.shaped_of_RefB (by kernel_rfl) (by kernel_rfl)) (by kernel_rfl) (by kernel_rfl) (by kernel_rfl) (door_met os _)) ?_
  intro W base args ds gs before hval0 hW _ _ hL _
  have hval : ∀ (j : Nat) t v, Tryd.f3.params[j]? = some t → args[j]? = some v → Value.okWide Tryd.prog W .any base t v := hval0
  have hW' := hW
  obtain ⟨p, q, hA0, hV, rfl, hfz, hnd⟩ := hW
  have hA : DataW.TrodAll enc Tryd.prog W 0 (fun _ => true) true Tryd.f3.params.toList args.toList ds p := hA0
  rw [Tryd.params3] at hA hval
  obtain ⟨v0, vs0, d0, ds0, p0, q0, hargs, rfl, rfl, h0, r0⟩ := trodAll_cons hA
  obtain ⟨v1, vs1, d1, ds1, p1, q1, rfl, rfl, rfl, h1, r1⟩ := trodAll_cons r0
  obtain ⟨rfl, rfl, rfl⟩ := trodAll_nil r1
  obtain rfl : args = #[v0, v1] := by cases args; simp_all
  obtain ⟨rfl, rfl⟩ := trodVars_none hV
  obtain ⟨a0, rfl, rfl, rfl, w0⟩ := open_string Tryd.underlying9 (hval 0 9 v0 rfl rfl) h0
  obtain ⟨a1, rfl, rfl, rfl, w1⟩ := open_int Tryd.underlying3 (hval 1 3 v1 rfl rfl) h1
  have hlet := letters_of_laid hL
  clear hA0 hval0 hL
  refine (walk a0 a1 w0 w1 W hlet).mono fun e W' ⟨he, bel⟩ => ?_
  subst he
  exact ⟨_, rfl, _, _, _, [], _, [], hW', trodAll_mk1 (shut_bool Tryd.underlying4 _), (trodAll_cons_mk (shut_string Tryd.underlying9 w0) (trodAll_cons_mk (shut_int Tryd.underlying3 w1) trodAll_mk0)), rfl, bel.frame _, fun h => by cases h⟩

theorem over : Rows.KeyFlagsSaid :=
  OpenClaim.holds_of_wide 3 Tryd.f3 rfl rfl rfl rfl rfl rfl rfl ⟨rfl, rfl, rfl, rfl, rfl⟩ rfl rfl rfl rfl rfl (by kernel_rfl) Tryd.func3 (by kernel_rfl)
    (of_decide_eq_true (by kernel_rfl)) (by unfold Func.isWrapper; first | (rw [if_pos (by decide +kernel)]; kernel_rfl) | (rw [if_neg (by decide +kernel)]; exact ⟨rfl, rfl⟩))
    (fun os started H enc _ => lifted os started H enc)

theorem plain (f : FuncId) (fn : Func) (hf : Tryd.pinned.checked.prog.funcNamed "baton/batonlaw02.KeyFlags" = some f) (hfn : Tryd.pinned.checked.prog.funcs[f]? = some fn) :
    false = Tryd.pinned.checked.prog.looks [] ∧ ∀ (j : Nat) t, fn.params[j]? = some t → Tryd.pinned.checked.prog.wantsStandIn t = false := by
  obtain rfl : f = 3 := Option.some.inj ((show Tryd.prog.funcNamed "baton/batonlaw02.KeyFlags" = some 3 by kernel_rfl).symm.trans hf) |>.symm
  obtain rfl : fn = Tryd.f3 := (Option.some.inj (Tryd.func3.symm.trans hfn)).symm
  refine ⟨by kernel_rfl, fun j t ht => ?_⟩
  rw [Tryd.params3] at ht
  have hm : t ∈ [9, 3] := by simpa using Array.mem_of_getElem? ht
  have hall : ([9, 3].all fun u => !Tryd.prog.wantsStandIn u) = true := by kernel_rfl
  exact (show Tryd.prog.wantsStandIn t = false by simpa using List.all_eq_true.1 hall t hm)

theorem proved : Rows.KeyFlagsCardSaid :=
  Claim7.holds_tied_plain_at .later [] _ _ _ _ over (fun _ h => by cases h) (by kernel_rfl) (fun _ h => by cases h) keyFlags_row_tie rfl ⟨rfl, rfl⟩ (by kernel_rfl) rfl plain (by kernel_rfl)
#print axioms proved
end Go.Proofs.YtjnmlbenhkhcbacDoor.keyFlags
