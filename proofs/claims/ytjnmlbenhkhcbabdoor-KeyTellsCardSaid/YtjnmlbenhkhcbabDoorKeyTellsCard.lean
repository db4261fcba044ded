/- For every text, kind and id the law KeyTells answers true: Check, Name, Prefix, Ticket and Flag answer what the document asks. No condition. -/
import Derived.Test.YtjnmlbenhkhcbabDoorKeyLaid
import Derived.Test.YtjnmlbenhkhcbabDoorKeyRef
namespace Go.Proofs.YtjnmlbenhkhcbabDoor.keyTells
open Go.ChangeShapes Go.WideShapes Go.ChangeAt Go.RowKit Go.Proofs.YtjnmlbenhkhcbabDoor.P
open Go.ChangeMaps (open_string shut_string)
set_option linter.unusedVariables false
set_option maxHeartbeats 2000000
set_option maxRecDepth 100000

theorem walk (a0 : ByteArray) (a1 : Int) (a2 : Int) (w0 : a0.size ≤ maxLen) (w1 : (Lit.int .i64 a1).wf = true) (w2 : (Lit.int .i64 a2).wf = true) (w : World) (hL : Letters w) :
    Calls Tryd.prog 3 #[.string a0, .int .i64 a1, .int .i64 a2] w fun e w' => e = .returned (.bool true) ∧ Below w.heap.size w w' := by
  have M0 := Lib.hid w0
  have z0 : a0.size ≤ 9223372036854775807 := by unfold maxLen at w0; omega
  clear w0
  obtain ⟨lo1, hi1⟩ := bounds_i64 w1
  clear w1
  obtain ⟨lo2, hi2⟩ := bounds_i64 w2
  clear w2
  have HL := Lib.hid hL
  clear hL
  by_cases hl : (100 : Int) < a0.size
  · go_enter Tryd.func3, Tryd.ntmps3
    go_wp2_with fail
    refine (live_any _ HL.out).mono ?_; rintro e w1 ⟨rfl, hb⟩; have B1 := Lib.hid hb; clear hb
    go_wp2
    go_ret
    exact ⟨rfl, B1.out⟩
  · by_cases hn : nameL a0.data.toList = true
    · have HN := Lib.hid hn
      clear hn
      by_cases hk : 1 ≤ a1 ∧ a1 ≤ 8
      · obtain ⟨k0, k1⟩ := hk
        obtain ⟨k, rfl⟩ := Int.eq_ofNat_of_zero_le (show 0 ≤ a1 by omega)
        have hk1 : 1 ≤ k := by omega
        have hk8 : k ≤ 8 := by omega
        by_cases hi : 0 ≤ a2 ∧ a2 ≤ 1099511627775
        · go_enter Tryd.func3, Tryd.ntmps3
          go_wp2_with fail
          refine (prefix_yes k a0 _ hk1 hk8 HN.out HL.out).mono ?_; rintro e w1 ⟨rfl, hb⟩; have B1 := Lib.hid hb; clear hb
          go_wp2_with fail
          refine (prefix_ref_yes k a0 _ hk1 hk8 HN.out).mono ?_; rintro e w' ⟨rfl, rfl⟩
          go_wp2_with fail
          refine (ticket_yes k a0 a2 _ hk1 hk8 HN.out hi.1 hi.2 (HL.out.below B1.out)).mono ?_; rintro e w2 ⟨rfl, hb⟩; have B2 := Lib.hid (below_then B1.out hb); clear hb
          go_wp2_with fail
          refine (ticket_ref_yes k a0 a2 _ hk1 hk8 HN.out hi.1 hi.2).mono ?_; rintro e w' ⟨rfl, rfl⟩
          go_wp2_with fail
          refine (flag_yes a0 _ HN.out (HL.out.below B2.out)).mono ?_; rintro e w3 ⟨rfl, hb⟩; have B3 := Lib.hid (below_then B2.out hb); clear hb
          go_wp2_with fail
          refine (flag_ref_yes a0 _ HN.out).mono ?_; rintro e w' ⟨rfl, rfl⟩
          go_wp2_with fail
          refine (check_any a0 _ M0.out).mono ?_; rintro e w4 ⟨rfl, hb⟩; have B4 := Lib.hid (below_then B3.out hb); clear hb
          go_wp2_with fail
          refine (check_ref a0 _ M0.out).mono ?_; rintro e w' ⟨rfl, rfl⟩
          go_wp2_with fail
          refine (name_any a0 _ M0.out).mono ?_; rintro e w5 ⟨rfl, hb⟩; have B5 := Lib.hid (below_then B4.out hb); clear hb
          go_wp2_with fail
          refine (name_ref a0 _ M0.out).mono ?_; rintro e w' ⟨rfl, rfl⟩
          go_wp2_with fail
          refine (live_any _ (HL.out.below B5.out)).mono ?_; rintro e w6 ⟨rfl, hb⟩; have B6 := Lib.hid (below_then B5.out hb); clear hb
          go_wp2
          go_ret
          exact ⟨rfl, B6.out⟩
        · have HK := Lib.hid (show ¬ (1 ≤ (k : Int) ∧ (k : Int) ≤ 8 ∧ nameL a0.data.toList = true ∧ 0 ≤ a2 ∧ a2 ≤ 1099511627775) from fun h => hi h.2.2.2)
          clear hi
          go_enter Tryd.func3, Tryd.ntmps3
          go_wp2_with fail
          refine (prefix_yes k a0 _ hk1 hk8 HN.out HL.out).mono ?_; rintro e w1 ⟨rfl, hb⟩; have B1 := Lib.hid hb; clear hb
          go_wp2_with fail
          refine (prefix_ref_yes k a0 _ hk1 hk8 HN.out).mono ?_; rintro e w' ⟨rfl, rfl⟩
          go_wp2_with fail
          refine (ticket_no _ a0 a2 _ HK.out M0.out (by omega) (by omega) (by omega) (by omega) (HL.out.below B1.out)).mono ?_; rintro e w2 ⟨rfl, hb⟩; have B2 := Lib.hid (below_then B1.out hb); clear hb
          go_wp2_with fail
          refine (ticket_ref_no _ a0 a2 _ HK.out M0.out (by omega) (by omega)).mono ?_; rintro e w' ⟨rfl, rfl⟩
          go_wp2_with fail
          refine (flag_yes a0 _ HN.out (HL.out.below B2.out)).mono ?_; rintro e w3 ⟨rfl, hb⟩; have B3 := Lib.hid (below_then B2.out hb); clear hb
          go_wp2_with fail
          refine (flag_ref_yes a0 _ HN.out).mono ?_; rintro e w' ⟨rfl, rfl⟩
          go_wp2_with fail
          refine (check_any a0 _ M0.out).mono ?_; rintro e w4 ⟨rfl, hb⟩; have B4 := Lib.hid (below_then B3.out hb); clear hb
          go_wp2_with fail
          refine (check_ref a0 _ M0.out).mono ?_; rintro e w' ⟨rfl, rfl⟩
          go_wp2_with fail
          refine (name_any a0 _ M0.out).mono ?_; rintro e w5 ⟨rfl, hb⟩; have B5 := Lib.hid (below_then B4.out hb); clear hb
          go_wp2_with fail
          refine (name_ref a0 _ M0.out).mono ?_; rintro e w' ⟨rfl, rfl⟩
          go_wp2_with fail
          refine (live_any _ (HL.out.below B5.out)).mono ?_; rintro e w6 ⟨rfl, hb⟩; have B6 := Lib.hid (below_then B5.out hb); clear hb
          go_wp2
          go_ret
          exact ⟨rfl, B6.out⟩
      · have HK := Lib.hid (show ¬ (1 ≤ a1 ∧ a1 ≤ 8 ∧ nameL a0.data.toList = true ∧ 0 ≤ a2 ∧ a2 ≤ 1099511627775) from fun h => hk ⟨h.1, h.2.1⟩)
        have HP := Lib.hid (show ¬ (1 ≤ a1 ∧ a1 ≤ 8 ∧ nameL a0.data.toList = true) from fun h => hk ⟨h.1, h.2.1⟩)
        clear hk
        go_enter Tryd.func3, Tryd.ntmps3
        go_wp2_with fail
        refine (prefix_no _ a0 _ HP.out M0.out (by omega) (by omega) HL.out).mono ?_; rintro e w1 ⟨rfl, hb⟩; have B1 := Lib.hid hb; clear hb
        go_wp2_with fail
        refine (prefix_ref_no _ a0 _ HP.out M0.out).mono ?_; rintro e w' ⟨rfl, rfl⟩
        go_wp2_with fail
        refine (ticket_no _ a0 a2 _ HK.out M0.out (by omega) (by omega) (by omega) (by omega) (HL.out.below B1.out)).mono ?_; rintro e w2 ⟨rfl, hb⟩; have B2 := Lib.hid (below_then B1.out hb); clear hb
        go_wp2_with fail
        refine (ticket_ref_no _ a0 a2 _ HK.out M0.out (by omega) (by omega)).mono ?_; rintro e w' ⟨rfl, rfl⟩
        go_wp2_with fail
        refine (flag_yes a0 _ HN.out (HL.out.below B2.out)).mono ?_; rintro e w3 ⟨rfl, hb⟩; have B3 := Lib.hid (below_then B2.out hb); clear hb
        go_wp2_with fail
        refine (flag_ref_yes a0 _ HN.out).mono ?_; rintro e w' ⟨rfl, rfl⟩
        go_wp2_with fail
        refine (check_any a0 _ M0.out).mono ?_; rintro e w4 ⟨rfl, hb⟩; have B4 := Lib.hid (below_then B3.out hb); clear hb
        go_wp2_with fail
        refine (check_ref a0 _ M0.out).mono ?_; rintro e w' ⟨rfl, rfl⟩
        go_wp2_with fail
        refine (name_any a0 _ M0.out).mono ?_; rintro e w5 ⟨rfl, hb⟩; have B5 := Lib.hid (below_then B4.out hb); clear hb
        go_wp2_with fail
        refine (name_ref a0 _ M0.out).mono ?_; rintro e w' ⟨rfl, rfl⟩
        go_wp2_with fail
        refine (live_any _ (HL.out.below B5.out)).mono ?_; rintro e w6 ⟨rfl, hb⟩; have B6 := Lib.hid (below_then B5.out hb); clear hb
        go_wp2
        go_ret
        exact ⟨rfl, B6.out⟩
    · have hn : nameL a0.data.toList = false := by simpa using hn
      have HN := Lib.hid hn
      have HK := Lib.hid (show ¬ (1 ≤ a1 ∧ a1 ≤ 8 ∧ nameL a0.data.toList = true ∧ 0 ≤ a2 ∧ a2 ≤ 1099511627775) from fun h => by rw [hn] at h; exact absurd h.2.2.1 (by decide))
      have HP := Lib.hid (show ¬ (1 ≤ a1 ∧ a1 ≤ 8 ∧ nameL a0.data.toList = true) from fun h => by rw [hn] at h; exact absurd h.2.2 (by decide))
      clear hn
      go_enter Tryd.func3, Tryd.ntmps3
      go_wp2_with fail
      refine (prefix_no _ a0 _ HP.out M0.out (by omega) (by omega) HL.out).mono ?_; rintro e w1 ⟨rfl, hb⟩; have B1 := Lib.hid hb; clear hb
      go_wp2_with fail
      refine (prefix_ref_no _ a0 _ HP.out M0.out).mono ?_; rintro e w' ⟨rfl, rfl⟩
      go_wp2_with fail
      refine (ticket_no _ a0 a2 _ HK.out M0.out (by omega) (by omega) (by omega) (by omega) (HL.out.below B1.out)).mono ?_; rintro e w2 ⟨rfl, hb⟩; have B2 := Lib.hid (below_then B1.out hb); clear hb
      go_wp2_with fail
      refine (ticket_ref_no _ a0 a2 _ HK.out M0.out (by omega) (by omega)).mono ?_; rintro e w' ⟨rfl, rfl⟩
      go_wp2_with fail
      refine (flag_no a0 _ HN.out M0.out (HL.out.below B2.out)).mono ?_; rintro e w3 ⟨rfl, hb⟩; have B3 := Lib.hid (below_then B2.out hb); clear hb
      go_wp2_with fail
      refine (flag_ref_no a0 _ HN.out M0.out).mono ?_; rintro e w' ⟨rfl, rfl⟩
      go_wp2_with fail
      refine (check_any a0 _ M0.out).mono ?_; rintro e w4 ⟨rfl, hb⟩; have B4 := Lib.hid (below_then B3.out hb); clear hb
      go_wp2_with fail
      refine (check_ref a0 _ M0.out).mono ?_; rintro e w' ⟨rfl, rfl⟩
      go_wp2_with fail
      refine (name_any a0 _ M0.out).mono ?_; rintro e w5 ⟨rfl, hb⟩; have B5 := Lib.hid (below_then B4.out hb); clear hb
      go_wp2_with fail
      refine (name_ref a0 _ M0.out).mono ?_; rintro e w' ⟨rfl, rfl⟩
      go_wp2_with fail
      refine (live_any _ (HL.out.below B5.out)).mono ?_; rintro e w6 ⟨rfl, hb⟩; have B6 := Lib.hid (below_then B5.out hb); clear hb
      go_wp2
      go_ret
      exact ⟨rfl, B6.out⟩

set_option maxRecDepth 100000 in
theorem lifted (os : Os) (started : os.Started) (H : Type) (enc : TypeId × Value → H) :
    ReturnsInHanded {} Tryd.checked os 3 .any (fun w args => (Rows.keyTellsSpec.pre enc Tryd.prog Tryd.f3 [] false w args ∧ laidMetH Tryd.prog laidK w) ∧ sizedMet enc Tryd.prog Tryd.f3 (OpenSpec.ofChange Rows.keyTellsSpec) false w args)
      (Rows.keyTellsSpec.post enc Tryd.prog Tryd.f3 false true false false) := by
  refine returnsInHanded_of_change_and (C := Tryd.checked) (X := fun w _ => laidMetH Tryd.prog laidK w) (fun _ _ _ hh h => h.of_heap hh) own started (by kernel_rfl) Tryd.func3
    (ChangeSpec.witness_shaped (enc := enc) (C := Tryd.checked) (os := os) (X := fun w _ => laidMetH Tryd.prog laidK w) false (World.doorLaid Tryd.prog 400 os) #[.string ByteArray.empty, .int .i64 0, .int .i64 0] 8 rfl (World.shaped_of_RefB (by kernel_rfl) (by kernel_rfl)) (by kernel_rfl) (by kernel_rfl) (by kernel_rfl) (door_met os _)) ?_
  intro W base args ds gs before hval0 hW _ _ hL _
  have hval : ∀ (j : Nat) t v, Tryd.f3.params[j]? = some t → args[j]? = some v → Value.okWide Tryd.prog W .any base t v := hval0
  have hW' := hW
  obtain ⟨p, q, hA0, hV, rfl, hfz, hnd⟩ := hW
  have hA : DataW.TrodAll enc Tryd.prog W 0 (fun _ => true) true Tryd.f3.params.toList args.toList ds p := hA0
  rw [Tryd.params3] at hA hval
  obtain ⟨v0, vs0, d0, ds0, p0, q0, hargs, rfl, rfl, h0, r0⟩ := trodAll_cons hA
  obtain ⟨v1, vs1, d1, ds1, p1, q1, rfl, rfl, rfl, h1, r1⟩ := trodAll_cons r0
  obtain ⟨v2, vs2, d2, ds2, p2, q2, rfl, rfl, rfl, h2, r2⟩ := trodAll_cons r1
  obtain ⟨rfl, rfl, rfl⟩ := trodAll_nil r2
  obtain rfl : args = #[v0, v1, v2] := by cases args; simp_all
  obtain ⟨rfl, rfl⟩ := trodVars_none hV
  obtain ⟨a0, rfl, rfl, rfl, w0⟩ := open_string Tryd.underlying9 (hval 0 9 v0 rfl rfl) h0
  obtain ⟨a1, rfl, rfl, rfl, w1⟩ := open_int Tryd.underlying3 (hval 1 3 v1 rfl rfl) h1
  obtain ⟨a2, rfl, rfl, rfl, w2⟩ := open_int Tryd.underlying3 (hval 2 3 v2 rfl rfl) h2
  have hlet := letters_of_laid hL
  clear hA0 hval0 hL
  refine (walk a0 a1 a2 w0 w1 w2 W hlet).mono fun e W' ⟨he, bel⟩ => ?_
  subst he
  exact ⟨_, rfl, _, _, _, [], _, [], hW', trodAll_mk1 (shut_bool Tryd.underlying4 _), (trodAll_cons_mk (shut_string Tryd.underlying9 w0) (trodAll_cons_mk (shut_int Tryd.underlying3 w1) (trodAll_cons_mk (shut_int Tryd.underlying3 w2) trodAll_mk0))), rfl, bel.frame _, fun h => by cases h⟩

theorem over : Rows.KeyTellsSaid :=
  OpenClaim.holds_of_wide 3 Tryd.f3 rfl rfl rfl rfl rfl rfl rfl ⟨rfl, rfl, rfl, rfl, rfl⟩ rfl rfl rfl rfl rfl (by kernel_rfl) Tryd.func3 (by kernel_rfl)
    (of_decide_eq_true (by kernel_rfl)) (by unfold Func.isWrapper; first | (rw [if_pos (by decide +kernel)]; kernel_rfl) | (rw [if_neg (by decide +kernel)]; exact ⟨rfl, rfl⟩))
    (fun os started H enc _ => lifted os started H enc)

theorem plain (f : FuncId) (fn : Func) (hf : Tryd.pinned.checked.prog.funcNamed "baton/batonlaw02.KeyTells" = some f) (hfn : Tryd.pinned.checked.prog.funcs[f]? = some fn) :
    false = Tryd.pinned.checked.prog.looks [] ∧ ∀ (j : Nat) t, fn.params[j]? = some t → Tryd.pinned.checked.prog.wantsStandIn t = false := by
  obtain rfl : f = 3 := Option.some.inj ((show Tryd.prog.funcNamed "baton/batonlaw02.KeyTells" = some 3 by kernel_rfl).symm.trans hf) |>.symm
  obtain rfl : fn = Tryd.f3 := (Option.some.inj (Tryd.func3.symm.trans hfn)).symm
  refine ⟨by kernel_rfl, fun j t ht => ?_⟩
  rw [Tryd.params3] at ht
  have hm : t ∈ [9, 3, 3] := by simpa using Array.mem_of_getElem? ht
  have hall : ([9, 3, 3].all fun u => !Tryd.prog.wantsStandIn u) = true := by kernel_rfl
  exact (show Tryd.prog.wantsStandIn t = false by simpa using List.all_eq_true.1 hall t hm)

theorem proved : Rows.KeyTellsCardSaid :=
  Claim7.holds_tied_plain_at .later [] _ _ _ _ over (fun _ h => by cases h) (by kernel_rfl) (fun _ h => by cases h) keyTells_row_tie rfl ⟨rfl, rfl⟩ (by kernel_rfl) rfl plain (by kernel_rfl)
#print axioms proved
end Go.Proofs.YtjnmlbenhkhcbabDoor.keyTells
