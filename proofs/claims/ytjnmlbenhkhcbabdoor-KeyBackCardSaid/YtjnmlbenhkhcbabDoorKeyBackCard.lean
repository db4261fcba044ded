/- For every kind, name and id the law KeyBack answers true: a ticket is a key that may be, lies under its prefix, and tells its id; where it can't be, the kind, the name or the id is wrong. No condition. -/
import Derived.Test.YtjnmlbenhkhcbabDoorKeyLaid
import Derived.Test.YtjnmlbenhkhcbabDoorKeyMath
namespace Go.Proofs.YtjnmlbenhkhcbabDoor.keyBack
open Go.ChangeShapes Go.WideShapes Go.ChangeAt Go.RowKit Go.Proofs.YtjnmlbenhkhcbabDoor.P
open Go.ChangeMaps (open_string shut_string)
set_option linter.unusedVariables false
set_option maxHeartbeats 1000000
set_option maxRecDepth 100000

theorem walk (a0 : Int) (a1 : ByteArray) (a2 : Int) (w0 : (Lit.int .i64 a0).wf = true) (w1 : a1.size ≤ maxLen) (w2 : (Lit.int .i64 a2).wf = true) (w : World) (hL : Letters w) :
    Calls Tryd.prog 5 #[.int .i64 a0, .string a1, .int .i64 a2] w fun e w' => e = .returned (.bool true) ∧ Below w.heap.size w w' := by
  obtain ⟨lo0, hi0⟩ := bounds_i64 w0
  clear w0
  have M1 := Lib.hid w1
  have z1 : a1.size ≤ 9223372036854775807 := by unfold maxLen at w1; omega
  clear w1
  obtain ⟨lo2, hi2⟩ := bounds_i64 w2
  clear w2
  have HL := Lib.hid hL
  clear hL
  by_cases hl : (100 : Int) < a1.size
  · go_enter Tryd.func5, Tryd.ntmps5
    go_wp2_with fail
    refine (live_any _ HL.out).mono ?_; rintro e w1 ⟨rfl, hb⟩; have B1 := Lib.hid hb; clear hb
    go_wp2
    go_ret
    exact ⟨rfl, B1.out⟩
  · by_cases hok : 1 ≤ a0 ∧ a0 ≤ 8 ∧ nameL a1.data.toList = true ∧ 0 ≤ a2 ∧ a2 ≤ 1099511627775
    · obtain ⟨g1, g2, g3, g4, g5⟩ := hok
      obtain ⟨k, rfl⟩ := Int.eq_ofNat_of_zero_le (show 0 ≤ a0 by omega)
      have hk1 : 1 ≤ k := by omega
      have hk8 : k ≤ 8 := by omega
      have HN := Lib.hid g3
      have hb0 := fun w => ticket_back k a1 a2 w hk1 hk8 g3 g4 g5
      have HB := Lib.hid hb0
      clear g3 hb0
      go_enter Tryd.func5, Tryd.ntmps5
      go_wp2_with fail
      refine (ticket_yes k a1 a2 _ hk1 hk8 HN.out g4 g5 HL.out).mono ?_; rintro e w1 ⟨rfl, hb⟩; have B1 := Lib.hid hb; clear hb
      go_wp2_with fail
      refine (prefix_yes k a1 _ hk1 hk8 HN.out (HL.out.below B1.out)).mono ?_; rintro e w2 ⟨rfl, hb⟩; have B2 := Lib.hid (below_then B1.out hb); clear hb
      go_wp2_with fail
      refine ((HB.out _).1).mono ?_; rintro e w3 ⟨rfl, hb⟩; have B3 := Lib.hid (below_then B2.out hb); clear hb
      go_wp2_with fail
      refine ((HB.out _).2.1).mono ?_; rintro e w4 ⟨rfl, hb⟩; have B4 := Lib.hid (below_then B3.out hb); clear hb
      go_wp2_with fail
      refine ((HB.out _).2.2).mono ?_; rintro e w' ⟨rfl, rfl⟩
      go_wp2_with fail
      refine (name_yes a1 _ M1.out HN.out).mono ?_; rintro e w5 ⟨rfl, hb⟩; have B5 := Lib.hid (below_then B4.out hb); clear hb
      go_wp2_with fail
      refine (live_any _ (HL.out.below B5.out)).mono ?_; rintro e w6 ⟨rfl, hb⟩; have B6 := Lib.hid (below_then B5.out hb); clear hb
      go_wp2
      go_ret
      exact ⟨rfl, B6.out⟩
    · by_cases hp : 1 ≤ a0 ∧ a0 ≤ 8 ∧ nameL a1.data.toList = true
      · obtain ⟨g1, g2, g3⟩ := hp
        obtain ⟨k, rfl⟩ := Int.eq_ofNat_of_zero_le (show 0 ≤ a0 by omega)
        have hk1 : 1 ≤ k := by omega
        have hk8 : k ≤ 8 := by omega
        have HN := Lib.hid g3
        have hn : a2 < 0 ∨ 1099511627775 < a2 := by
          by_cases h1 : a2 < 0
          · exact .inl h1
          · by_cases h2 : 1099511627775 < a2
            · exact .inr h2
            · exact absurd ⟨by omega, by omega, g3, by omega, by omega⟩ hok
        have HK := Lib.hid hok
        clear g3 hok
        rcases hn with hn | hn
        · go_enter Tryd.func5, Tryd.ntmps5
          go_wp2_with fail
          refine (ticket_no _ a1 a2 _ HK.out M1.out (by omega) (by omega) (by omega) (by omega) HL.out).mono ?_; rintro e w1 ⟨rfl, hb⟩; have B1 := Lib.hid hb; clear hb
          go_wp2_with fail
          refine (prefix_yes k a1 _ hk1 hk8 HN.out (HL.out.below B1.out)).mono ?_; rintro e w2 ⟨rfl, hb⟩; have B2 := Lib.hid (below_then B1.out hb); clear hb
          go_wp2_with fail
          refine (live_any _ (HL.out.below B2.out)).mono ?_; rintro e w3 ⟨rfl, hb⟩; have B3 := Lib.hid (below_then B2.out hb); clear hb
          go_wp2
          go_ret
          exact ⟨rfl, B3.out⟩
        · go_enter Tryd.func5, Tryd.ntmps5
          go_wp2_with fail
          refine (ticket_no _ a1 a2 _ HK.out M1.out (by omega) (by omega) (by omega) (by omega) HL.out).mono ?_; rintro e w1 ⟨rfl, hb⟩; have B1 := Lib.hid hb; clear hb
          go_wp2_with fail
          refine (prefix_yes k a1 _ hk1 hk8 HN.out (HL.out.below B1.out)).mono ?_; rintro e w2 ⟨rfl, hb⟩; have B2 := Lib.hid (below_then B1.out hb); clear hb
          go_wp2_with fail
          refine (live_any _ (HL.out.below B2.out)).mono ?_; rintro e w3 ⟨rfl, hb⟩; have B3 := Lib.hid (below_then B2.out hb); clear hb
          go_wp2
          go_ret
          exact ⟨rfl, B3.out⟩
      · have HK := Lib.hid hok
        have HP := Lib.hid hp
        clear hok hp
        go_enter Tryd.func5, Tryd.ntmps5
        go_wp2_with fail
        refine (ticket_no _ a1 a2 _ HK.out M1.out (by omega) (by omega) (by omega) (by omega) HL.out).mono ?_; rintro e w1 ⟨rfl, hb⟩; have B1 := Lib.hid hb; clear hb
        go_wp2_with fail
        refine (prefix_no _ a1 _ HP.out M1.out (by omega) (by omega) (HL.out.below B1.out)).mono ?_; rintro e w2 ⟨rfl, hb⟩; have B2 := Lib.hid (below_then B1.out hb); clear hb
        go_wp2_with fail
        refine (live_any _ (HL.out.below B2.out)).mono ?_; rintro e w3 ⟨rfl, hb⟩; have B3 := Lib.hid (below_then B2.out hb); clear hb
        go_wp2
        go_ret
        exact ⟨rfl, B3.out⟩

set_option maxRecDepth 100000 in
theorem lifted (os : Os) (started : os.Started) (H : Type) (enc : TypeId × Value → H) :
    ReturnsInHanded {} Tryd.checked os 5 .any (fun w args => (Rows.keyBackSpec.pre enc Tryd.prog Tryd.f5 [] false w args ∧ laidMetH Tryd.prog laidK w) ∧ sizedMet enc Tryd.prog Tryd.f5 (OpenSpec.ofChange Rows.keyBackSpec) false w args)
      (Rows.keyBackSpec.post enc Tryd.prog Tryd.f5 false true false false) := by
  refine returnsInHanded_of_change_and (C := Tryd.checked) (X := fun w _ => laidMetH Tryd.prog laidK w) (fun _ _ _ hh h => h.of_heap hh) own started (by kernel_rfl) Tryd.func5
    (ChangeSpec.witness_shaped (enc := enc) (C := Tryd.checked) (os := os) (X := fun w _ => laidMetH Tryd.prog laidK w) false (World.doorLaid Tryd.prog 400 os) #[.int .i64 0, .string ByteArray.empty, .int .i64 0] 8 rfl (World.shaped_of_RefB (by kernel_rfl) (by kernel_rfl)) (by kernel_rfl) (by kernel_rfl) (by kernel_rfl) (door_met os _)) ?_
  intro W base args ds gs before hval0 hW _ _ hL _
  have hval : ∀ (j : Nat) t v, Tryd.f5.params[j]? = some t → args[j]? = some v → Value.okWide Tryd.prog W .any base t v := hval0
  have hW' := hW
  obtain ⟨p, q, hA0, hV, rfl, hfz, hnd⟩ := hW
  have hA : DataW.TrodAll enc Tryd.prog W 0 (fun _ => true) true Tryd.f5.params.toList args.toList ds p := hA0
  rw [Tryd.params5] at hA hval
  obtain ⟨v0, vs0, d0, ds0, p0, q0, hargs, rfl, rfl, h0, r0⟩ := trodAll_cons hA
  obtain ⟨v1, vs1, d1, ds1, p1, q1, rfl, rfl, rfl, h1, r1⟩ := trodAll_cons r0
  obtain ⟨v2, vs2, d2, ds2, p2, q2, rfl, rfl, rfl, h2, r2⟩ := trodAll_cons r1
  obtain ⟨rfl, rfl, rfl⟩ := trodAll_nil r2
  obtain rfl : args = #[v0, v1, v2] := by cases args; simp_all
  obtain ⟨rfl, rfl⟩ := trodVars_none hV
  obtain ⟨a0, rfl, rfl, rfl, w0⟩ := open_int Tryd.underlying3 (hval 0 3 v0 rfl rfl) h0
  obtain ⟨a1, rfl, rfl, rfl, w1⟩ := open_string Tryd.underlying9 (hval 1 9 v1 rfl rfl) h1
  obtain ⟨a2, rfl, rfl, rfl, w2⟩ := open_int Tryd.underlying3 (hval 2 3 v2 rfl rfl) h2
  have hlet := letters_of_laid hL
  clear hA0 hval0 hL
  refine (walk a0 a1 a2 w0 w1 w2 W hlet).mono fun e W' ⟨he, bel⟩ => ?_
  subst he
  exact ⟨_, rfl, _, _, _, [], _, [], hW', trodAll_mk1 (shut_bool Tryd.underlying4 _), (trodAll_cons_mk (shut_int Tryd.underlying3 w0) (trodAll_cons_mk (shut_string Tryd.underlying9 w1) (trodAll_cons_mk (shut_int Tryd.underlying3 w2) trodAll_mk0))), rfl, bel.frame _, fun h => by cases h⟩

theorem over : Rows.KeyBackSaid :=
  OpenClaim.holds_of_wide 5 Tryd.f5 rfl rfl rfl rfl rfl rfl rfl ⟨rfl, rfl, rfl, rfl, rfl⟩ rfl rfl rfl rfl rfl (by kernel_rfl) Tryd.func5 (by kernel_rfl)
    (of_decide_eq_true (by kernel_rfl)) (by unfold Func.isWrapper; first | (rw [if_pos (by decide +kernel)]; kernel_rfl) | (rw [if_neg (by decide +kernel)]; exact ⟨rfl, rfl⟩))
    (fun os started H enc _ => lifted os started H enc)

theorem plain (f : FuncId) (fn : Func) (hf : Tryd.pinned.checked.prog.funcNamed "baton/batonlaw02.KeyBack" = some f) (hfn : Tryd.pinned.checked.prog.funcs[f]? = some fn) :
    false = Tryd.pinned.checked.prog.looks [] ∧ ∀ (j : Nat) t, fn.params[j]? = some t → Tryd.pinned.checked.prog.wantsStandIn t = false := by
  obtain rfl : f = 5 := Option.some.inj ((show Tryd.prog.funcNamed "baton/batonlaw02.KeyBack" = some 5 by kernel_rfl).symm.trans hf) |>.symm
  obtain rfl : fn = Tryd.f5 := (Option.some.inj (Tryd.func5.symm.trans hfn)).symm
  refine ⟨by kernel_rfl, fun j t ht => ?_⟩
  rw [Tryd.params5] at ht
  have hm : t ∈ [3, 9, 3] := by simpa using Array.mem_of_getElem? ht
  have hall : ([3, 9, 3].all fun u => !Tryd.prog.wantsStandIn u) = true := by kernel_rfl
  exact (show Tryd.prog.wantsStandIn t = false by simpa using List.all_eq_true.1 hall t hm)

theorem proved : Rows.KeyBackCardSaid :=
  Claim7.holds_tied_plain_at .later [] _ _ _ _ over (fun _ h => by cases h) (by kernel_rfl) (fun _ h => by cases h) keyBack_row_tie rfl ⟨rfl, rfl⟩ (by kernel_rfl) rfl plain (by kernel_rfl)
#print axioms proved
end Go.Proofs.YtjnmlbenhkhcbabDoor.keyBack
