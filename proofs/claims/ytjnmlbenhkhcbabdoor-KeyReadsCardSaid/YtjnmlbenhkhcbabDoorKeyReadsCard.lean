/- For every prefix and key the law KeyReads answers true: Id and Under answer what the document asks. No condition. -/
import Derived.Test.YtjnmlbenhkhcbabDoorKeyLaid
import Derived.Test.YtjnmlbenhkhcbabDoorKeyRef
namespace Go.Proofs.YtjnmlbenhkhcbabDoor.keyReads
open Go.ChangeShapes Go.WideShapes Go.ChangeAt Go.RowKit Go.Proofs.YtjnmlbenhkhcbabDoor.P
open Go.ChangeMaps (open_string shut_string)
set_option linter.unusedVariables false
set_option maxHeartbeats 1000000
set_option maxRecDepth 100000

theorem walk (a0 : ByteArray) (a1 : ByteArray) (w0 : a0.size ≤ maxLen) (w1 : a1.size ≤ maxLen) (w : World) (hL : Letters w) :
    Calls Tryd.prog 4 #[.string a0, .string a1] w fun e w' => e = .returned (.bool true) ∧ Below w.heap.size w w' := by
  have M0 := Lib.hid w0
  have z0 : a0.size ≤ 9223372036854775807 := by unfold maxLen at w0; omega
  clear w0
  have M1 := Lib.hid w1
  have z1 : a1.size ≤ 9223372036854775807 := by unfold maxLen at w1; omega
  clear w1
  have HL := Lib.hid hL
  clear hL
  by_cases hl : (100 : Int) < a0.size
  · go_enter Tryd.func4, Tryd.ntmps4
    go_wp2_with fail
    refine (live_any _ HL.out).mono ?_; rintro e w1 ⟨rfl, hb⟩; have B1 := Lib.hid hb; clear hb
    go_wp2
    go_ret
    exact ⟨rfl, B1.out⟩
  · by_cases hl2 : (100 : Int) < a1.size
    · go_enter Tryd.func4, Tryd.ntmps4
      go_wp2_with fail
      refine (live_any _ HL.out).mono ?_; rintro e w1 ⟨rfl, hb⟩; have B1 := Lib.hid hb; clear hb
      go_wp2
      go_ret
      exact ⟨rfl, B1.out⟩
    · by_cases hb : Begins a0 a1
      · obtain ⟨r, rfl⟩ := hb
        have hsz := size_app a0 r
        by_cases hr : r.size = 10
        · have hf := fun w => And.intro (id_ten a0 r w hr (by unfold maxLen; omega)) (And.intro (id_ref_ten a0 r w hr (by omega)) (And.intro (under_yes a0 r w (by omega) (by unfold maxLen; omega)) (under_ref_yes a0 r w (by omega) (by unfold maxLen; omega))))
          generalize a0 ++ r = k at *
          have HF := Lib.hid hf
          clear hf hr hsz
          go_enter Tryd.func4, Tryd.ntmps4
          go_wp2_with fail
          refine ((HF.out _).1).mono ?_; rintro e w1 ⟨rfl, hb⟩; have B1 := Lib.hid hb; clear hb
          go_wp2_with fail
          refine ((HF.out _).2.1).mono ?_; rintro e w' ⟨rfl, rfl⟩
          go_wp2_with fail
          refine ((HF.out _).2.2.1).mono ?_; rintro e w' ⟨rfl, rfl⟩
          go_wp2_with fail
          refine ((HF.out _).2.2.2).mono ?_; rintro e w' ⟨rfl, rfl⟩
          go_wp2_with fail
          refine (live_any _ (HL.out.below B1.out)).mono ?_; rintro e w2 ⟨rfl, hb⟩; have B2 := Lib.hid (below_then B1.out hb); clear hb
          go_wp2
          go_ret
          exact ⟨rfl, B2.out⟩
        · have hne : ∀ r', a0 ++ r = a0 ++ r' → r'.size ≠ 10 := by
            intro r' h
            have h2 := congrArg ByteArray.size h
            rw [size_app, size_app] at h2
            omega
          by_cases hz : 0 < r.size
          · have hf := fun w => And.intro (id_none a0 (a0 ++ r) w hne (by unfold maxLen; omega) (by unfold maxLen; omega)) (And.intro (id_ref_none a0 (a0 ++ r) w hne (by omega) (by omega)) (And.intro (under_yes a0 r w (by omega) (by unfold maxLen; omega)) (under_ref_yes a0 r w (by omega) (by unfold maxLen; omega))))
            clear hne
            generalize a0 ++ r = k at *
            have HF := Lib.hid hf
            clear hf hsz hr
            go_enter Tryd.func4, Tryd.ntmps4
            go_wp2_with fail
            refine ((HF.out _).1).mono ?_; rintro e w' ⟨rfl, rfl⟩
            go_wp2_with fail
            refine ((HF.out _).2.1).mono ?_; rintro e w' ⟨rfl, rfl⟩
            go_wp2_with fail
            refine ((HF.out _).2.2.1).mono ?_; rintro e w' ⟨rfl, rfl⟩
            go_wp2_with fail
            refine ((HF.out _).2.2.2).mono ?_; rintro e w' ⟨rfl, rfl⟩
            go_wp2_with fail
            refine (live_any _ HL.out).mono ?_; rintro e w1 ⟨rfl, hb⟩; have B1 := Lib.hid hb; clear hb
            go_wp2
            go_ret
            exact ⟨rfl, B1.out⟩
          · have hf := fun w => And.intro (id_none a0 (a0 ++ r) w hne (by unfold maxLen; omega) (by unfold maxLen; omega)) (And.intro (id_ref_none a0 (a0 ++ r) w hne (by omega) (by omega)) (And.intro (under_no a0 (a0 ++ r) w (.inl (by omega)) (by unfold maxLen; omega) (by unfold maxLen; omega)) (under_ref_no a0 (a0 ++ r) w (.inl (by omega)) (by unfold maxLen; omega) (by unfold maxLen; omega))))
            clear hne
            generalize a0 ++ r = k at *
            have HF := Lib.hid hf
            clear hf hsz hr
            go_enter Tryd.func4, Tryd.ntmps4
            go_wp2_with fail
            refine ((HF.out _).1).mono ?_; rintro e w' ⟨rfl, rfl⟩
            go_wp2_with fail
            refine ((HF.out _).2.1).mono ?_; rintro e w' ⟨rfl, rfl⟩
            go_wp2_with fail
            refine ((HF.out _).2.2.1).mono ?_; rintro e w' ⟨rfl, rfl⟩
            go_wp2_with fail
            refine ((HF.out _).2.2.2).mono ?_; rintro e w' ⟨rfl, rfl⟩
            go_wp2_with fail
            refine (live_any _ HL.out).mono ?_; rintro e w1 ⟨rfl, hb⟩; have B1 := Lib.hid hb; clear hb
            go_wp2
            go_ret
            exact ⟨rfl, B1.out⟩
      · have hf := fun w => And.intro (id_none a0 a1 w (fun r h => absurd ⟨r, h⟩ hb) (by unfold maxLen; omega) (by unfold maxLen; omega)) (And.intro (id_ref_none a0 a1 w (fun r h => absurd ⟨r, h⟩ hb) (by omega) (by omega)) (And.intro (under_no a0 a1 w (.inr hb) (by unfold maxLen; omega) (by unfold maxLen; omega)) (under_ref_no a0 a1 w (.inr hb) (by unfold maxLen; omega) (by unfold maxLen; omega))))
        have HF := Lib.hid hf
        clear hf hb
        go_enter Tryd.func4, Tryd.ntmps4
        go_wp2_with fail
        refine ((HF.out _).1).mono ?_; rintro e w' ⟨rfl, rfl⟩
        go_wp2_with fail
        refine ((HF.out _).2.1).mono ?_; rintro e w' ⟨rfl, rfl⟩
        go_wp2_with fail
        refine ((HF.out _).2.2.1).mono ?_; rintro e w' ⟨rfl, rfl⟩
        go_wp2_with fail
        refine ((HF.out _).2.2.2).mono ?_; rintro e w' ⟨rfl, rfl⟩
        go_wp2_with fail
        refine (live_any _ HL.out).mono ?_; rintro e w1 ⟨rfl, hb⟩; have B1 := Lib.hid hb; clear hb
        go_wp2
        go_ret
        exact ⟨rfl, B1.out⟩

set_option maxRecDepth 100000 in
theorem lifted (os : Os) (started : os.Started) (H : Type) (enc : TypeId × Value → H) :
    ReturnsInHanded {} Tryd.checked os 4 .any (fun w args => (Rows.keyReadsSpec.pre enc Tryd.prog Tryd.f4 [] false w args ∧ laidMetH Tryd.prog laidK w) ∧ sizedMet enc Tryd.prog Tryd.f4 (OpenSpec.ofChange Rows.keyReadsSpec) false w args)
      (Rows.keyReadsSpec.post enc Tryd.prog Tryd.f4 false true false false) := by
  refine returnsInHanded_of_change_and (C := Tryd.checked) (X := fun w _ => laidMetH Tryd.prog laidK w) (fun _ _ _ hh h => h.of_heap hh) own started (by kernel_rfl) Tryd.func4
    (ChangeSpec.witness_shaped (enc := enc) (C := Tryd.checked) (os := os) (X := fun w _ => laidMetH Tryd.prog laidK w) false (World.doorLaid Tryd.prog 400 os) #[.string ByteArray.empty, .string ByteArray.empty] 8 rfl (World.shaped_of_RefB (by kernel_rfl) (by kernel_rfl)) (by kernel_rfl) (by kernel_rfl) (by kernel_rfl) (door_met os _)) ?_
  intro W base args ds gs before hval0 hW _ _ hL _
  have hval : ∀ (j : Nat) t v, Tryd.f4.params[j]? = some t → args[j]? = some v → Value.okWide Tryd.prog W .any base t v := hval0
  have hW' := hW
  obtain ⟨p, q, hA0, hV, rfl, hfz, hnd⟩ := hW
  have hA : DataW.TrodAll enc Tryd.prog W 0 (fun _ => true) true Tryd.f4.params.toList args.toList ds p := hA0
  rw [Tryd.params4] at hA hval
  obtain ⟨v0, vs0, d0, ds0, p0, q0, hargs, rfl, rfl, h0, r0⟩ := trodAll_cons hA
  obtain ⟨v1, vs1, d1, ds1, p1, q1, rfl, rfl, rfl, h1, r1⟩ := trodAll_cons r0
  obtain ⟨rfl, rfl, rfl⟩ := trodAll_nil r1
  obtain rfl : args = #[v0, v1] := by cases args; simp_all
  obtain ⟨rfl, rfl⟩ := trodVars_none hV
  obtain ⟨a0, rfl, rfl, rfl, w0⟩ := open_string Tryd.underlying9 (hval 0 9 v0 rfl rfl) h0
  obtain ⟨a1, rfl, rfl, rfl, w1⟩ := open_string Tryd.underlying9 (hval 1 9 v1 rfl rfl) h1
  have hlet := letters_of_laid hL
  clear hA0 hval0 hL
  refine (walk a0 a1 w0 w1 W hlet).mono fun e W' ⟨he, bel⟩ => ?_
  subst he
  exact ⟨_, rfl, _, _, _, [], _, [], hW', trodAll_mk1 (shut_bool Tryd.underlying4 _), (trodAll_cons_mk (shut_string Tryd.underlying9 w0) (trodAll_cons_mk (shut_string Tryd.underlying9 w1) trodAll_mk0)), rfl, bel.frame _, fun h => by cases h⟩

theorem over : Rows.KeyReadsSaid :=
  OpenClaim.holds_of_wide 4 Tryd.f4 rfl rfl rfl rfl rfl rfl rfl ⟨rfl, rfl, rfl, rfl, rfl⟩ rfl rfl rfl rfl rfl (by kernel_rfl) Tryd.func4 (by kernel_rfl)
    (of_decide_eq_true (by kernel_rfl)) (by unfold Func.isWrapper; first | (rw [if_pos (by decide +kernel)]; kernel_rfl) | (rw [if_neg (by decide +kernel)]; exact ⟨rfl, rfl⟩))
    (fun os started H enc _ => lifted os started H enc)

theorem plain (f : FuncId) (fn : Func) (hf : Tryd.pinned.checked.prog.funcNamed "baton/batonlaw02.KeyReads" = some f) (hfn : Tryd.pinned.checked.prog.funcs[f]? = some fn) :
    false = Tryd.pinned.checked.prog.looks [] ∧ ∀ (j : Nat) t, fn.params[j]? = some t → Tryd.pinned.checked.prog.wantsStandIn t = false := by
  obtain rfl : f = 4 := Option.some.inj ((show Tryd.prog.funcNamed "baton/batonlaw02.KeyReads" = some 4 by kernel_rfl).symm.trans hf) |>.symm
  obtain rfl : fn = Tryd.f4 := (Option.some.inj (Tryd.func4.symm.trans hfn)).symm
  refine ⟨by kernel_rfl, fun j t ht => ?_⟩
  rw [Tryd.params4] at ht
  have hm : t ∈ [9, 9] := by simpa using Array.mem_of_getElem? ht
  have hall : ([9, 9].all fun u => !Tryd.prog.wantsStandIn u) = true := by kernel_rfl
  exact (show Tryd.prog.wantsStandIn t = false by simpa using List.all_eq_true.1 hall t hm)

theorem proved : Rows.KeyReadsCardSaid :=
  Claim7.holds_tied_plain_at .later [] _ _ _ _ over (fun _ h => by cases h) (by kernel_rfl) (fun _ h => by cases h) keyReads_row_tie rfl ⟨rfl, rfl⟩ (by kernel_rfl) rfl plain (by kernel_rfl)
#print axioms proved
end Go.Proofs.YtjnmlbenhkhcbabDoor.keyReads
