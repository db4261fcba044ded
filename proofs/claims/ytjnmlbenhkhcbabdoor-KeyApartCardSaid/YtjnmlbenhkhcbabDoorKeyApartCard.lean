/- For every two kinds, names and ids the law KeyApart answers true: two tickets are the same just where their prefixes and their ids are; prefixes are the same just where the names are, and the kinds have one letter; a ticket lies under no other prefix. No condition. -/
import Derived.Test.YtjnmlbenhkhcbabDoorKeyLaid
import Derived.Test.YtjnmlbenhkhcbabDoorKeyYes
import Derived.Test.YtjnmlbenhkhcbabDoorKeyNear
import Derived.Test.YtjnmlbenhkhcbabDoorKeyFar
import Derived.Test.YtjnmlbenhkhcbabDoorKeyTwo
namespace Go.Proofs.YtjnmlbenhkhcbabDoor.keyApart
open Go.ChangeShapes Go.WideShapes Go.ChangeAt Go.RowKit Go.Proofs.YtjnmlbenhkhcbabDoor.P
open Go.ChangeMaps (open_string shut_string)
set_option linter.unusedVariables false
set_option maxHeartbeats 8000000
set_option maxRecDepth 100000

theorem walk (a0 b0 : Int) (a1 b1 : ByteArray) (a2 b2 : Int) (w0 : (Lit.int .i64 a0).wf = true) (u0 : (Lit.int .i64 b0).wf = true) (w1 : a1.size ≤ maxLen) (u1 : b1.size ≤ maxLen) (w2 : (Lit.int .i64 a2).wf = true) (u2 : (Lit.int .i64 b2).wf = true) (w : World) (hL : Letters w) :
    Calls Tryd.prog 6 #[.agg #[.int .i64 a0, .int .i64 b0], .agg #[.string a1, .string b1], .agg #[.int .i64 a2, .int .i64 b2]] w fun e w' => e = .returned (.bool true) ∧ Below w.heap.size w w' := by
  obtain ⟨lo0, hi0⟩ := bounds_i64 w0
  obtain ⟨lp0, hj0⟩ := bounds_i64 u0
  clear w0 u0
  have M1 := Lib.hid w1
  have z1 : a1.size ≤ 9223372036854775807 := by unfold maxLen at w1; omega
  have N1 := Lib.hid u1
  have y1 : b1.size ≤ 9223372036854775807 := by unfold maxLen at u1; omega
  clear w1 u1
  obtain ⟨lo2, hi2⟩ := bounds_i64 w2
  obtain ⟨lp2, hj2⟩ := bounds_i64 u2
  clear w2 u2
  have HL := Lib.hid hL
  clear hL
  by_cases hl : (100 : Int) < a1.size
  · go_enter Tryd.func6, Tryd.ntmps6
    go_wp2_with fail
    refine (live_any _ (letters3 HL.out _ _ _)).mono ?_; rintro e w1 ⟨rfl, hb⟩; have B1 := Lib.hid (box3 hb); clear hb
    go_wp2
    go_ret
    exact ⟨rfl, B1.out⟩
  · by_cases hl2 : (100 : Int) < b1.size
    · go_enter Tryd.func6, Tryd.ntmps6
      go_wp2_with fail
      refine (live_any _ (letters3 HL.out _ _ _)).mono ?_; rintro e w1 ⟨rfl, hb⟩; have B1 := Lib.hid (box3 hb); clear hb
      go_wp2
      go_ret
      exact ⟨rfl, B1.out⟩
    · by_cases hp0 : pOk a0 a1 = true
      · by_cases hp1 : pOk b0 b1 = true
        · by_cases ht0 : tOk a0 a1 a2 = true
          · by_cases ht1 : tOk b0 b1 b2 = true
            · obtain ⟨f1, f2, f3, f4⟩ := pair_facts ht0 ht1
              obtain ⟨k0, k1, hn0, i0, i1⟩ := (tOk_iff _ _ _).1 ht0
              obtain ⟨k2, k3, hn1, i2, i3⟩ := (tOk_iff _ _ _).1 ht1
              clear hn0 hn1
              by_cases hE : oneB a0 b0 ∧ a1 = b1
              · obtain ⟨g1, g2⟩ := f3 hE
                have F1 := Lib.hid (fun w => f1 w hE)
                obtain ⟨ho, rfl⟩ := hE
                exact fin_yes a0 b0 a1 a1 a2 b2 w (by omega) (by omega) (by omega) (by omega) (by omega) (by omega) (by omega) (by omega) M1 N1 (by omega) (by omega) hp0 hp1 ht0 ht1 k0 k1 k2 k3 HL g1 g2 F1 (by simp) ho
              · obtain ⟨g1, g2⟩ := f4 hE
                have F2 := Lib.hid (fun w => f2 w hE)
                by_cases ho : oneB a0 b0
                · have hab : (a1.toList == b1.toList) = false := by
                    cases hh : (a1.toList == b1.toList)
                    · rfl
                    · exfalso
                      have e := beq_iff_eq.1 hh
                      rw [ByteArray.toList_eq, ByteArray.toList_eq] at e
                      exact hE ⟨ho, ext_list e⟩
                  exact fin_near a0 b0 a1 b1 a2 b2 w (by omega) (by omega) (by omega) (by omega) (by omega) (by omega) (by omega) (by omega) M1 N1 (by omega) (by omega) hp0 hp1 ht0 ht1 k0 k1 k2 k3 HL g1 g2 F2 hab ho
                · exact fin_far a0 b0 a1 b1 a2 b2 w (by omega) (by omega) (by omega) (by omega) (by omega) (by omega) (by omega) (by omega) M1 N1 (by omega) (by omega) hp0 hp1 ht0 ht1 k0 k1 k2 k3 HL g1 g2 F2 ho
            · have ht1 : tOk b0 b1 b2 = false := by simpa using ht1
              go_enter Tryd.func6, Tryd.ntmps6
              go_wp2_with fail
              refine (prefix_all _ _ _ M1.out (by omega) (by omega) (letters3 HL.out _ _ _)).mono ?_; rintro e w1 ⟨rfl, hb⟩; have B1 := Lib.hid (box3 hb); have X1 := Lib.hid ((boxes_start _ _ _ _ _ _ _).below hb); clear hb
              obtain ⟨x0, x1, x2, x3, x4, x5, x6⟩ := X1.out
              go_wp2_with fail
              clear x0 x1 x2 x3 x4 x5 x6
              refine (prefix_all _ _ _ N1.out (by omega) (by omega) (HL.out.below B1.out)).mono ?_; rintro e w2 ⟨rfl, hb⟩; have B2 := Lib.hid (below_then B1.out hb); have X2 := Lib.hid (X1.out.below hb); clear hb
              obtain ⟨x0, x1, x2, x3, x4, x5, x6⟩ := X2.out
              go_wp2_with fail
              clear x0 x1 x2 x3 x4 x5 x6
              refine (ticket_all _ _ _ _ M1.out (by omega) (by omega) (by omega) (by omega) (HL.out.below B2.out)).mono ?_; rintro e w3 ⟨rfl, hb⟩; have B3 := Lib.hid (below_then B2.out hb); have X3 := Lib.hid (X2.out.below hb); clear hb
              obtain ⟨x0, x1, x2, x3, x4, x5, x6⟩ := X3.out
              go_wp2_with fail
              clear x0 x1 x2 x3 x4 x5 x6
              refine (ticket_all _ _ _ _ N1.out (by omega) (by omega) (by omega) (by omega) (HL.out.below B3.out)).mono ?_; rintro e w4 ⟨rfl, hb⟩; have B4 := Lib.hid (below_then B3.out hb); have X4 := Lib.hid (X3.out.below hb); clear hb
              obtain ⟨x0, x1, x2, x3, x4, x5, x6⟩ := X4.out
              go_wp2_with fail
              clear x0 x1 x2 x3 x4 x5 x6
              refine (live_any _ (HL.out.below B4.out)).mono ?_; rintro e w5 ⟨rfl, hb⟩; have B5 := Lib.hid (below_then B4.out hb); clear hb
              go_wp2
              go_ret
              exact ⟨rfl, B5.out⟩
          · have ht0 : tOk a0 a1 a2 = false := by simpa using ht0
            go_enter Tryd.func6, Tryd.ntmps6
            go_wp2_with fail
            refine (prefix_all _ _ _ M1.out (by omega) (by omega) (letters3 HL.out _ _ _)).mono ?_; rintro e w1 ⟨rfl, hb⟩; have B1 := Lib.hid (box3 hb); have X1 := Lib.hid ((boxes_start _ _ _ _ _ _ _).below hb); clear hb
            obtain ⟨x0, x1, x2, x3, x4, x5, x6⟩ := X1.out
            go_wp2_with fail
            clear x0 x1 x2 x3 x4 x5 x6
            refine (prefix_all _ _ _ N1.out (by omega) (by omega) (HL.out.below B1.out)).mono ?_; rintro e w2 ⟨rfl, hb⟩; have B2 := Lib.hid (below_then B1.out hb); have X2 := Lib.hid (X1.out.below hb); clear hb
            obtain ⟨x0, x1, x2, x3, x4, x5, x6⟩ := X2.out
            go_wp2_with fail
            clear x0 x1 x2 x3 x4 x5 x6
            refine (ticket_all _ _ _ _ M1.out (by omega) (by omega) (by omega) (by omega) (HL.out.below B2.out)).mono ?_; rintro e w3 ⟨rfl, hb⟩; have B3 := Lib.hid (below_then B2.out hb); have X3 := Lib.hid (X2.out.below hb); clear hb
            obtain ⟨x0, x1, x2, x3, x4, x5, x6⟩ := X3.out
            go_wp2_with fail
            clear x0 x1 x2 x3 x4 x5 x6
            refine (ticket_all _ _ _ _ N1.out (by omega) (by omega) (by omega) (by omega) (HL.out.below B3.out)).mono ?_; rintro e w4 ⟨rfl, hb⟩; have B4 := Lib.hid (below_then B3.out hb); have X4 := Lib.hid (X3.out.below hb); clear hb
            obtain ⟨x0, x1, x2, x3, x4, x5, x6⟩ := X4.out
            go_wp2_with fail
            clear x0 x1 x2 x3 x4 x5 x6
            refine (live_any _ (HL.out.below B4.out)).mono ?_; rintro e w5 ⟨rfl, hb⟩; have B5 := Lib.hid (below_then B4.out hb); clear hb
            go_wp2
            go_ret
            exact ⟨rfl, B5.out⟩
        · have hp1 : pOk b0 b1 = false := by simpa using hp1
          go_enter Tryd.func6, Tryd.ntmps6
          go_wp2_with fail
          refine (prefix_all _ _ _ M1.out (by omega) (by omega) (letters3 HL.out _ _ _)).mono ?_; rintro e w1 ⟨rfl, hb⟩; have B1 := Lib.hid (box3 hb); have X1 := Lib.hid ((boxes_start _ _ _ _ _ _ _).below hb); clear hb
          obtain ⟨x0, x1, x2, x3, x4, x5, x6⟩ := X1.out
          go_wp2_with fail
          clear x0 x1 x2 x3 x4 x5 x6
          refine (prefix_all _ _ _ N1.out (by omega) (by omega) (HL.out.below B1.out)).mono ?_; rintro e w2 ⟨rfl, hb⟩; have B2 := Lib.hid (below_then B1.out hb); have X2 := Lib.hid (X1.out.below hb); clear hb
          obtain ⟨x0, x1, x2, x3, x4, x5, x6⟩ := X2.out
          go_wp2_with fail
          clear x0 x1 x2 x3 x4 x5 x6
          refine (ticket_all _ _ _ _ M1.out (by omega) (by omega) (by omega) (by omega) (HL.out.below B2.out)).mono ?_; rintro e w3 ⟨rfl, hb⟩; have B3 := Lib.hid (below_then B2.out hb); have X3 := Lib.hid (X2.out.below hb); clear hb
          obtain ⟨x0, x1, x2, x3, x4, x5, x6⟩ := X3.out
          go_wp2_with fail
          clear x0 x1 x2 x3 x4 x5 x6
          refine (ticket_all _ _ _ _ N1.out (by omega) (by omega) (by omega) (by omega) (HL.out.below B3.out)).mono ?_; rintro e w4 ⟨rfl, hb⟩; have B4 := Lib.hid (below_then B3.out hb); have X4 := Lib.hid (X3.out.below hb); clear hb
          obtain ⟨x0, x1, x2, x3, x4, x5, x6⟩ := X4.out
          go_wp2_with fail
          clear x0 x1 x2 x3 x4 x5 x6
          refine (live_any _ (HL.out.below B4.out)).mono ?_; rintro e w5 ⟨rfl, hb⟩; have B5 := Lib.hid (below_then B4.out hb); clear hb
          go_wp2
          go_ret
          exact ⟨rfl, B5.out⟩
      · have hp0 : pOk a0 a1 = false := by simpa using hp0
        go_enter Tryd.func6, Tryd.ntmps6
        go_wp2_with fail
        refine (prefix_all _ _ _ M1.out (by omega) (by omega) (letters3 HL.out _ _ _)).mono ?_; rintro e w1 ⟨rfl, hb⟩; have B1 := Lib.hid (box3 hb); have X1 := Lib.hid ((boxes_start _ _ _ _ _ _ _).below hb); clear hb
        obtain ⟨x0, x1, x2, x3, x4, x5, x6⟩ := X1.out
        go_wp2_with fail
        clear x0 x1 x2 x3 x4 x5 x6
        refine (prefix_all _ _ _ N1.out (by omega) (by omega) (HL.out.below B1.out)).mono ?_; rintro e w2 ⟨rfl, hb⟩; have B2 := Lib.hid (below_then B1.out hb); have X2 := Lib.hid (X1.out.below hb); clear hb
        obtain ⟨x0, x1, x2, x3, x4, x5, x6⟩ := X2.out
        go_wp2_with fail
        clear x0 x1 x2 x3 x4 x5 x6
        refine (ticket_all _ _ _ _ M1.out (by omega) (by omega) (by omega) (by omega) (HL.out.below B2.out)).mono ?_; rintro e w3 ⟨rfl, hb⟩; have B3 := Lib.hid (below_then B2.out hb); have X3 := Lib.hid (X2.out.below hb); clear hb
        obtain ⟨x0, x1, x2, x3, x4, x5, x6⟩ := X3.out
        go_wp2_with fail
        clear x0 x1 x2 x3 x4 x5 x6
        refine (ticket_all _ _ _ _ N1.out (by omega) (by omega) (by omega) (by omega) (HL.out.below B3.out)).mono ?_; rintro e w4 ⟨rfl, hb⟩; have B4 := Lib.hid (below_then B3.out hb); have X4 := Lib.hid (X3.out.below hb); clear hb
        obtain ⟨x0, x1, x2, x3, x4, x5, x6⟩ := X4.out
        go_wp2_with fail
        clear x0 x1 x2 x3 x4 x5 x6
        refine (live_any _ (HL.out.below B4.out)).mono ?_; rintro e w5 ⟨rfl, hb⟩; have B5 := Lib.hid (below_then B4.out hb); clear hb
        go_wp2
        go_ret
        exact ⟨rfl, B5.out⟩

set_option maxRecDepth 100000 in
theorem lifted (os : Os) (started : os.Started) (H : Type) (enc : TypeId × Value → H) :
    ReturnsInHanded {} Tryd.checked os 6 .any (fun w args => (Rows.keyApartSpec.pre enc Tryd.prog Tryd.f6 [] false w args ∧ laidMetH Tryd.prog laidK w) ∧ sizedMet enc Tryd.prog Tryd.f6 (OpenSpec.ofChange Rows.keyApartSpec) false w args)
      (Rows.keyApartSpec.post enc Tryd.prog Tryd.f6 false true false false) := by
  refine returnsInHanded_of_change_and (C := Tryd.checked) (X := fun w _ => laidMetH Tryd.prog laidK w) (fun _ _ _ hh h => h.of_heap hh) own started (by kernel_rfl) Tryd.func6
    (ChangeSpec.witness_shaped (enc := enc) (C := Tryd.checked) (os := os) (X := fun w _ => laidMetH Tryd.prog laidK w) false (World.doorLaid Tryd.prog 400 os) #[.agg #[.int .i64 0, .int .i64 0], .agg #[.string ByteArray.empty, .string ByteArray.empty], .agg #[.int .i64 0, .int .i64 0]] 8 rfl (World.shaped_of_RefB (by kernel_rfl) (by kernel_rfl)) (by kernel_rfl) (by kernel_rfl) (by kernel_rfl) (door_met os _)) ?_
  intro W base args ds gs before hval0 hW _ _ hL _
  have hval : ∀ (j : Nat) t v, Tryd.f6.params[j]? = some t → args[j]? = some v → Value.okWide Tryd.prog W .any base t v := hval0
  have hW' := hW
  obtain ⟨p, q, hA0, hV, rfl, hfz, hnd⟩ := hW
  have hA : DataW.TrodAll enc Tryd.prog W 0 (fun _ => true) true Tryd.f6.params.toList args.toList ds p := hA0
  rw [Tryd.params6] at hA hval
  obtain ⟨v0, vs0, d0, ds0, p0, q0, hargs, rfl, rfl, h0, r0⟩ := trodAll_cons hA
  obtain ⟨v1, vs1, d1, ds1, p1, q1, rfl, rfl, rfl, h1, r1⟩ := trodAll_cons r0
  obtain ⟨v2, vs2, d2, ds2, p2, q2, rfl, rfl, rfl, h2, r2⟩ := trodAll_cons r1
  obtain ⟨rfl, rfl, rfl⟩ := trodAll_nil r2
  obtain rfl : args = #[v0, v1, v2] := by cases args; simp_all
  obtain ⟨rfl, rfl⟩ := trodVars_none hV
  obtain ⟨a0, b0, rfl, rfl, rfl, w0, u0⟩ := open_two_int Tryd.underlying33 Tryd.underlying3 (by kernel_rfl) (by kernel_rfl) (hval 0 33 v0 rfl rfl) h0
  obtain ⟨a1, b1, rfl, rfl, rfl, w1, u1⟩ := open_two_string Tryd.underlying34 Tryd.underlying9 (by kernel_rfl) (by kernel_rfl) (hval 1 34 v1 rfl rfl) h1
  obtain ⟨a2, b2, rfl, rfl, rfl, w2, u2⟩ := open_two_int Tryd.underlying33 Tryd.underlying3 (by kernel_rfl) (by kernel_rfl) (hval 2 33 v2 rfl rfl) h2
  have hlet := letters_of_laid hL
  clear hA0 hval0 hL
  refine (walk a0 b0 a1 b1 a2 b2 w0 u0 w1 u1 w2 u2 W hlet).mono fun e W' ⟨he, bel⟩ => ?_
  subst he
  exact ⟨_, rfl, _, _, _, [], _, [], hW', trodAll_mk1 (shut_bool Tryd.underlying4 _), (trodAll_cons_mk (shut_two_int Tryd.underlying33 Tryd.underlying3 (by kernel_rfl) (by kernel_rfl) w0 u0) (trodAll_cons_mk (shut_two_string Tryd.underlying34 Tryd.underlying9 (by kernel_rfl) (by kernel_rfl) w1 u1) (trodAll_cons_mk (shut_two_int Tryd.underlying33 Tryd.underlying3 (by kernel_rfl) (by kernel_rfl) w2 u2) trodAll_mk0))), rfl, bel.frame _, fun h => by cases h⟩

theorem over : Rows.KeyApartSaid :=
  OpenClaim.holds_of_wide 6 Tryd.f6 rfl rfl rfl rfl rfl rfl rfl ⟨rfl, rfl, rfl, rfl, rfl⟩ rfl rfl rfl rfl rfl (by kernel_rfl) Tryd.func6 (by kernel_rfl)
    (of_decide_eq_true (by kernel_rfl)) (by unfold Func.isWrapper; first | (rw [if_pos (by decide +kernel)]; kernel_rfl) | (rw [if_neg (by decide +kernel)]; exact ⟨rfl, rfl⟩))
    (fun os started H enc _ => lifted os started H enc)

theorem plain (f : FuncId) (fn : Func) (hf : Tryd.pinned.checked.prog.funcNamed "baton/batonlaw02.KeyApart" = some f) (hfn : Tryd.pinned.checked.prog.funcs[f]? = some fn) :
    false = Tryd.pinned.checked.prog.looks [] ∧ ∀ (j : Nat) t, fn.params[j]? = some t → Tryd.pinned.checked.prog.wantsStandIn t = false := by
  obtain rfl : f = 6 := Option.some.inj ((show Tryd.prog.funcNamed "baton/batonlaw02.KeyApart" = some 6 by kernel_rfl).symm.trans hf) |>.symm
  obtain rfl : fn = Tryd.f6 := (Option.some.inj (Tryd.func6.symm.trans hfn)).symm
  refine ⟨by kernel_rfl, fun j t ht => ?_⟩
  rw [Tryd.params6] at ht
  have hm : t ∈ [33, 34, 33] := by simpa using Array.mem_of_getElem? ht
  have hall : ([33, 34, 33].all fun u => !Tryd.prog.wantsStandIn u) = true := by kernel_rfl
  exact (show Tryd.prog.wantsStandIn t = false by simpa using List.all_eq_true.1 hall t hm)

theorem proved : Rows.KeyApartCardSaid :=
  Claim7.holds_tied_plain_at .later [] _ _ _ _ over (fun _ h => by cases h) (by kernel_rfl) (fun _ h => by cases h) keyApart_row_tie rfl ⟨rfl, rfl⟩ (by kernel_rfl) rfl plain (by kernel_rfl)
#print axioms proved
end Go.Proofs.YtjnmlbenhkhcbabDoor.keyApart
