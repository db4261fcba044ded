/- For all things and every name the law ElectTells answers true: the head of the things, their terms, and who leads by the name are the document's. -/
import Derived.Test.YtjjngablalnbeaaDoorKeyLaid
import Derived.Test.YtjjngablalnbeaaDoorKvOpen
import Derived.Test.YtjjngablalnbeaaDoorElLive
import Derived.Test.YtjjngablalnbeaaDoorElUse
namespace Go.Proofs.YtjjngablalnbeaaDoor.electTells
open Go.ChangeShapes Go.WideShapes Go.ChangeAt Go.RowKit Go.Sort Go.Proofs.YtjjngablalnbeaaDoor.P
open Go.ChangeMaps (open_string shut_string)
set_option linter.unusedVariables false
set_option linter.unusedSimpArgs false
set_option maxHeartbeats 4000000
set_option maxRecDepth 100000

theorem walk (w : World) (A0 : Option Addr) (n0 c0 : Nat) (l0 : List KV) (a1 : ByteArray) (k0 : KVs w A0 n0 c0 l0) (w1 : a1.size ≤ maxLen) (hL : Letters w) :
    Calls Tryd.prog 3 #[.slice A0 n0 c0, .string a1] w fun e w' => e = .returned (.bool true) ∧ Below w.heap.size w w' := by
  have HL := Lib.hid hL
  have K := Lib.hid k0
  have HA1 := Lib.hid w1
  cases hf : fewB 40 l0 with
  | false =>
    have HF := Lib.hid hf
    clear hf k0 hL w1
    go_enter Tryd.func3, Tryd.ntmps3
    go_wp2_with fail
    refine (few_any A0 n0 c0 l0 40 _ K.out (by omega)).mono ?_; rintro e w' ⟨rfl, rfl⟩
    rw [HF.out]
    go_wp2_with fail
    refine (ellive_any _ HL.out).mono ?_; rintro e w2 ⟨rfl, hb⟩
    have BL := Lib.hid hb
    clear hb
    go_wp2
    go_ret
    exact ⟨rfl, BL.out⟩
  | true =>
    have HF := Lib.hid hf
    have hn : n0 ≤ 40 := by
      have := k0.len
      unfold fewB at hf
      simp at hf
      omega
    clear hf
    by_cases hz : a1.size ≤ 60
    · have z1 : ¬ ((60 : Int) < (a1.size : Int)) := by omega
      obtain ⟨x, b, CH, CHR⟩ := heads A0 n0 c0 l0 (by omega)
      obtain ⟨y, b2, CR, CRR⟩ := reigns A0 n0 c0 l0 a1 (by omega) HA1.out
      have CT := terms_any A0 n0 c0 l0
      have CTR := termsr_any A0 n0 c0 l0
      have HTL : Hid ((termsL (cresL l0)).length ≤ 1000) := Lib.hid (by
        have h1 := terms_len (cresL l0) (cresL l0).length
        have h2 := k0.len
        have h3 : (cresL l0).length = l0.length := by unfold cresL; rw [List.length_map]
        unfold termsL
        omega)
      generalize termsL (cresL l0) = ts at *
      have hq := eql_kv x x
      rw [kvEq_iff.2 rfl] at hq
      clear hL k0 hz w1
      go_enter Tryd.func3, Tryd.ntmps3
      go_wp2_with fail
      refine (few_any A0 n0 c0 l0 40 _ K.out (by omega)).mono ?_; rintro e w' ⟨rfl, rfl⟩
      rw [HF.out]
      go_wp2_with fail
      refine (CH _ K.out).mono ?_; rintro e w1 ⟨rfl, hb⟩
      have X1 := Lib.hid (at6_new w1 x 26)
      have B1 := Lib.hid (then_ hb (new1 w1 (x.obj 26)))
      have hs1 : w1.heap.size < (w1.alloc (x.obj 26)).heap.size := by simp
      clear hb
      go_wp2_with fail
      refine (CHR _ (K.out.keep B1.out)).mono ?_; rintro e w2 ⟨rfl, hb⟩
      have X1b := Lib.hid (X1.out.on hb)
      have X2 := Lib.hid (at6_new w2 x 26)
      have N2 := new1 w2 (x.obj 26)
      have X1c := Lib.hid (X1b.out.on N2)
      have B2 := Lib.hid (then_ (then_ B1.out hb) N2)
      clear hb N2 X1 X1b B1
      generalize w1.heap.size = g1 at *
      go_wp2_with fail
      refine (CR _ (K.out.keep B2.out) (HL.out.below B2.out)).mono ?_; rintro e w3 ⟨rfl, hb⟩
      have X1 := Lib.hid (X1c.out.on hb)
      have X3 := Lib.hid (X2.out.on hb)
      have B3 := Lib.hid (then_ B2.out hb)
      clear hb X1c X2 B2 hs1
      generalize w2.heap.size = g2 at *
      go_wp2_with fail
      refine (CRR _ (K.out.keep B3.out)).mono ?_; rintro e w4 ⟨rfl, hb⟩
      have X1b := Lib.hid (X1.out.on hb)
      have X4 := Lib.hid (X3.out.on hb)
      have B4 := Lib.hid (then_ B3.out hb)
      clear hb X1 X3 B3
      obtain ⟨a0, a1, a2, a3, a4, a5⟩ := X1b.out
      obtain ⟨d0, d1, d2, d3, d4, d5⟩ := X4.out
      go_wp2_with fail
      refine (CT _ (K.out.keep B4.out) (by omega)).mono ?_; rintro e w5 ⟨T, tc, rfl, hi, hb⟩
      have I5 := Lib.hid hi
      have B5 := Lib.hid (then_ B4.out hb)
      clear hb hi a0 a1 a2 a3 a4 a5 d0 d1 d2 d3 d4 d5 X1b X4 B4 hq
      go_wp2_with fail
      refine (CTR _ (K.out.keep B5.out) (by omega)).mono ?_; rintro e w6 ⟨T2, tc2, rfl, hi, hb⟩
      have I5b := Lib.hid (I5.out.below hb)
      have I6 := Lib.hid hi
      have B6 := Lib.hid (then_ B5.out hb)
      clear hb hi I5 B5
      go_wp2_with fail
      refine (ints_same T T2 _ tc tc2 ts _ I5b.out I6.out (by have := HTL.out; omega)).mono ?_; rintro e w7 ⟨rfl, hb⟩
      have B7 := Lib.hid (then_ B6.out hb)
      clear hb
      go_wp2_with fail
      refine (ellive_any _ (HL.out.below B7.out)).mono ?_; rintro e w8 ⟨rfl, hb⟩
      have B8 := Lib.hid (then_ B7.out hb)
      clear hb
      go_wp2
      go_ret
      exact ⟨rfl, B8.out⟩
    · have z1 : (60 : Int) < (a1.size : Int) := by omega
      clear k0 hL w1
      go_enter Tryd.func3, Tryd.ntmps3
      go_wp2_with fail
      refine (few_any A0 n0 c0 l0 40 _ K.out (by omega)).mono ?_; rintro e w' ⟨rfl, rfl⟩
      rw [HF.out]
      go_wp2_with fail
      refine (ellive_any _ HL.out).mono ?_; rintro e w2 ⟨rfl, hb⟩
      have BL := Lib.hid hb
      clear hb
      go_wp2
      go_ret
      exact ⟨rfl, BL.out⟩
theorem laidOut : laidOutB Tryd.prog = true := by kernel_rfl
set_option maxRecDepth 100000 in
theorem lifted (os : Os) (started : os.Started) (H : Type) (enc : TypeId × Value → H) :
    ReturnsInHanded {} Tryd.checked os 3 .any (fun w args => (Rows.electTellsSpec.pre enc Tryd.prog Tryd.f3 [] false w args ∧ laidMetH Tryd.prog laidK w) ∧ sizedMet enc Tryd.prog Tryd.f3 (OpenSpec.ofChange Rows.electTellsSpec) false w args)
      (Rows.electTellsSpec.post enc Tryd.prog Tryd.f3 false true false false) := by
  refine returnsInHanded_of_change_and (C := Tryd.checked) (X := fun w _ => laidMetH Tryd.prog laidK w) (fun _ _ _ hh h => h.of_heap hh) own started (by kernel_rfl) Tryd.func3
    (ChangeSpec.witness_shaped (enc := enc) (C := Tryd.checked) (os := os) (X := fun w _ => laidMetH Tryd.prog laidK w) false (World.doorLaid Tryd.prog 400 os) #[.slice none 0 0, .string ByteArray.empty] 8 rfl (World.shaped_of_RefB (by kernel_rfl) (by kernel_rfl)) (by kernel_rfl) (by kernel_rfl) (by kernel_rfl) (door_met os _)) ?_
  intro W base args ds gs before hval0 hW _ _ hL _
  have hval : ∀ (j : Nat) t v, Tryd.f3.params[j]? = some t → args[j]? = some v → Value.okWide Tryd.prog W .any base t v := hval0
  have hW' := hW
  obtain ⟨p, q, hA0, hV, rfl, hfz, hnd⟩ := hW
  have hA : DataW.TrodAll enc Tryd.prog W 0 (fun _ => true) true Tryd.f3.params.toList args.toList ds p := hA0
  rw [Tryd.params3] at hA hval
  obtain ⟨v0, vs0, d0, ds0, p0, q0, hargs, rfl, rfl, h0, r0⟩ := trodAll_cons hA
  obtain ⟨v1, vs1, d1, ds1, p1, q1, rfl, rfl, rfl, h1, r1⟩ := trodAll_cons r0
  obtain ⟨rfl, rfl, rfl⟩ := trodAll_nil r1
  obtain rfl : args = #[v0, v1] := by cases args; simp_all
  obtain ⟨rfl, rfl⟩ := trodVars_none hV
  obtain ⟨A0, n0, c0, l0, rfl, k0⟩ := open_kvs (hval 0 22 v0 rfl rfl) h0
  obtain ⟨a1, rfl, rfl, rfl, w1⟩ := open_string Tryd.underlying9 (hval 1 9 v1 rfl rfl) h1
  have hlet := letters_of_laid hL
  clear hA0 hval0 hL
  refine (walk W A0 n0 c0 l0 a1 k0 w1 hlet).mono fun e W' ⟨he, bel⟩ => ?_
  subst he
  exact ⟨_, rfl, _, _, _, [], _, [], hW', trodAll_mk1 (shut_bool Tryd.underlying4 _), (trodAll_cons_mk (Below.trod laidOut (by kernel_rfl) (of_decide_eq_true (by kernel_rfl)) h0 bel (fun x hx => hW'.lt x (by simp [hx]))) (trodAll_cons_mk (shut_string Tryd.underlying9 w1) trodAll_mk0)), rfl, bel.frame _, fun h => by cases h⟩

theorem over : Rows.ElectTellsSaid :=
  OpenClaim.holds_of_wide 3 Tryd.f3 rfl rfl rfl rfl rfl rfl rfl ⟨rfl, rfl, rfl, rfl, rfl⟩ rfl rfl rfl rfl rfl (by kernel_rfl) Tryd.func3 (by kernel_rfl)
    (of_decide_eq_true (by kernel_rfl)) (by unfold Func.isWrapper; first | (rw [if_pos (by decide +kernel)]; kernel_rfl) | (rw [if_neg (by decide +kernel)]; exact ⟨rfl, rfl⟩))
    (fun os started H enc _ => lifted os started H enc)

theorem plain (f : FuncId) (fn : Func) (hf : Tryd.pinned.checked.prog.funcNamed "baton/batonlaw17.ElectTells" = some f) (hfn : Tryd.pinned.checked.prog.funcs[f]? = some fn) :
    false = Tryd.pinned.checked.prog.looks [] ∧ ∀ (j : Nat) t, fn.params[j]? = some t → Tryd.pinned.checked.prog.wantsStandIn t = false := by
  obtain rfl : f = 3 := Option.some.inj ((show Tryd.prog.funcNamed "baton/batonlaw17.ElectTells" = some 3 by kernel_rfl).symm.trans hf) |>.symm
  obtain rfl : fn = Tryd.f3 := (Option.some.inj (Tryd.func3.symm.trans hfn)).symm
  refine ⟨by kernel_rfl, fun j t ht => ?_⟩
  rw [Tryd.params3] at ht
  have hm : t ∈ [22, 9] := by simpa using Array.mem_of_getElem? ht
  have hall : ([22, 9].all fun u => !Tryd.prog.wantsStandIn u) = true := by kernel_rfl
  exact (show Tryd.prog.wantsStandIn t = false by simpa using List.all_eq_true.1 hall t hm)

theorem proved : Rows.ElectTellsCardSaid :=
  Claim7.holds_tied_plain_at .later [] _ _ _ _ over (fun _ h => by cases h) (by kernel_rfl) (fun _ h => by cases h) electTells_row_tie rfl ⟨rfl, rfl⟩ (by kernel_rfl) rfl plain (by kernel_rfl)
#print axioms proved
end Go.Proofs.YtjjngablalnbeaaDoor.electTells
