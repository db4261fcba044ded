/- For every number n, every text s and every place at the law ShiftBack answers true: what is written is read, wherever it stands; there is one way to write it. No condition. -/
import Derived.Test.YtjnmlbenhkhcbaaRows
import Derived.Test.YtjnmlbenhkhcbaaShiftMath
import Derived.Test.YtjnmlbenhkhcbaaShiftLive
import Derived.Deep.RegionHeld3
import Derived.ProofKit
import Derived.OpenShut
import Derived.ShutString
namespace Go.Proofs.Ytjnmlbenhkhcbaa.shiftBack
open Go.ChangeShapes Go.WideShapes Go.ChangeAt Go.RowKit Go.Proofs.Ytjnmlbenhkhcbaa.P
open Go.ChangeMaps (open_string shut_string)
set_option linter.unusedVariables false
set_option maxHeartbeats 1000000

theorem app_list (s t : ByteArray) : (s ++ t).data.toList = s.data.toList ++ t.data.toList := by
  simp
theorem size_list (s : ByteArray) : s.size = s.data.toList.length := by simp
theorem var_cut (s : ByteArray) (v : Int) (x y : Nat) (h0 : 0 ≤ v) (h1 : v ≤ 18446744073709551615) (hx : x ≤ y) (hy : y ≤ s.size) (h : varL v.toNat = (s.data.toList.drop (x : Int).toNat).take ((y : Int).toNat - (x : Int).toNat)) (w : World) :
    Calls Try.prog 24 #[.int .u64 v] w fun e w' => e = .returned (.string (s.extract x y)) ∧ Below w.heap.size w w' := by
  refine (var_any v w h0 h1).mono fun e w' g => ⟨g.1.trans ?_, g.2⟩
  have e : (⟨(varL v.toNat).toArray⟩ : ByteArray) = s.extract x y := by
    apply ByteArray.ext
    rw [h]
    apply Array.ext'
    simp
  rw [e]
theorem read_turn (s : ByteArray) (n : Int) (w : World) (hs : s.size ≤ 60) (h0 : 0 ≤ n) (h1 : n ≤ 18446744073709551615) :
    Calls Try.prog 22 #[.string (s ++ ⟨(varL n.toNat).toArray⟩ ++ s), .int .i64 s.size] w fun e w' => e = .returned (.tuple #[.int .u64 n, .int .i64 ((s.size : Int) + ((varL n.toNat).length : Int)), .int .i64 0]) ∧ w = w' := by
  have hv := varL_length n.toNat
  have hl : (s ++ ⟨(varL n.toNat).toArray⟩ ++ s : ByteArray).data.toList = s.data.toList ++ (varL n.toNat ++ s.data.toList) := by
    rw [app_list, app_list, List.append_assoc]
  have hsz : (s ++ ⟨(varL n.toNat).toArray⟩ ++ s : ByteArray).size ≤ 1000000 := by
    rw [size_list, hl]
    rw [size_list] at hs
    simp only [List.length_append]
    omega
  refine (read_any _ _ w (by omega) (by omega) hsz).mono fun e w' h => ⟨h.1.trans ?_, h.2⟩
  have hb := read_back s.data.toList s.data.toList n.toNat (by omega)
  rw [hl, size_list, hb]
  simp only
  rw [show ((n.toNat : Nat) : Int) = n by omega]

theorem walk (a0 : Int) (a1 : ByteArray) (a2 : Int) (w0 : (Lit.int .u64 a0).wf = true) (w1 : a1.size ≤ maxLen) (w2 : (Lit.int .i64 a2).wf = true) (w : World) :
    Calls Try.prog 6 #[.int .u64 a0, .string a1, .int .i64 a2] w fun e w' => e = .returned (.bool true) ∧ Below w.heap.size w w' := by
  obtain ⟨b0, c0⟩ := bounds_u64 w0
  unfold maxLen at w1
  obtain ⟨b2, c2⟩ := bounds_i64 w2
  clear w0 w2
  by_cases hl : (60 : Int) < a1.size
  · go_enter Try.func6, Try.ntmps6
    go_wp2_with fail
    refine (live_any _).mono ?_; rintro e w1 ⟨rfl, hb1⟩; have HB1 := Lib.hid hb1; clear hb1
    go_wp2
    go_ret
    exact ⟨rfl, HB1.out⟩
  · have hv := varL_length a0.toNat
    have hread : ∀ w, Calls Try.prog 22 #[.string a1, .int .i64 a2] w fun e w' => e = .returned (.tuple #[.int .u64 (readP a1.data.toList a2).1, .int .i64 (readP a1.data.toList a2).2.1, .int .i64 (readP a1.data.toList a2).2.2]) ∧ w = w' := fun w => read_any a1 a2 w (by omega) (by omega) (by omega)
    have hrange := readP_range a1.data.toList a2
    have hbad := readP_bad a1.data.toList a2
    have hback := back_read a1.data.toList a2
    have hlen : a1.data.toList.length = a1.size := by simp
    generalize readP a1.data.toList a2 = r at *
    obtain ⟨v, p, e⟩ := r
    simp only at hread hrange hbad hback
    have HR := Lib.hid hread
    clear hread
    by_cases he : e ≠ 0
    · obtain ⟨rfl, rfl⟩ := hbad he
      have he1 : 1 ≤ e := by omega
      clear hback hbad he
      go_enter Try.func6, Try.ntmps6
      go_wp2_with fail
      refine (var_any _ _ (by omega) (by omega)).mono ?_; rintro e w1 ⟨rfl, hb1⟩; have HB1 := Lib.hid hb1; clear hb1
      go_wp2_with fail
      refine (read_turn a1 a0 _ (by omega) (by omega) (by omega)).mono ?_; rintro e w' ⟨rfl, rfl⟩
      go_wp2_with fail
      refine (HR.out _).mono ?_; rintro e w' ⟨rfl, rfl⟩
      go_wp2_with fail
      refine (live_any _).mono ?_; rintro e w2 ⟨rfl, hb2⟩; have HB2 := Lib.hid hb2; clear hb2
      go_wp2
      go_ret
      exact ⟨rfl, below_then (HB1.out) HB2.out⟩
    · obtain rfl : e = 0 := by omega
      obtain ⟨g1, g2, g3, g4, g5, g6⟩ := hback v p rfl
      rw [hlen] at g3
      obtain ⟨x, rfl⟩ := Int.eq_ofNat_of_zero_le g1
      obtain ⟨y, rfl⟩ := Int.eq_ofNat_of_zero_le (show 0 ≤ p by omega)
      have hvar := var_cut a1 v x y g4 g5 (by omega) (by omega) g6
      have HV := Lib.hid hvar
      clear hvar g6 hback hbad hlen he
      have n1 : x < y := by omega
      have n2 : y ≤ a1.size := by omega
      have n3 : x ≤ y := by omega
      go_enter Try.func6, Try.ntmps6
      go_wp2_with fail
      refine (var_any _ _ (by omega) (by omega)).mono ?_; rintro e w1 ⟨rfl, hb1⟩; have HB1 := Lib.hid hb1; clear hb1
      go_wp2_with fail
      refine (read_turn a1 a0 _ (by omega) (by omega) (by omega)).mono ?_; rintro e w' ⟨rfl, rfl⟩
      go_wp2_with fail
      refine (HR.out _).mono ?_; rintro e w' ⟨rfl, rfl⟩
      go_wp2_with fail
      go_region_held3 (fun _ => True) (trivial) (first | (go_at_call 24; refine (HV.out _).mono ?_; rintro e w2 ⟨rfl, hb2⟩) | (go_at_call 9; refine (live_any _).mono ?_; rintro e w3 ⟨rfl, hb3⟩))
      all_goals (go_wp2)
      all_goals (go_ret)
      all_goals exact ⟨rfl, below_then (below_then HB1.out.drew (by assumption)) (by assumption)⟩

theorem own : ownKnob Try.prog.godebug = none := by kernel_rfl

set_option maxRecDepth 100000 in
theorem lifted (os : Os) (started : os.Started) (H : Type) (enc : TypeId × Value → H) :
    ReturnsInHanded {} Try.checked os 6 .any (Rows.shiftBackSpec.pre6 enc Try.prog Try.f6 Rows.shiftBackRow.domain false) (Rows.shiftBackSpec.post enc Try.prog Try.f6 false true false false) := by
  refine returnsInHanded_of_change (C := Try.checked) own started (by kernel_rfl) Try.func6
    (ChangeSpec.witness6 (enc := enc) (C := Try.checked) false ⟨#[], #[.int .u64 0, .string ByteArray.empty, .int .i64 0], []⟩ 8 (by kernel_rfl) (by kernel_rfl) (by kernel_rfl) (by kernel_rfl)) ?_
  intro W base args ds gs before hval0 hW hcnd _
  have hval : ∀ (j : Nat) t v, Try.f6.params[j]? = some t → args[j]? = some v → Value.okWide Try.prog W .any base t v := hval0
  have hW' := hW
  obtain ⟨p, q, hA0, hV, rfl, hfz, hnd⟩ := hW
  have hA : DataW.TrodAll enc Try.prog W 0 (fun _ => true) true Try.f6.params.toList args.toList ds p := hA0
  rw [Try.params6] at hA hval
  obtain ⟨v0, vs0, d0, ds0, p0, q0, hargs, rfl, rfl, h0, r0⟩ := trodAll_cons hA
  obtain ⟨v1, vs1, d1, ds1, p1, q1, rfl, rfl, rfl, h1, r1⟩ := trodAll_cons r0
  obtain ⟨v2, vs2, d2, ds2, p2, q2, rfl, rfl, rfl, h2, r2⟩ := trodAll_cons r1
  obtain ⟨rfl, rfl, rfl⟩ := trodAll_nil r2
  obtain rfl : args = #[v0, v1, v2] := by cases args; simp_all
  obtain ⟨rfl, rfl⟩ := trodVars_none hV
  obtain ⟨a0, rfl, rfl, rfl, w0⟩ := open_int Try.underlying22 (hval 0 22 v0 rfl rfl) h0
  obtain ⟨a1, rfl, rfl, rfl, w1⟩ := open_string Try.underlying9 (hval 1 9 v1 rfl rfl) h1
  obtain ⟨a2, rfl, rfl, rfl, w2⟩ := open_int Try.underlying3 (hval 2 3 v2 rfl rfl) h2
  clear hA0 hval0
  refine (walk a0 a1 a2 w0 w1 w2 W).mono fun e W' ⟨he, bel⟩ => ?_
  subst he
  exact ⟨_, rfl, _, _, _, [], _, [], hW', trodAll_mk1 (shut_bool Try.underlying4 _), (trodAll_cons_mk (shut_int Try.underlying22 w0) (trodAll_cons_mk (shut_string Try.underlying9 w1) (trodAll_cons_mk (shut_int Try.underlying3 w2) trodAll_mk0))), rfl, bel.frame _, fun h => by cases h⟩

theorem over : Rows.shiftBackRow.holds Try.pinned (OpenSpec.ofChange Rows.shiftBackSpec) :=
  OpenClaim.holds_of_wide 6 Try.f6 rfl rfl rfl rfl rfl rfl rfl ⟨rfl, rfl, rfl, rfl, rfl⟩ rfl rfl rfl rfl rfl (by kernel_rfl) Try.func6 (by kernel_rfl)
    (of_decide_eq_true (by kernel_rfl)) (by unfold Func.isWrapper; first | (rw [if_pos (by decide +kernel)]; kernel_rfl) | (rw [if_neg (by decide +kernel)]; exact ⟨rfl, rfl⟩))
    (fun os started H enc _ => lifted os started H enc)

theorem proved : Rows.ShiftBackSaid := over
#print axioms proved
end Go.Proofs.Ytjnmlbenhkhcbaa.shiftBack
