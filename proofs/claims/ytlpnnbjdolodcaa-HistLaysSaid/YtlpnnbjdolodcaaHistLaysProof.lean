/- For every list of things, every list of events and every revision the law HistLays answers true: Fold and Lay answer what the document asks. No condition. -/
import Derived.Test.YtlpnnbjdolodcaaKvOpen
import Derived.Test.YtlpnnbjdolodcaaHistLive
import Derived.Test.YtlpnnbjdolodcaaRows
import Derived.Deep.RegionHeld3
namespace Go.Proofs.Ytlpnnbjdolodcaa.histLays
open Go.ChangeShapes Go.WideShapes Go.ChangeAt Go.RowKit Go.Proofs.Ytlpnnbjdolodcaa.P
open Go.ChangeMaps (open_string shut_string)
set_option linter.unusedVariables false
set_option maxHeartbeats 2000000
set_option maxRecDepth 100000

theorem walk (w : World) (A0 : Option Addr) (n0 c0 : Nat) (l0 : List KV) (A1 : Option Addr) (n1 c1 : Nat) (l1 : List Ev) (a2 : Int) (k0 : KVs w A0 n0 c0 l0) (k1 : Evs w A1 n1 c1 l1) (w2 : (Lit.int .i64 a2).wf = true) :
    Calls Try.prog 4 #[.slice A0 n0 c0, .slice A1 n1 c1, .int .i64 a2] w fun e w' => e = .returned (.bool true) ∧ Below w.heap.size w w' := by
  have K := Lib.hid k0
  have E := Lib.hid k1
  have hlen := k0.len
  have hlen1 := k1.len
  clear k0 k1 w2
  cases hf : fewB 40 l0 with
  | false =>
    have HF := Lib.hid hf
    clear hf
    go_enter Try.func4, Try.ntmps4
    go_wp2_with fail
    refine (few_any A0 n0 c0 l0 40 _ K.out (by omega)).mono ?_; rintro e w' ⟨rfl, rfl⟩
    rw [HF.out]
    go_wp2_with fail
    refine (live_any _).mono ?_; rintro e w1 ⟨rfl, hb⟩
    have S1 := Lib.hid (hb)
    have B1 := Lib.hid (S1.out)
    clear hb S1 
    go_wp2
    go_ret
    exact ⟨rfl, B1.out⟩
  | true =>
    have HF := Lib.hid hf
    have hn : n0 ≤ 40 := by simp only [fewB, Bool.and_eq_true, decide_eq_true_eq] at hf; omega
    clear hf hlen
    cases hg : fewE 40 l1 with
    | false =>
      have HG := Lib.hid hg
      clear hg
      go_enter Try.func4, Try.ntmps4
      go_wp2_with fail
      refine (few_any A0 n0 c0 l0 40 _ K.out (by omega)).mono ?_; rintro e w' ⟨rfl, rfl⟩
      rw [HF.out]
      go_wp2_with fail
      refine (fewe_any A1 n1 c1 l1 40 _ E.out (by omega)).mono ?_; rintro e w' ⟨rfl, rfl⟩
      rw [HG.out]
      go_wp2_with fail
      refine (live_any _).mono ?_; rintro e w1 ⟨rfl, hb⟩
      have S1 := Lib.hid (hb)
      have B1 := Lib.hid (S1.out)
      clear hb S1 
      go_wp2
      go_ret
      exact ⟨rfl, B1.out⟩
    | true =>
      have HG := Lib.hid hg
      have hn1 : n1 ≤ 40 := by simp only [fewE, Bool.and_eq_true, decide_eq_true_eq] at hg; omega
      clear hg hlen1
      go_enter Try.func4, Try.ntmps4
      go_wp2_with fail
      refine (few_any A0 n0 c0 l0 40 _ K.out (by omega)).mono ?_; rintro e w' ⟨rfl, rfl⟩
      rw [HF.out]
      go_wp2_with fail
      refine (fewe_any A1 n1 c1 l1 40 _ E.out (by omega)).mono ?_; rintro e w' ⟨rfl, rfl⟩
      rw [HG.out]
      go_wp2_with fail
      refine (fold_any A0 n0 c0 l0 A1 n1 c1 l1 a2 _ K.out E.out (by omega)).mono ?_; rintro e w1 ⟨A3, n3, c3, rfl, h3, hb1⟩
      have F3 := Lib.hid h3
      have B1 := Lib.hid hb1
      clear h3 hb1
      go_wp2_with fail
      refine (fold_ref A0 n0 c0 l0 A1 n1 c1 l1 a2 _ (K.out.keep B1.out) (E.out.keep B1.out) (by omega)).mono ?_; rintro e w2 ⟨A4, n4, c4, rfl, h4, hb2⟩
      obtain rfl : n4 = n3 := h4.len.symm.trans F3.out.len
      have F4 := Lib.hid h4
      have F3b := Lib.hid (F3.out.keep hb2)
      have B2 := Lib.hid (then_ B1.out hb2)
      have hn4 : Hid (n4 ≤ 1000000) := Lib.hid (by have h1 := foldL_len l1 a2 l0; have h2 := h4.len; have h3 := K.out.len; have h5 := E.out.len; omega)
      clear h4 hb2
      go_wp2_with fail
      refine (kvs_same A3 A4 n4 c3 c4 _ _ F3b.out F4.out hn4.out).mono ?_; rintro e w3 ⟨rfl, hb3⟩
      have B3 := Lib.hid (then_ B2.out hb3)
      clear hb3
      go_wp2
      go_loopw [7] (fun i wr => ∃ j : Nat, j ≤ n1 ∧ i = .int .i64 j ∧ Below w.heap.size w wr) (fun i _ => n1 - (intOf i).toNat)
      case atStart => exact ⟨0, Nat.zero_le _, rfl, B3.out⟩
      case round =>
        obtain ⟨j, hj, rfl, hbel⟩ := hrel
        have HB := Lib.hid hbel
        clear hbel
        by_cases hlt : j < n1
        · obtain ⟨a, x, rfl, hbl, hx, hok, hc⟩ := (E.out.keep HB.out).at_ hlt
          obtain ⟨d0, d1, d2, d3, d4, d5, d6, d7⟩ := hc
          have HX := Lib.hid hok.kv
          have hlt1 : (j : Int) < n1 := by omega
          have hab : (a.add (j * 8)).block < wr.heap.size := by rw [P.block_add]; exact hbl
          clear hok hx hbl d0 d1
          go_wp2
          go_region_held3 (fun w' => w'.cell? ⟨(a.add (j * 8)).block, (a.add (j * 8)).off + 2, none⟩ = some (.string x.kv.key) ∧ w'.cell? ⟨(a.add (j * 8)).block, (a.add (j * 8)).off + 3, none⟩ = some (.string x.kv.val) ∧ w'.cell? ⟨(a.add (j * 8)).block, (a.add (j * 8)).off + 4, none⟩ = some (.int .i64 x.kv.cre) ∧ w'.cell? ⟨(a.add (j * 8)).block, (a.add (j * 8)).off + 5, none⟩ = some (.int .i64 x.kv.mod) ∧ w'.cell? ⟨(a.add (j * 8)).block, (a.add (j * 8)).off + 6, none⟩ = some (.int .i64 x.kv.ver) ∧ w'.cell? ⟨(a.add (j * 8)).block, (a.add (j * 8)).off + 7, none⟩ = some (.int .i64 x.kv.lea)) (go_keep) (first
            | (go_at_call 23; refine (Lay_any A0 n0 c0 l0 x.kv _ ((K.out.keep HB.out).keep (Below.drew (Below.refl _ _))) HX.out (by omega)).mono ?_; rintro e w4 ⟨A5, n5, c5, rfl, h5, hb4⟩; have L5 := Lib.hid h5; have HB4 : Hid (Below wr.heap.size wr w4) := Lib.hid (Below.trans (Below.drew (Below.refl _ _)) hb4); clear h5 hb4; obtain ⟨hc4, hf4⟩ := bcell HB4.out)
            | (go_at_call 24; refine (lay_ref A0 n0 c0 l0 x.kv _ ((K.out.keep HB.out).keep HB4.out) HX.out (by omega)).mono ?_; rintro e w5 ⟨A6, n6, c6, rfl, h6, hb5⟩; obtain rfl := h6.len.symm.trans L5.out.len; have L6 := Lib.hid h6; have L5b := Lib.hid (L5.out.keep hb5); have HB5 := Lib.hid (then_ HB4.out hb5); clear h6 hb5 hc4 hf4; obtain ⟨hc5, hf5⟩ := bcell HB5.out)
            | (go_at_call 15; refine (kvs_same A5 A6 _ c5 c6 _ _ L5b.out L6.out (by have h1 := layL_len l0 x.kv; have h2 := L6.out.len; have h3 := K.out.len; omega)).mono ?_; rintro e w6 ⟨rfl, hb6⟩; have HB6 := Lib.hid (then_ HB5.out hb6); clear hb6 hc5 hf5; obtain ⟨hc6, hf6⟩ := bcell HB6.out))
          all_goals
            go_wp2
            go_roundw
            case rel => exact ⟨j + 1, by omega, by go_num, then_ HB.out HB6.out⟩
            case measure => simp [intOf]; omega
        · have e : j = n1 := by omega
          subst e
          go_wp2_with fail
          refine (live_any _).mono ?_; rintro e w7 ⟨rfl, hb⟩
          have BL := Lib.hid (then_ HB.out hb)
          clear hb
          go_wp2
          go_ret
          exact ⟨rfl, BL.out⟩

theorem own : ownKnob Try.prog.godebug = none := by kernel_rfl
theorem laidOut : laidOutB Try.prog = true := by kernel_rfl

set_option maxRecDepth 100000 in
theorem lifted (os : Os) (started : os.Started) (H : Type) (enc : TypeId × Value → H) :
    ReturnsInHanded {} Try.checked os 4 .any (Rows.histLaysSpec.pre6 enc Try.prog Try.f4 Rows.histLaysRow.domain false) (Rows.histLaysSpec.post enc Try.prog Try.f4 false true false false) := by
  refine returnsInHanded_of_change (C := Try.checked) own started (by kernel_rfl) Try.func4
    (ChangeSpec.witness6 (enc := enc) (C := Try.checked) false ⟨#[], #[.slice none 0 0, .slice none 0 0, (.int .i64 0)], []⟩ 8 (by kernel_rfl) (by kernel_rfl) (by kernel_rfl) (by kernel_rfl)) ?_
  intro W base args ds gs before hval0 hW hcnd _
  have hval : ∀ (j : Nat) t v, Try.f4.params[j]? = some t → args[j]? = some v → Value.okWide Try.prog W .any base t v := hval0
  have hW' := hW
  obtain ⟨p, q, hA0, hV, rfl, hfz, hnd⟩ := hW
  have hA : DataW.TrodAll enc Try.prog W 0 (fun _ => true) true Try.f4.params.toList args.toList ds p := hA0
  rw [Try.params4] at hA hval
  obtain ⟨v0, vs0, d0, ds0, p0, q0, hargs, rfl, rfl, h0, r0⟩ := trodAll_cons hA
  obtain ⟨v1, vs1, d1, ds1, p1, q1, rfl, rfl, rfl, h1, r1⟩ := trodAll_cons r0
  obtain ⟨v2, vs2, d2, ds2, p2, q2, rfl, rfl, rfl, h2, r2⟩ := trodAll_cons r1
  obtain ⟨rfl, rfl, rfl⟩ := trodAll_nil r2
  obtain rfl : args = #[v0, v1, v2] := by cases args; simp_all
  obtain ⟨rfl, rfl⟩ := trodVars_none hV
  obtain ⟨A0, n0, c0, l0, rfl, k0⟩ := open_kvs (hval 0 22 v0 rfl rfl) h0
  obtain ⟨A1, n1, c1, l1, rfl, k1⟩ := open_evs (hval 1 33 v1 rfl rfl) h1
  obtain ⟨a2, rfl, rfl, rfl, w2⟩ := open_int Try.underlying3 (hval 2 3 v2 rfl rfl) h2
  clear hA0 hval0
  refine (walk W A0 n0 c0 l0 A1 n1 c1 l1 a2 k0 k1 w2).mono fun e W' ⟨he, bel⟩ => ?_
  subst he
  exact ⟨_, rfl, _, _, _, [], _, [], hW', trodAll_mk1 (shut_bool Try.underlying4 _), (trodAll_cons_mk (Below.trod laidOut (by kernel_rfl) (of_decide_eq_true (by kernel_rfl)) h0 bel (fun x hx => hW'.lt x (by simp [hx]))) (trodAll_cons_mk (Below.trod laidOut (by kernel_rfl) (of_decide_eq_true (by kernel_rfl)) h1 bel (fun x hx => hW'.lt x (by simp [hx]))) (trodAll_cons_mk (shut_int Try.underlying3 w2) trodAll_mk0))), rfl, bel.frame _, fun h => by cases h⟩

theorem over : Rows.histLaysRow.holds Try.pinned (OpenSpec.ofChange Rows.histLaysSpec) :=
  OpenClaim.holds_of_wide 4 Try.f4 rfl rfl rfl rfl rfl rfl rfl ⟨rfl, rfl, rfl, rfl, rfl⟩ rfl rfl rfl rfl rfl (by kernel_rfl) Try.func4 (by kernel_rfl)
    (of_decide_eq_true (by kernel_rfl)) (by unfold Func.isWrapper; first | (rw [if_pos (by decide +kernel)]; kernel_rfl) | (rw [if_neg (by decide +kernel)]; exact ⟨rfl, rfl⟩))
    (fun os started H enc _ => lifted os started H enc)

theorem proved : Rows.HistLaysSaid := over
#print axioms proved
end Go.Proofs.Ytlpnnbjdolodcaa.histLays
