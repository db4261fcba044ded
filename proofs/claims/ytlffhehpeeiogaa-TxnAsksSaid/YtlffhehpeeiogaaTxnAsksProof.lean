/- For every list of things and every list of questions the law TxnAsks answers true: Holds and All answer what the document asks. No condition. -/
import Derived.Deep.RegionHeld3
import Derived.Test.YtlffhehpeeiogaaTxLive
import Derived.Test.YtlffhehpeeiogaaTxRef
import Derived.Test.YtlffhehpeeiogaaTxOpen
import Derived.Test.YtlffhehpeeiogaaRows
namespace Go.Proofs.Ytlffhehpeeiogaa.txnAsks
open Go.ChangeShapes Go.WideShapes Go.ChangeAt Go.RowKit Go.Proofs.Ytlffhehpeeiogaa.P
open Go.ChangeMaps (open_string shut_string)
set_option linter.unusedVariables false
set_option linter.unusedSimpArgs false
set_option maxHeartbeats 2000000
set_option maxRecDepth 100000

theorem walk (w : World) (A0 : Option Addr) (n0 c0 : Nat) (l0 : List KV) (A1 : Option Addr) (n1 c1 : Nat) (l1 : List Cm) (k0 : KVs w A0 n0 c0 l0) (k1 : Cms w A1 n1 c1 l1) :
    Calls Try.prog 9 #[.slice A0 n0 c0, .slice A1 n1 c1] w fun e w' => e = .returned (.bool true) ∧ Below w.heap.size w w' := by
  have hlen := k0.len
  have K0 := Lib.hid k0; have K1 := Lib.hid k1
  have hm := Nat.le_trans k1.row.le k1.row.max
  unfold maxLen at hm
  clear k0 k1
  cases hf : fewB 40 l0 with
  | false =>
    have HF := Lib.hid hf; clear hf hlen
    go_enter Try.func9, Try.ntmps9
    go_wp2_with fail
    refine (few_any A0 n0 c0 l0 40 _ K0.out (by omega)).mono ?_; rintro e w1 ⟨rfl, rfl⟩
    rw [HF.out]
    go_wp2_with fail
    refine (live_any _).mono ?_; rintro e w2 ⟨rfl, hb⟩
    have BB := Lib.hid hb; clear hb
    go_wp2
    go_ret
    exact ⟨rfl, BB.out⟩
  | true =>
    have HF := Lib.hid hf
    have HN : Hid (n0 ≤ 1000000) := Lib.hid (by unfold fewB at hf; simp only [Bool.and_eq_true, decide_eq_true_eq] at hf; omega)
    clear hf hlen
    have e5 : (allB l0 l1 == allB l0 l1) = true := by simp
    have e6 : ∀ x, (holdsB l0 x != holdsB l0 x) = false := by simp
    by_cases h20 : n1 ≤ 20
    case neg =>
      clear e5 e6
      go_enter Try.func9, Try.ntmps9
      go_wp2_with fail
      refine (few_any A0 n0 c0 l0 40 _ K0.out (by omega)).mono ?_; rintro e w1 ⟨rfl, rfl⟩
      rw [HF.out]
      go_wp2_with fail
      refine (live_any _).mono ?_; rintro e w2 ⟨rfl, hb⟩
      have BB := Lib.hid hb; clear hb
      go_wp2
      go_ret
      exact ⟨rfl, BB.out⟩
    go_enter Try.func9, Try.ntmps9
    go_wp2_with fail
    refine (few_any A0 n0 c0 l0 40 _ K0.out (by omega)).mono ?_; rintro e w1 ⟨rfl, rfl⟩
    rw [HF.out]
    go_wp2
    go_loopw [5] (fun i wr => ∃ k q : Nat, k ≤ n1 ∧ i = .int .i64 k ∧ wr = w.drewN q) (fun i _ => n1 - (intOf i).toNat)
    case atStart => exact ⟨0, 0, Nat.zero_le _, rfl, rfl⟩
    case round =>
      obtain ⟨k, q, hk, rfl, rfl⟩ := hrel
      by_cases hlt : k < n1
      · obtain ⟨a, x, rfl, hbl, hx, hok, hc⟩ := K1.out.at_ hlt
        obtain ⟨g0, g1, g2, g3, g4⟩ := hc
        have z0 := hok.key; have z1 := hok.val
        unfold maxLen at z0 z1
        clear hx hbl hok
        by_cases hs : x.key.size ≤ 60
        · by_cases hv : x.val.size ≤ 60
          · go_wp2
            go_roundw
            case rel => exact ⟨k + 1, _, by omega, by go_num, rfl⟩
            case measure => simp [intOf]; omega
          · go_wp2_with fail
            refine (live_any _).mono ?_; rintro e w2 ⟨rfl, hb⟩
            have BB := Lib.hid (then_ (below_drewN (Below.refl _ _) _) hb); clear hb
            go_wp2
            go_ret
            exact ⟨rfl, BB.out⟩
        · go_wp2_with fail
          refine (live_any _).mono ?_; rintro e w2 ⟨rfl, hb⟩
          have BB := Lib.hid (then_ (below_drewN (Below.refl _ _) _) hb); clear hb
          go_wp2
          go_ret
          exact ⟨rfl, BB.out⟩
      · obtain rfl : n1 = k := by omega
        obtain ⟨wz, hwz⟩ : ∃ wz, wz = w.drewN q := ⟨_, rfl⟩
        rw [← hwz]
        have SZ : Hid (Below w.heap.size w wz) := Lib.hid (by rw [hwz]; exact below_drewN (Below.refl _ _) _)
        clear hwz hlt hk
        have KZ := Lib.hid (K0.out.keep SZ.out); have CZ := Lib.hid (K1.out.keep SZ.out)
        go_wp2
        go_loopw [6] (fun i wr => ∃ k : Nat, k ≤ n1 ∧ i = .int .i64 k ∧ Below wz.heap.size wz wr) (fun i _ => n1 - (intOf i).toNat)
        case atStart => exact ⟨0, Nat.zero_le _, rfl, Below.refl _ _⟩
        case round =>
          obtain ⟨k, hk, rfl, hbel⟩ := hrel
          have HB := Lib.hid hbel; clear hbel
          have KW := Lib.hid (KZ.out.keep HB.out)
          by_cases hlt : k < n1
          · obtain ⟨a, x, rfl, hbl, hx, hok, hc⟩ := (CZ.out.keep HB.out).at_ hlt
            obtain ⟨g0, g1, g2, g3, g4⟩ := hc
            have hbk : (a.add (k * 5)).block < wr.heap.size := by rw [show (a.add (k * 5)).block = a.block by unfold Addr.add; split <;> rfl]; exact hbl
            have e7 := e6 x
            clear hx hok hbl
            have tk1 : True := trivial
            go_wp2
            go_region_held3 (fun w' => w'.cell? (a.add (k * 5)) = some (.string x.key) ∧ w'.cell? ⟨(a.add (k * 5)).block, (a.add (k * 5)).off + 1, none⟩ = some (.int .i64 x.what) ∧ w'.cell? ⟨(a.add (k * 5)).block, (a.add (k * 5)).off + 2, none⟩ = some (.int .i64 x.how) ∧ w'.cell? ⟨(a.add (k * 5)).block, (a.add (k * 5)).off + 3, none⟩ = some (.int .i64 x.n) ∧ w'.cell? ⟨(a.add (k * 5)).block, (a.add (k * 5)).off + 4, none⟩ = some (.string x.val)) (go_keep) (first
              | (go_at_call 33; have _t := tk1; clear _t tk1; (with_reducible refine (holds_any A0 n0 c0 l0 x _ (KW.out.keep (new_drew wr)) HN.out).mono ?_); rintro e w4 ⟨rfl, hb⟩; have H4 := Lib.hid (then_ (new_drew wr) hb); clear hb; have d40 := (H4.out.cell (p := a.add (k * 5)) hbk).trans g0; have d41 := (H4.out.cell (p := ⟨(a.add (k * 5)).block, (a.add (k * 5)).off + 1, none⟩) hbk).trans g1; have d42 := (H4.out.cell (p := ⟨(a.add (k * 5)).block, (a.add (k * 5)).off + 2, none⟩) hbk).trans g2; have d43 := (H4.out.cell (p := ⟨(a.add (k * 5)).block, (a.add (k * 5)).off + 3, none⟩) hbk).trans g3; have d44 := (H4.out.cell (p := ⟨(a.add (k * 5)).block, (a.add (k * 5)).off + 4, none⟩) hbk).trans g4; have tk2r : True := trivial)
              | (go_at_call 34; have _t := tk1; clear _t tk1; (with_reducible refine (holds_ref A0 n0 c0 l0 x _ (KW.out.keep (new_drew wr)) HN.out).mono ?_); rintro e w4 ⟨rfl, hb⟩; have H4 := Lib.hid (then_ (new_drew wr) hb); clear hb; have d40 := (H4.out.cell (p := a.add (k * 5)) hbk).trans g0; have d41 := (H4.out.cell (p := ⟨(a.add (k * 5)).block, (a.add (k * 5)).off + 1, none⟩) hbk).trans g1; have d42 := (H4.out.cell (p := ⟨(a.add (k * 5)).block, (a.add (k * 5)).off + 2, none⟩) hbk).trans g2; have d43 := (H4.out.cell (p := ⟨(a.add (k * 5)).block, (a.add (k * 5)).off + 3, none⟩) hbk).trans g3; have d44 := (H4.out.cell (p := ⟨(a.add (k * 5)).block, (a.add (k * 5)).off + 4, none⟩) hbk).trans g4; have tk2h : True := trivial)
              | (go_at_call 33; have _t := tk2h; clear _t tk2h; (with_reducible refine (holds_any A0 n0 c0 l0 x _ (KW.out.keep H4.out) HN.out).mono ?_); rintro e w5 ⟨rfl, hb⟩; have H5 := Lib.hid (then_ H4.out hb); clear hb; have d50 := (H5.out.cell (p := a.add (k * 5)) hbk).trans g0; have d51 := (H5.out.cell (p := ⟨(a.add (k * 5)).block, (a.add (k * 5)).off + 1, none⟩) hbk).trans g1; have d52 := (H5.out.cell (p := ⟨(a.add (k * 5)).block, (a.add (k * 5)).off + 2, none⟩) hbk).trans g2; have d53 := (H5.out.cell (p := ⟨(a.add (k * 5)).block, (a.add (k * 5)).off + 3, none⟩) hbk).trans g3; have d54 := (H5.out.cell (p := ⟨(a.add (k * 5)).block, (a.add (k * 5)).off + 4, none⟩) hbk).trans g4)
              | (go_at_call 34; have _t := tk2r; clear _t tk2r; (with_reducible refine (holds_ref A0 n0 c0 l0 x _ (KW.out.keep H4.out) HN.out).mono ?_); rintro e w5 ⟨rfl, hb⟩; have H5 := Lib.hid (then_ H4.out hb); clear hb; have d50 := (H5.out.cell (p := a.add (k * 5)) hbk).trans g0; have d51 := (H5.out.cell (p := ⟨(a.add (k * 5)).block, (a.add (k * 5)).off + 1, none⟩) hbk).trans g1; have d52 := (H5.out.cell (p := ⟨(a.add (k * 5)).block, (a.add (k * 5)).off + 2, none⟩) hbk).trans g2; have d53 := (H5.out.cell (p := ⟨(a.add (k * 5)).block, (a.add (k * 5)).off + 3, none⟩) hbk).trans g3; have d54 := (H5.out.cell (p := ⟨(a.add (k * 5)).block, (a.add (k * 5)).off + 4, none⟩) hbk).trans g4))
            all_goals
              have BN := Lib.hid (then_ HB.out H5.out)
              go_wp2
              go_roundw
              case rel => exact ⟨k + 1, by omega, by go_num, BN.out⟩
              case measure => simp [intOf]; omega
          · obtain rfl : n1 = k := by omega
            have BW := Lib.hid (then_ SZ.out HB.out)
            have CW := Lib.hid (CZ.out.keep HB.out)
            go_wp2_with fail
            refine (all_any A0 n0 c0 l0 A1 n1 c1 l1 _ KW.out CW.out HN.out).mono ?_; rintro e w4 ⟨rfl, hb⟩
            have S4 := Lib.hid hb; clear hb
            go_wp2_with fail
            refine (all_ref A0 n0 c0 l0 A1 n1 c1 l1 _ (KW.out.keep S4.out) (CW.out.keep S4.out) HN.out).mono ?_; rintro e w5 ⟨rfl, hb⟩
            have S5 := Lib.hid (then_ S4.out hb); clear hb
            go_wp2_with fail
            refine (live_any _).mono ?_; rintro e w6 ⟨rfl, hb⟩
            have BB := Lib.hid (then_ BW.out (then_ S5.out hb)); clear hb
            go_wp2
            go_ret
            exact ⟨rfl, BB.out⟩

theorem own : ownKnob Try.prog.godebug = none := by kernel_rfl
theorem laidOut : laidOutB Try.prog = true := by kernel_rfl

set_option maxRecDepth 100000 in
theorem lifted (os : Os) (started : os.Started) (H : Type) (enc : TypeId × Value → H) :
    ReturnsInHanded {} Try.checked os 9 .any (Rows.txnAsksSpec.pre6 enc Try.prog Try.f9 Rows.txnAsksRow.domain false) (Rows.txnAsksSpec.post enc Try.prog Try.f9 false true false false) := by
  refine returnsInHanded_of_change (C := Try.checked) own started (by kernel_rfl) Try.func9
    (ChangeSpec.witness6 (enc := enc) (C := Try.checked) false ⟨#[], #[.slice none 0 0, .slice none 0 0], []⟩ 8 (by kernel_rfl) (by kernel_rfl) (by kernel_rfl) (by kernel_rfl)) ?_
  intro W base args ds gs before hval0 hW hcnd _
  have hval : ∀ (j : Nat) t v, Try.f9.params[j]? = some t → args[j]? = some v → Value.okWide Try.prog W .any base t v := hval0
  have hW' := hW
  obtain ⟨p, q, hA0, hV, rfl, hfz, hnd⟩ := hW
  have hA : DataW.TrodAll enc Try.prog W 0 (fun _ => true) true Try.f9.params.toList args.toList ds p := hA0
  rw [Try.params9] at hA hval
  obtain ⟨v0, vs0, d0, ds0, p0, q0, hargs, rfl, rfl, h0, r0⟩ := trodAll_cons hA
  obtain ⟨v1, vs1, d1, ds1, p1, q1, rfl, rfl, rfl, h1, r1⟩ := trodAll_cons r0
  obtain ⟨rfl, rfl, rfl⟩ := trodAll_nil r1
  obtain rfl : args = #[v0, v1] := by cases args; simp_all
  obtain ⟨rfl, rfl⟩ := trodVars_none hV
  obtain ⟨A0, n0, c0, l0, rfl, k0⟩ := open_kvs (hval 0 22 v0 rfl rfl) h0
  obtain ⟨A1, n1, c1, l1, rfl, k1⟩ := open_cms (hval 1 50 v1 rfl rfl) h1
  clear hA0 hval0
  refine (walk W A0 n0 c0 l0 A1 n1 c1 l1 k0 k1).mono fun e W' ⟨he, bel⟩ => ?_
  subst he
  exact ⟨_, rfl, _, _, _, [], _, [], hW', trodAll_mk1 (shut_bool Try.underlying4 _), (trodAll_cons_mk (Below.trod laidOut (by kernel_rfl) (of_decide_eq_true (by kernel_rfl)) h0 bel (fun x hx => hW'.lt x (by simp [hx]))) (trodAll_cons_mk (Below.trod laidOut (by kernel_rfl) (of_decide_eq_true (by kernel_rfl)) h1 bel (fun x hx => hW'.lt x (by simp [hx]))) trodAll_mk0)), rfl, bel.frame _, fun h => by cases h⟩

theorem over : Rows.txnAsksRow.holds Try.pinned (OpenSpec.ofChange Rows.txnAsksSpec) :=
  OpenClaim.holds_of_wide 9 Try.f9 rfl rfl rfl rfl rfl rfl rfl ⟨rfl, rfl, rfl, rfl, rfl⟩ rfl rfl rfl rfl rfl (by kernel_rfl) Try.func9 (by kernel_rfl)
    (of_decide_eq_true (by kernel_rfl)) (by unfold Func.isWrapper; first | (rw [if_pos (by decide +kernel)]; kernel_rfl) | (rw [if_neg (by decide +kernel)]; exact ⟨rfl, rfl⟩))
    (fun os started H enc _ => lifted os started H enc)

theorem proved : Rows.TxnAsksSaid := over
#print axioms proved
end Go.Proofs.Ytlffhehpeeiogaa.txnAsks
