/- For every bag and all places the law BagMoves answers true: however messages are taken, till the bag is empty, just those that were in it come, as often as they were. No condition. -/
import Derived.Test.YtdmhpnobdflkfaaBgLive
import Derived.Test.YtdmhpnobdflkfaaBgOpen
import Derived.Test.YtdmhpnobdflkfaaKeyTwo
import Derived.Test.YtdmhpnobdflkfaaRows
namespace Go.Proofs.Ytdmhpnobdflkfaa.bagMoves
open Go.ChangeShapes Go.WideShapes Go.ChangeAt Go.RowKit Go.Proofs.Ytdmhpnobdflkfaa.P
open Go.ChangeMaps (open_string shut_string)
set_option linter.unusedVariables false
set_option linter.unusedSimpArgs false
set_option maxHeartbeats 2000000
set_option maxRecDepth 100000

theorem no_few (w : World) (A0 : Option Addr) (n0 c0 : Nat) (l0 : List Msg) (A1 : Option Addr) (n1 c1 : Nat) (l1 : List Int) (k0 : Ms w A0 n0 c0 l0) (k1 : Is w A1 n1 c1 l1 ∧ ∀ z ∈ l1, inI z) (hf : fewB2 n0 0 = false) :
    Calls Try.prog 13 #[.slice A0 n0 c0, .slice A1 n1 c1] w fun e w' => e = .returned (.bool true) ∧ Below w.heap.size w w' := by
  have HF := Lib.hid hf; clear hf k1
  go_enter Try.func13, Try.ntmps13
  go_wp2_with fail
  refine (few_msg A0 none n0 c0 0 0 _).mono ?_; rintro e w' ⟨rfl, rfl⟩
  rw [HF.out]
  go_wp2_with fail
  refine (live_any _).mono ?_; rintro e w1 ⟨rfl, hb⟩
  have S_1 := Lib.hid hb; clear hb
  have B_2 := Lib.hid (S_1.out)
  clear S_1
  go_wp2
  go_ret
  exact ⟨rfl, B_2.out⟩
theorem no_places (w : World) (A0 : Option Addr) (n0 c0 : Nat) (l0 : List Msg) (A1 : Option Addr) (n1 c1 : Nat) (l1 : List Int) (k0 : Ms w A0 n0 c0 l0) (k1 : Is w A1 n1 c1 l1 ∧ ∀ z ∈ l1, inI z) (hf : fewB2 n0 0 = true) (hn : 40 < n1) :
    Calls Try.prog 13 #[.slice A0 n0 c0, .slice A1 n1 c1] w fun e w' => e = .returned (.bool true) ∧ Below w.heap.size w w' := by
  have HF := Lib.hid hf; clear hf k1
  have hn1 : (40 : Int) < (n1 : Int) := by omega
  go_enter Try.func13, Try.ntmps13
  go_wp2_with fail
  refine (few_msg A0 none n0 c0 0 0 _).mono ?_; rintro e w' ⟨rfl, rfl⟩
  rw [HF.out]
  go_wp2_with fail
  refine (live_any _).mono ?_; rintro e w1 ⟨rfl, hb⟩
  have S_1 := Lib.hid hb; clear hb
  have B_2 := Lib.hid (S_1.out)
  clear S_1
  go_wp2
  go_ret
  exact ⟨rfl, B_2.out⟩
/-- What is left, and what has been taken, are together what there was. -/
structure CntTo (l g r : List Msg) : Prop where
  eq : ∀ p : Msg → Bool, g.countP p + r.countP p = l.countP p
theorem CntTo.more {l g r : List Msg} {k : Nat} {m : Msg} (h : CntTo l g r) (hm : r[k]? = some m) : CntTo l (g ++ [m]) (without r k) := ⟨fun p => by
  have h1 := h.eq p
  have h2 := without_count p hm
  rw [List.countP_append]
  cases hp : p m <;> simp [hp] at h2 ⊢ <;> omega⟩
def cntD (l g : List Msg) (x : Msg) (k : Nat) : Int := ((l.take k).countP (fun y => msgEq y x) : Int) - ((g.take k).countP (fun y => msgEq y x) : Int)
theorem cntD_more {l g : List Msg} {x y z : Msg} {k : Nat} (hy : l[k]? = some y) (hz : g[k]? = some z) : cntD l g x (k + 1) = cntD l g x k + (if msgEq y x = true then 1 else 0) - (if msgEq z x = true then 1 else 0) := by
  unfold cntD
  rw [take_more l k y hy, take_more g k z hz, List.countP_append, List.countP_append]
  cases h1 : msgEq y x <;> cases h2 : msgEq z x <;> simp [h1, h2] <;> omega
theorem cntD_range (l g : List Msg) (x : Msg) (k : Nat) : -(k : Int) ≤ cntD l g x k ∧ cntD l g x k ≤ (k : Int) := by
  unfold cntD
  have h1 : (l.take k).countP (fun y => msgEq y x) ≤ k := Nat.le_trans List.countP_le_length (by rw [List.length_take]; omega)
  have h2 : (g.take k).countP (fun y => msgEq y x) ≤ k := Nat.le_trans List.countP_le_length (by rw [List.length_take]; omega)
  omega
theorem cntD_done {l g : List Msg} {x : Msg} {n : Nat} (h : CntTo l g []) (hl : l.length = n) (hg : g.length = n) : cntD l g x n = 0 := by
  unfold cntD
  rw [take_full _ _ hl, take_full _ _ hg]
  have := h.eq (fun y => msgEq y x)
  simp at this
  omega
theorem fine (w : World) (A0 : Option Addr) (n0 c0 : Nat) (l0 : List Msg) (A1 : Option Addr) (n1 c1 : Nat) (l1 : List Int) (k0 : Ms w A0 n0 c0 l0) (k1 : Is w A1 n1 c1 l1 ∧ ∀ z ∈ l1, inI z) (hf : fewB2 n0 0 = true) (hn : n1 ≤ 40) :
    Calls Try.prog 13 #[.slice A0 n0 c0, .slice A1 n1 c1] w fun e w' => e = .returned (.bool true) ∧ Below w.heap.size w w' := by
  obtain ⟨h0, _⟩ := few_iff.1 hf
  have HF := Lib.hid hf
  have hn1 : ¬ (40 : Int) < (n1 : Int) := by omega
  have HL0 := Lib.hid k0.len
  have K0 := Lib.hid k0; have K1 := Lib.hid k1.1
  clear hf k0 k1
  go_enter Try.func13, Try.ntmps13
  go_wp2_with fail
  refine (few_msg A0 none n0 c0 0 0 _).mono ?_; rintro e w' ⟨rfl, rfl⟩
  rw [HF.out]
  go_wp2
  go_loopw [5, 6, 7] (fun v u i wr => ∃ (j r : Nat) (A : Option Addr) (c : Nat) (lr : List Msg) (B : Option Addr) (d : Nat) (lg : List Msg), j + r = n0 ∧ v = .slice A r c ∧ u = .slice B j d ∧ i = .int .i64 j ∧ Ms wr A r c lr ∧ ownM wr w.heap.size B j d lg ∧ CntTo l0 lg lr ∧ Below w.heap.size w wr) (fun v u i _ => n0 - (intOf i).toNat)
  case atStart => exact ⟨0, n0, A0, c0, l0, none, 0, [], by omega, rfl, rfl, rfl, K0.out, ownG_nil _ _ _ _ _, ⟨fun p => by simp⟩, Below.refl _ _⟩
  case round =>
    rename World => wa
    obtain ⟨j, r, A, c, lr, B, d, lg, hjr, rfl, rfl, rfl, hm, hown, hcnt, hbel⟩ := hrel
    have HM := Lib.hid hm; have HO := Lib.hid hown; have HC := Lib.hid hcnt; have HB := Lib.hid hbel
    have HLR := Lib.hid hm.len
    clear hm hown hcnt hbel
    rcases r with _ | r
    · obtain rfl : j = n0 := by omega
      have hlr : lr = [] := List.eq_nil_of_length_eq_zero HLR.out
      subst hlr
      have HLG := Lib.hid (ownG_len msg_len (by omega) HO.out)
      have HG : Hid (Ms wa B j d lg) := Lib.hid (ownM_ms HO.out)
      have HK0 := Lib.hid (K0.out.keep HB.out)
      have HZ : Hid (∀ x, cntD l0 lg x j = 0) := Lib.hid (fun x => cntD_done HC.out HL0.out HLG.out)
      go_wp2
      go_loopw [12] (fun i wr2 => ∃ k : Nat, k ≤ j ∧ i = .int .i64 k ∧ Below wa.heap.size wa wr2) (fun i _ => j - (intOf i).toNat)
      case atStart => exact ⟨0, Nat.zero_le _, rfl, Below.refl _ _⟩
      case round =>
        rename World => wb
        obtain ⟨k, hk, rfl, hbel⟩ := hrel
        have HB2 := Lib.hid hbel
        clear hbel
        by_cases hlt : k < j
        · obtain ⟨xk, hxk⟩ : ∃ x, l0[k]? = some x := ⟨l0[k]'(by rw [HL0.out]; exact hlt), List.getElem?_eq_getElem _⟩
          have HX := Lib.hid hxk
          clear hxk
          go_wp2
          go_loopw [13, 14] (fun v i wr3 => ∃ h : Nat, h ≤ j ∧ v = .int .i64 (cntD l0 lg xk h) ∧ i = .int .i64 h ∧ Below wa.heap.size wa wr3) (fun _ i _ => j - (intOf i).toNat)
          case atStart => exact ⟨0, Nat.zero_le _, by simp [cntD], rfl, HB2.out⟩
          case round =>
            obtain ⟨h, hh, rfl, rfl, hbel⟩ := hrel
            have HB3 := Lib.hid hbel
            clear hbel
            by_cases hlt2 : h < j
            · obtain ⟨a1, y, rfl, hb1, hy, dy⟩ := (HK0.out.keep HB3.out).at_ hlt2
              obtain ⟨a1', x2, ea, hb1', hx2, dx⟩ := (HK0.out.keep HB3.out).at_ hlt
              obtain rfl := Option.some.inj ea
              obtain rfl : xk = x2 := Option.some.inj (HX.out.symm.trans hx2)
              obtain ⟨a2, z, rfl, hb2, hz, dz⟩ := (HG.out.keep HB3.out).at_ hlt2
              obtain ⟨d0, d1, d2⟩ := dy
              obtain ⟨e0, e1, e2⟩ := dx
              obtain ⟨f0, f1, f2⟩ := dz
              have HS := Lib.hid (cntD_more (x := xk) hy hz)
              obtain ⟨r0, r1⟩ := cntD_range l0 lg xk h
              have q1 := eql_msg y xk
              have q2 := eql_msg z xk
              have ih0 : (0 : Int) ≤ (h : Int) := by omega
              have ih1 : (h : Int) < (j : Int) := by omega
              have ik0 : (0 : Int) ≤ (k : Int) := by omega
              have ik1 : (k : Int) < (j : Int) := by omega
              clear hy hz hx2
              generalize cntD l0 lg xk h = cd at *
              cases h1 : msgEq y xk with
              | true =>
                cases h2 : msgEq z xk with
                | true =>
                  rw [h1] at q1
                  rw [h2] at q2
                  have HT : Hid (cntD l0 lg xk (h + 1) = cd + 1 - 1) := Lib.hid (by rw [HS.out, h1, h2]; simp)
                  clear h1 h2
                  go_wp2
                  go_quiet (fail)
                  go_wp2
                  go_quiet (fail)
                  go_wp2
                  go_roundw
                  case rel => exact ⟨h + 1, by omega, by rw [HT.out]; try go_num, by go_num, below_drewN HB3.out _⟩
                  case measure => simp [intOf]; omega
                | false =>
                  rw [h1] at q1
                  rw [h2] at q2
                  have HT : Hid (cntD l0 lg xk (h + 1) = cd + 1) := Lib.hid (by rw [HS.out, h1, h2]; simp)
                  clear h1 h2
                  go_wp2
                  go_quiet (fail)
                  go_wp2
                  go_quiet (fail)
                  go_wp2
                  go_roundw
                  case rel => exact ⟨h + 1, by omega, by rw [HT.out]; try go_num, by go_num, below_drewN HB3.out _⟩
                  case measure => simp [intOf]; omega
              | false =>
                cases h2 : msgEq z xk with
                | true =>
                  rw [h1] at q1
                  rw [h2] at q2
                  have HT : Hid (cntD l0 lg xk (h + 1) = cd - 1) := Lib.hid (by rw [HS.out, h1, h2]; simp)
                  clear h1 h2
                  go_wp2
                  go_quiet (fail)
                  go_wp2
                  go_quiet (fail)
                  go_wp2
                  go_roundw
                  case rel => exact ⟨h + 1, by omega, by rw [HT.out]; try go_num, by go_num, below_drewN HB3.out _⟩
                  case measure => simp [intOf]; omega
                | false =>
                  rw [h1] at q1
                  rw [h2] at q2
                  have HT : Hid (cntD l0 lg xk (h + 1) = cd) := Lib.hid (by rw [HS.out, h1, h2]; simp)
                  clear h1 h2
                  go_wp2
                  go_quiet (fail)
                  go_wp2
                  go_quiet (fail)
                  go_wp2
                  go_roundw
                  case rel => exact ⟨h + 1, by omega, by rw [HT.out]; try go_num, by go_num, below_drewN HB3.out _⟩
                  case measure => simp [intOf]; omega
            · obtain rfl : h = j := by omega
              rw [HZ.out]
              go_wp2
              go_roundw
              case rel => exact ⟨k + 1, by omega, by go_num, HB3.out⟩
              case measure => simp [intOf]; omega
        · obtain rfl : k = j := by omega
          have BQ := Lib.hid (then_ HB.out HB2.out)
          go_wp2_with fail
          refine (live_any _).mono ?_; rintro e w9 ⟨rfl, hb⟩
          have BB := Lib.hid (then_ BQ.out hb)
          clear hb
          go_wp2
          go_ret
          exact ⟨rfl, BB.out⟩
    · have hr0 : (0 : Int) < ((r : Int) + 1) := by omega
      have hj40 : (j : Int) < 40 := by omega
      by_cases hp : j < n1
      · obtain ⟨a, z, rfl, _, hz, cz⟩ := Is.at_ (K1.out.below HB.out) hp
        have ij0 : (0 : Int) ≤ (j : Int) := by omega
        have ij1 : (j : Int) < (n1 : Int) := by omega
        clear hz
        by_cases hz0 : z < 0
        · have hz0' : ¬ (0 ≤ z) := by omega
          obtain ⟨y, hy⟩ : ∃ y, lr[0]? = some y := ⟨lr[0]'(by rw [HLR.out]; omega), List.getElem?_eq_getElem _⟩
          have hh : hasM lr 0 = true := hasM_iff.2 (by rw [HLR.out]; omega)
          have cT := Lib.hid (take_new A (r + 1) c lr 0 wa HM.out (by omega))
          have hta := has_at hh
          rw [(tk_ok hh).1, (tk_ok hh).2] at cT
          rw [show (0 : Int).toNat = 0 by omega] at cT hta
          rw [hy] at hta
          rw [← Option.some.inj hta] at cT
          have HC2 := Lib.hid (HC.out.more hy)
          have HWL : Hid ((without lr 0).length = r) := Lib.hid (by rw [without_len (by rw [HLR.out]; omega), HLR.out]; rfl)
          clear hy hh hta
          go_wp2_with fail
          refine cT.out.mono ?_; rintro e w1 ⟨A2, m2, c2, rfl, h, hb, hfr⟩
          obtain rfl : m2 = r := h.len.symm.trans HWL.out
          have T1 := Lib.hid (h.keep (new1 w1 (y.obj 42)))
          have M1 := Lib.hid (own_new w1 #[.int .i64 y.frm, .int .i64 y.dst, .string y.body] 42)
          have S1 := Lib.hid (then_ hb (new1 w1 (y.obj 42)))
          have S2 := Lib.hid (then_ S1.out (new1 (w1.alloc (y.obj 42)) (y.obj 42)))
          have B1 := Lib.hid (HB.out.trans (S2.out.mono HB.out.size))
          have HFR := Lib.hid (hfr rfl)
          clear h hb hfr
          obtain ⟨i0, hi0, hz0, hz1, hz2⟩ := info_parts1 msg_info
          obtain ⟨B', d', w', hrn, hown', hb', hgr⟩ := app_rows msg_len (by omega) msg_one Try.underlying35 hi0 hz0 hz1 hz2 rfl (by omega) w.heap.size B j d lg ((w1.alloc (y.obj 42)).alloc (y.obj 42)) (ownG_keep HO.out S2.out) (some ⟨w1.heap.size + 1, 0, none⟩) 1 1 [y] (by
            have h := rows_new msg_len (e := 42) (w1.alloc (y.obj 42)) y _ rfl
            rw [show (w1.alloc (y.obj 42)).heap.size = w1.heap.size + 1 by simp] at h
            exact h) (by omega) B1.out.size
          have HO2 := Lib.hid hown'
          have HB2 := Lib.hid (B1.out.trans hb')
          have T2 : Hid (Ms w' A2 m2 c2 _) := Lib.hid ⟨(T1.out.keep (new1 _ (y.obj 42))).row.keep hgr (fun a ha hh => by have h1 := HFR.out a ha; have h2 := (HO.out.lt a.block hh.symm).2; omega)⟩
          have m0 := M1.out.cell 0 _ rfl
          have m1 := M1.out.cell 1 _ rfl
          have m2_ := M1.out.cell 2 _ rfl
          clear hown' hb' hgr hi0 hz0 hz1 hz2
          go_wp2_with (at_builtin; refine wpList_append_eq _ rfl (.tmp 75) (.tmp 77) _ _ rfl _ _ rfl rfl hrn ?_)
          go_roundw
          case rel => exact ⟨j + 1, m2, A2, c2, _, B', d', _, by omega, rfl, rfl, by go_num, T2.out, HO2.out, HC2.out, HB2.out⟩
          case measure => simp [intOf]; omega
        · by_cases hz1 : z < (r : Int) + 1
          · obtain ⟨t, rfl⟩ : ∃ t : Nat, z = (t : Int) := ⟨z.toNat, by omega⟩
            obtain ⟨y, hy⟩ : ∃ y, lr[t]? = some y := ⟨lr[t]'(by rw [HLR.out]; omega), List.getElem?_eq_getElem _⟩
            have hh : hasM lr (t : Int) = true := hasM_iff.2 (by rw [HLR.out]; omega)
            have cT := Lib.hid (take_new A (r + 1) c lr (t : Int) wa HM.out (by omega))
            have hta := has_at hh
            rw [(tk_ok hh).1, (tk_ok hh).2] at cT
            rw [show ((t : Int) : Int).toNat = t by omega] at cT hta
            rw [hy] at hta
            rw [← Option.some.inj hta] at cT
            have HC2 := Lib.hid (HC.out.more hy)
            have HWL : Hid ((without lr t).length = r) := Lib.hid (by rw [without_len (by rw [HLR.out]; omega), HLR.out]; rfl)
            clear hy hh hta
            go_wp2_with fail
            refine cT.out.mono ?_; rintro e w1 ⟨A2, m2, c2, rfl, h, hb, hfr⟩
            obtain rfl : m2 = r := h.len.symm.trans HWL.out
            have T1 := Lib.hid (h.keep (new1 w1 (y.obj 42)))
            have M1 := Lib.hid (own_new w1 #[.int .i64 y.frm, .int .i64 y.dst, .string y.body] 42)
            have S1 := Lib.hid (then_ hb (new1 w1 (y.obj 42)))
            have S2 := Lib.hid (then_ S1.out (new1 (w1.alloc (y.obj 42)) (y.obj 42)))
            have B1 := Lib.hid (HB.out.trans (S2.out.mono HB.out.size))
            have HFR := Lib.hid (hfr rfl)
            clear h hb hfr
            obtain ⟨i0, hi0, hz0, hz1, hz2⟩ := info_parts1 msg_info
            obtain ⟨B', d', w', hrn, hown', hb', hgr⟩ := app_rows msg_len (by omega) msg_one Try.underlying35 hi0 hz0 hz1 hz2 rfl (by omega) w.heap.size B j d lg ((w1.alloc (y.obj 42)).alloc (y.obj 42)) (ownG_keep HO.out S2.out) (some ⟨w1.heap.size + 1, 0, none⟩) 1 1 [y] (by
              have h := rows_new msg_len (e := 42) (w1.alloc (y.obj 42)) y _ rfl
              rw [show (w1.alloc (y.obj 42)).heap.size = w1.heap.size + 1 by simp] at h
              exact h) (by omega) B1.out.size
            have HO2 := Lib.hid hown'
            have HB2 := Lib.hid (B1.out.trans hb')
            have T2 : Hid (Ms w' A2 m2 c2 _) := Lib.hid ⟨(T1.out.keep (new1 _ (y.obj 42))).row.keep hgr (fun a ha hh => by have h1 := HFR.out a ha; have h2 := (HO.out.lt a.block hh.symm).2; omega)⟩
            have m0 := M1.out.cell 0 _ rfl
            have m1 := M1.out.cell 1 _ rfl
            have m2_ := M1.out.cell 2 _ rfl
            clear hown' hb' hgr hi0 hz0 hz1 hz2
            go_wp2_with (at_builtin; refine wpList_append_eq _ rfl (.tmp 75) (.tmp 77) _ _ rfl _ _ rfl rfl hrn ?_)
            go_roundw
            case rel => exact ⟨j + 1, m2, A2, c2, _, B', d', _, by omega, rfl, rfl, by go_num, T2.out, HO2.out, HC2.out, HB2.out⟩
            case measure => simp [intOf]; omega
          · have hz2 : 0 ≤ z := by omega
            obtain ⟨y, hy⟩ : ∃ y, lr[0]? = some y := ⟨lr[0]'(by rw [HLR.out]; omega), List.getElem?_eq_getElem _⟩
            have hh : hasM lr 0 = true := hasM_iff.2 (by rw [HLR.out]; omega)
            have cT := Lib.hid (take_new A (r + 1) c lr 0 wa HM.out (by omega))
            have hta := has_at hh
            rw [(tk_ok hh).1, (tk_ok hh).2] at cT
            rw [show (0 : Int).toNat = 0 by omega] at cT hta
            rw [hy] at hta
            rw [← Option.some.inj hta] at cT
            have HC2 := Lib.hid (HC.out.more hy)
            have HWL : Hid ((without lr 0).length = r) := Lib.hid (by rw [without_len (by rw [HLR.out]; omega), HLR.out]; rfl)
            clear hy hh hta
            go_wp2_with fail
            refine cT.out.mono ?_; rintro e w1 ⟨A2, m2, c2, rfl, h, hb, hfr⟩
            obtain rfl : m2 = r := h.len.symm.trans HWL.out
            have T1 := Lib.hid (h.keep (new1 w1 (y.obj 42)))
            have M1 := Lib.hid (own_new w1 #[.int .i64 y.frm, .int .i64 y.dst, .string y.body] 42)
            have S1 := Lib.hid (then_ hb (new1 w1 (y.obj 42)))
            have S2 := Lib.hid (then_ S1.out (new1 (w1.alloc (y.obj 42)) (y.obj 42)))
            have B1 := Lib.hid (HB.out.trans (S2.out.mono HB.out.size))
            have HFR := Lib.hid (hfr rfl)
            clear h hb hfr
            obtain ⟨i0, hi0, hz0, hz1, hz2⟩ := info_parts1 msg_info
            obtain ⟨B', d', w', hrn, hown', hb', hgr⟩ := app_rows msg_len (by omega) msg_one Try.underlying35 hi0 hz0 hz1 hz2 rfl (by omega) w.heap.size B j d lg ((w1.alloc (y.obj 42)).alloc (y.obj 42)) (ownG_keep HO.out S2.out) (some ⟨w1.heap.size + 1, 0, none⟩) 1 1 [y] (by
              have h := rows_new msg_len (e := 42) (w1.alloc (y.obj 42)) y _ rfl
              rw [show (w1.alloc (y.obj 42)).heap.size = w1.heap.size + 1 by simp] at h
              exact h) (by omega) B1.out.size
            have HO2 := Lib.hid hown'
            have HB2 := Lib.hid (B1.out.trans hb')
            have T2 : Hid (Ms w' A2 m2 c2 _) := Lib.hid ⟨(T1.out.keep (new1 _ (y.obj 42))).row.keep hgr (fun a ha hh => by have h1 := HFR.out a ha; have h2 := (HO.out.lt a.block hh.symm).2; omega)⟩
            have m0 := M1.out.cell 0 _ rfl
            have m1 := M1.out.cell 1 _ rfl
            have m2_ := M1.out.cell 2 _ rfl
            clear hown' hb' hgr hi0 hz0 hz1 hz2
            go_wp2_with (at_builtin; refine wpList_append_eq _ rfl (.tmp 75) (.tmp 77) _ _ rfl _ _ rfl rfl hrn ?_)
            go_roundw
            case rel => exact ⟨j + 1, m2, A2, c2, _, B', d', _, by omega, rfl, rfl, by go_num, T2.out, HO2.out, HC2.out, HB2.out⟩
            case measure => simp [intOf]; omega
      · have hp' : ¬ ((j : Int) < (n1 : Int)) := by omega
        obtain ⟨y, hy⟩ : ∃ y, lr[0]? = some y := ⟨lr[0]'(by rw [HLR.out]; omega), List.getElem?_eq_getElem _⟩
        have hh : hasM lr 0 = true := hasM_iff.2 (by rw [HLR.out]; omega)
        have cT := Lib.hid (take_new A (r + 1) c lr 0 wa HM.out (by omega))
        have hta := has_at hh
        rw [(tk_ok hh).1, (tk_ok hh).2] at cT
        rw [show (0 : Int).toNat = 0 by omega] at cT hta
        rw [hy] at hta
        rw [← Option.some.inj hta] at cT
        have HC2 := Lib.hid (HC.out.more hy)
        have HWL : Hid ((without lr 0).length = r) := Lib.hid (by rw [without_len (by rw [HLR.out]; omega), HLR.out]; rfl)
        clear hy hh hta
        go_wp2_with fail
        refine cT.out.mono ?_; rintro e w1 ⟨A2, m2, c2, rfl, h, hb, hfr⟩
        obtain rfl : m2 = r := h.len.symm.trans HWL.out
        have T1 := Lib.hid (h.keep (new1 w1 (y.obj 42)))
        have M1 := Lib.hid (own_new w1 #[.int .i64 y.frm, .int .i64 y.dst, .string y.body] 42)
        have S1 := Lib.hid (then_ hb (new1 w1 (y.obj 42)))
        have S2 := Lib.hid (then_ S1.out (new1 (w1.alloc (y.obj 42)) (y.obj 42)))
        have B1 := Lib.hid (HB.out.trans (S2.out.mono HB.out.size))
        have HFR := Lib.hid (hfr rfl)
        clear h hb hfr
        obtain ⟨i0, hi0, hz0, hz1, hz2⟩ := info_parts1 msg_info
        obtain ⟨B', d', w', hrn, hown', hb', hgr⟩ := app_rows msg_len (by omega) msg_one Try.underlying35 hi0 hz0 hz1 hz2 rfl (by omega) w.heap.size B j d lg ((w1.alloc (y.obj 42)).alloc (y.obj 42)) (ownG_keep HO.out S2.out) (some ⟨w1.heap.size + 1, 0, none⟩) 1 1 [y] (by
          have h := rows_new msg_len (e := 42) (w1.alloc (y.obj 42)) y _ rfl
          rw [show (w1.alloc (y.obj 42)).heap.size = w1.heap.size + 1 by simp] at h
          exact h) (by omega) B1.out.size
        have HO2 := Lib.hid hown'
        have HB2 := Lib.hid (B1.out.trans hb')
        have T2 : Hid (Ms w' A2 m2 c2 _) := Lib.hid ⟨(T1.out.keep (new1 _ (y.obj 42))).row.keep hgr (fun a ha hh => by have h1 := HFR.out a ha; have h2 := (HO.out.lt a.block hh.symm).2; omega)⟩
        have m0 := M1.out.cell 0 _ rfl
        have m1 := M1.out.cell 1 _ rfl
        have m2_ := M1.out.cell 2 _ rfl
        clear hown' hb' hgr hi0 hz0 hz1 hz2
        go_wp2_with (at_builtin; refine wpList_append_eq _ rfl (.tmp 75) (.tmp 77) _ _ rfl _ _ rfl rfl hrn ?_)
        go_roundw
        case rel => exact ⟨j + 1, m2, A2, c2, _, B', d', _, by omega, rfl, rfl, by go_num, T2.out, HO2.out, HC2.out, HB2.out⟩
        case measure => simp [intOf]; omega
theorem walk (w : World) (A0 : Option Addr) (n0 c0 : Nat) (l0 : List Msg) (A1 : Option Addr) (n1 c1 : Nat) (l1 : List Int) (k0 : Ms w A0 n0 c0 l0) (k1 : Is w A1 n1 c1 l1 ∧ ∀ z ∈ l1, inI z) :
    Calls Try.prog 13 #[.slice A0 n0 c0, .slice A1 n1 c1] w fun e w' => e = .returned (.bool true) ∧ Below w.heap.size w w' := by
  cases hf : fewB2 n0 0 with
  | false => exact no_few w A0 n0 c0 l0 A1 n1 c1 l1 k0 k1 hf
  | true =>
    by_cases hn : n1 ≤ 40
    · exact fine w A0 n0 c0 l0 A1 n1 c1 l1 k0 k1 hf hn
    · exact no_places w A0 n0 c0 l0 A1 n1 c1 l1 k0 k1 hf (by omega)

theorem own : ownKnob Try.prog.godebug = none := by kernel_rfl
theorem laidOut : laidOutB Try.prog = true := by kernel_rfl

set_option maxRecDepth 100000 in
theorem lifted (os : Os) (started : os.Started) (H : Type) (enc : TypeId × Value → H) :
    ReturnsInHanded {} Try.checked os 13 .any (Rows.bagMovesSpec.pre6 enc Try.prog Try.f13 Rows.bagMovesRow.domain false) (Rows.bagMovesSpec.post enc Try.prog Try.f13 false true false false) := by
  refine returnsInHanded_of_change (C := Try.checked) own started (by kernel_rfl) Try.func13
    (ChangeSpec.witness6 (enc := enc) (C := Try.checked) false ⟨#[], #[.slice none 0 0, .slice none 0 0], []⟩ 8 (by kernel_rfl) (by kernel_rfl) (by kernel_rfl) (by kernel_rfl)) ?_
  intro W base args ds gs before hval0 hW hcnd _
  have hval : ∀ (j : Nat) t v, Try.f13.params[j]? = some t → args[j]? = some v → Value.okWide Try.prog W .any base t v := hval0
  have hW' := hW
  obtain ⟨p, q, hA0, hV, rfl, hfz, hnd⟩ := hW
  have hA : DataW.TrodAll enc Try.prog W 0 (fun _ => true) true Try.f13.params.toList args.toList ds p := hA0
  rw [Try.params13] at hA hval
  obtain ⟨v0, vs0, d0, ds0, p0, q0, hargs, rfl, rfl, h0, r0⟩ := trodAll_cons hA
  obtain ⟨v1, vs1, d1, ds1, p1, q1, rfl, rfl, rfl, h1, r1⟩ := trodAll_cons r0
  obtain ⟨rfl, rfl, rfl⟩ := trodAll_nil r1
  obtain rfl : args = #[v0, v1] := by cases args; simp_all
  obtain ⟨rfl, rfl⟩ := trodVars_none hV
  obtain ⟨A0, n0, c0, l0, rfl, k0⟩ := open_msgs (hval 0 35 v0 rfl rfl) h0
  obtain ⟨A1, n1, c1, l1, rfl, k1⟩ := open_is (hval 1 22 v1 rfl rfl) h1
  clear hA0 hval0
  refine (walk W A0 n0 c0 l0 A1 n1 c1 l1 k0 k1).mono fun e W' ⟨he, bel⟩ => ?_
  subst he
  exact ⟨_, rfl, _, _, _, [], _, [], hW', trodAll_mk1 (shut_bool Try.underlying4 _), (trodAll_cons_mk (Below.trod laidOut (by kernel_rfl) (of_decide_eq_true (by kernel_rfl)) h0 bel (fun x hx => hW'.lt x (by simp [hx]))) (trodAll_cons_mk (Below.trod laidOut (by kernel_rfl) (of_decide_eq_true (by kernel_rfl)) h1 bel (fun x hx => hW'.lt x (by simp [hx]))) trodAll_mk0)), rfl, bel.frame _, fun h => by cases h⟩

theorem over : Rows.bagMovesRow.holds Try.pinned (OpenSpec.ofChange Rows.bagMovesSpec) :=
  OpenClaim.holds_of_wide 13 Try.f13 rfl rfl rfl rfl rfl rfl rfl ⟨rfl, rfl, rfl, rfl, rfl⟩ rfl rfl rfl rfl rfl (by kernel_rfl) Try.func13 (by kernel_rfl)
    (of_decide_eq_true (by kernel_rfl)) (by unfold Func.isWrapper; first | (rw [if_pos (by decide +kernel)]; kernel_rfl) | (rw [if_neg (by decide +kernel)]; exact ⟨rfl, rfl⟩))
    (fun os started H enc _ => lifted os started H enc)

theorem proved : Rows.BagMovesSaid := over
#print axioms proved
end Go.Proofs.Ytdmhpnobdflkfaa.bagMoves
