/- For every time, every TTL and every list of times the law SessLasts answers true: a session lasts no longer than what is safe behind the latest beginning of a request that was told OK; in any order it is the same. No condition. -/
import Derived.Test.YtpecgkkhjkfmmaaSsUse
import Derived.Test.YtpecgkkhjkfmmaaGenInts
import Derived.StillTailTactics
import Derived.Lib.QuietBelow
import Derived.Test.YtpecgkkhjkfmmaaRows
namespace Go.Proofs.Ytpecgkkhjkfmmaa.sessLasts
open Go.ChangeShapes Go.WideShapes Go.ChangeAt Go.RowKit Go.Sort Go.Proofs.Ytpecgkkhjkfmmaa.P
open Go.ChangeMaps (open_string shut_string)
set_option maxHeartbeats 1000000
set_option linter.unusedVariables false
set_option linter.unusedSimpArgs false
set_option maxRecDepth 100000

def topP (a : Int) (l : List Int) : Int := l.foldl maxP a
theorem maxP_cases (a b : Int) : (a < b ∧ maxP a b = b) ∨ (¬ a < b ∧ maxP a b = a) := by unfold maxP; by_cases h : a < b <;> simp [h]
theorem maxP_add (a b k : Int) : maxP (a + k) (b + k) = maxP a b + k := by
  rcases maxP_cases a b with ⟨h, e⟩ | ⟨h, e⟩ <;> rcases maxP_cases (a + k) (b + k) with ⟨h', e'⟩ | ⟨h', e'⟩ <;> rw [e, e'] <;> omega
theorem maxP_turn (a x y : Int) : maxP (maxP a x) y = maxP (maxP a y) x := by
  simp only [maxP]
  repeat' split
  all_goals omega
theorem top_max : ∀ (l : List Int) (a x : Int), topP (maxP a x) l = maxP (topP a l) x
  | [], a, x => rfl
  | y :: r, a, x => by
    show topP (maxP (maxP a x) y) r = maxP (topP (maxP a y) r) x
    rw [maxP_turn, top_max r]
theorem top_snoc (a : Int) (l : List Int) (x : Int) : topP a (l ++ [x]) = maxP (topP a l) x := by unfold topP; rw [List.foldl_append]; rfl
theorem top_rev : ∀ (l : List Int) (a : Int), topP a l.reverse = topP a l
  | [], a => rfl
  | x :: r, a => by rw [List.reverse_cons, top_snoc, top_rev r, ← top_max]; rfl
theorem top_in : ∀ (l : List Int) (a : Int), (0 ≤ a ∧ a ≤ 1099511627775) → (∀ z ∈ l, 0 ≤ z ∧ z ≤ 1099511627775) → 0 ≤ topP a l ∧ topP a l ≤ 1099511627775
  | [], a, h, _ => h
  | x :: r, a, h, k => by
    refine top_in r (maxP a x) ?_ (fun z hz => k z (List.mem_cons_of_mem _ hz))
    have := k x (List.mem_cons_self ..)
    rcases maxP_cases a x with ⟨_, e⟩ | ⟨_, e⟩ <;> rw [e] <;> assumption
/-- Every number up to j may be a time. -/
def InTo (l : List Int) (j : Nat) : Prop := ∀ z ∈ l.take j, 0 ≤ z ∧ z ≤ 1099511627775
theorem InTo.zero (l : List Int) : InTo l 0 := fun z hz => by simp at hz
theorem InTo.more {l : List Int} {j : Nat} {x : Int} (h : InTo l j) (hx : l[j]? = some x) (k : 0 ≤ x ∧ x ≤ 1099511627775) : InTo l (j + 1) := by
  intro z hz
  rw [take_snoc' l j x hx] at hz
  rcases List.mem_append.1 hz with hz | hz
  · exact h z hz
  · simp at hz; subst hz; exact k
theorem InTo.all {l : List Int} {n : Nat} (h : InTo l n) (hn : l.length = n) : ∀ z ∈ l, 0 ≤ z ∧ z ≤ 1099511627775 := by
  have := h; unfold InTo at this; rwa [take_full l n hn] at this
theorem long (w : World) (a0 a1 : Int) (A2 : Option Addr) (n2 c2 : Nat) (hn : (20 : Int) < (n2 : Int)) :
    Calls Try.prog 10 #[.int .i64 a0, .int .i64 a1, .slice A2 n2 c2] w fun e w' => e = .returned (.bool true) ∧ Below w.heap.size w w' := by
  go_enter Try.func10, Try.ntmps10
  go_wp2_with fail
  refine (live_any _).mono ?_; rintro e w1 ⟨rfl, hb⟩
  have HB := Lib.hid hb; clear hb
  go_wp2
  go_ret
  exact ⟨rfl, HB.out⟩
theorem none_ (w : World) (a0 a1 : Int) (A2 : Option Addr) (n2 c2 : Nat) (l2 : List Int) (w1 : inI a1) (hn : n2 ≤ 20) (hb : beginB a0 ⟨0, 0, 0, 0, 5, a1, false, [], []⟩ = false) :
    Calls Try.prog 10 #[.int .i64 a0, .int .i64 a1, .slice A2 n2 c2] w fun e w' => e = .returned (.bool true) ∧ Below w.heap.size w w' := by
  have hn' : ¬ (20 : Int) < (n2 : Int) := by omega
  have CP := Lib.hid (fun w => sbegin_not a0 5 a1 ⟨by decide, by decide⟩ w1 hb w)
  clear hb w1
  have hse := se_eq
  go_enter Try.func10, Try.ntmps10
  go_wp2_with fail
  refine (CP.out _).mono ?_; rintro e w1 ⟨rfl, hb⟩
  have S_1 := Lib.hid hb; clear hb
  have B_2 := Lib.hid (S_1.out)
  clear S_1
  have B_3 := Lib.hid (then_ B_2.out (new1 w1 (.cells #[.int .i64 0, .int .i64 0, .int .i64 0, .int .i64 0] 53)))
  clear B_2
  have P_4 := Lib.hid (own_new w1 #[.int .i64 0, .int .i64 0, .int .i64 0, .int .i64 0] 53)
  have pc0 := P_4.out.cell 0 _ rfl
  have pc1 := P_4.out.cell 1 _ rfl
  have pc2 := P_4.out.cell 2 _ rfl
  have pc3 := P_4.out.cell 3 _ rfl
  go_wp2_with fail
  refine (live_any _).mono ?_; rintro e w2 ⟨rfl, hb⟩
  have S_5 := Lib.hid hb; clear hb
  have P_6 := Lib.hid (P_4.out.below S_5.out)
  have B_7 := Lib.hid (then_ B_3.out S_5.out)
  clear P_4 B_3
  clear S_5
  go_wp2
  go_ret
  exact ⟨rfl, B_7.out⟩
set_option maxHeartbeats 8000000 in
theorem main (w : World) (a0 a1 : Int) (A2 : Option Addr) (n2 c2 : Nat) (l2 : List Int) (w1 : inI a1) (K : Is w A2 n2 c2 l2) (hn : n2 ≤ 20) (x h : Int) (hx : safeP a1 = x) (h0 : x ≠ 0) (hh : x / 2 = h) (ha : atN a0 = true) :
    Calls Try.prog 10 #[.int .i64 a0, .int .i64 a1, .slice A2 n2 c2] w fun e w' => e = .returned (.bool true) ∧ Below w.heap.size w w' := by
  have hn' : ¬ (20 : Int) < (n2 : Int) := by omega
  have HL := Lib.hid K.len
  have hle := K.le
  have hmax := K.max
  unfold maxLen at hmax
  have H := Lib.hid K
  have hat := atN_iff.1 ha
  have hs := safe_range a1
  rw [hx] at hs
  have hd1 : h ≤ x ∧ 0 ≤ h ∧ 1 ≤ x := by omega
  have HAT := Lib.hid hat
  have HS := Lib.hid hs
  have HD := Lib.hid hd1
  have CP := Lib.hid (fun w => sbegin_is a0 5 a1 x h (by decide) ⟨by decide, by decide⟩ w1 hx h0 hh ha w)
  have CK := Lib.hid (fun (m z : Int) (hz : 0 ≤ z ∧ z ≤ 1099511627775) (w : World) => skept_is 5 a1 (m + x) (m + h) z a1 x h ⟨by decide, by decide⟩ w1 hx hh (atN_iff.2 hz) w)
  simp only [maxP_add] at CK
  have CS := Lib.hid (fun w => safe_ref a1 w)
  rw [hx] at CS
  have hse := se_eq
  clear K hx hh ha hat hs hd1 w1 h0
  go_enter Try.func10, Try.ntmps10
  go_wp2_with fail
  refine (CP.out _).mono ?_; rintro e w1 ⟨rfl, hb⟩
  have B1 := Lib.hid (then_ hb (new1 w1 (.cells #[.int .i64 5, .int .i64 a1, .int .i64 (a0 + x), .int .i64 (a0 + h)] 53)))
  have P1 := Lib.hid (own_new w1 #[.int .i64 5, .int .i64 a1, .int .i64 (a0 + x), .int .i64 (a0 + h)] 53)
  have hlo : w.heap.size ≤ w1.heap.size := hb.size
  clear hb
  go_wp2
  go_loopw [9, 10] (fun v i wr => ∃ j : Nat, j ≤ n2 ∧ v = .int .i64 (topP a0 (l2.take j)) ∧ i = .int .i64 j ∧ Own wr w1.heap.size 53 #[.int .i64 5, .int .i64 a1, .int .i64 ((topP a0 (l2.take j)) + x), .int .i64 ((topP a0 (l2.take j)) + h)] ∧ Below w.heap.size w wr ∧ InTo l2 j) (fun _ i _ => n2 - (intOf i).toNat)
  case atStart => exact ⟨0, Nat.zero_le _, rfl, rfl, P1.out, B1.out, InTo.zero _⟩
  case round =>
    obtain ⟨j, hj, rfl, rfl, hown, hbel, hin⟩ := hrel
    have HO := Lib.hid hown; have HB := Lib.hid hbel; have HI := Lib.hid hin
    clear hown hbel hin
    by_cases hlt : j < n2
    · obtain ⟨a, z, rfl, hbl, hz, hc⟩ := Is.at_ (H.out.below HB.out) hlt
      have HZ := Lib.hid hz
      have i0 : (0 : Int) ≤ (j : Int) := by omega
      have i1 : (j : Int) < (n2 : Int) := by omega
      clear hz hbl
      by_cases hz0 : z < 0
      · go_wp2_with fail
        refine (live_any _).mono ?_; rintro e w2 ⟨rfl, hb⟩
        have HB2 := Lib.hid (HB.out.trans (hb.mono HB.out.size)); clear hb
        go_wp2
        go_ret
        exact ⟨rfl, HB2.out⟩
      · by_cases hz1 : 1099511627775 < z
        · go_wp2_with fail
          refine (live_any _).mono ?_; rintro e w2 ⟨rfl, hb⟩
          have HB2 := Lib.hid (HB.out.trans (hb.mono HB.out.size)); clear hb
          go_wp2
          go_ret
          exact ⟨rfl, HB2.out⟩
        · have hzz : 0 ≤ z ∧ z ≤ 1099511627775 := ⟨by omega, by omega⟩
          have CZ := Lib.hid (CK.out (topP a0 (l2.take j)) z hzz)
          have HI2 := Lib.hid (HI.out.more HZ.out hzz)
          have HN : Hid (topP a0 (l2.take (j + 1)) = maxP (topP a0 (l2.take j)) z) := Lib.hid (by rw [take_snoc' l2 j z HZ.out, top_snoc])
          have pc0 := HO.out.cell 0 _ rfl
          have pc1 := HO.out.cell 1 _ rfl
          have pc2 := HO.out.cell 2 _ rfl
          have pc3 := HO.out.cell 3 _ rfl
          have pf := HO.out.frozen
          clear hzz
          generalize (topP a0 (l2.take j)) = m at *
          go_wp2
          refine wp_region_still_tail 7 (by kernel_rfl) (by kernel_rfl) ?_
          simp only [List.take_succ_cons, List.take_zero, List.drop_succ_cons, List.drop_zero]
          repeat still_step
          refine wpStill_nil ?_
          change wpList _ _ _ _ _ wr.drew
          go_wp2_with fail
          refine (CZ.out _).mono ?_; rintro e w3 ⟨rfl, hb⟩
          have hb2 := (new_drew wr).trans hb
          have O3 := Lib.hid (HO.out.below hb2)
          have B3 := Lib.hid (HB.out.trans (hb2.mono HB.out.size))
          have H3 := Lib.hid (H.out.below B3.out)
          clear hb hb2 pc0 pc1 pc2 pc3 pf hc
          have pc0 := O3.out.cell 0 _ rfl
          have pc1 := O3.out.cell 1 _ rfl
          have pc2 := O3.out.cell 2 _ rfl
          have pc3 := O3.out.cell 3 _ rfl
          have pf := O3.out.frozen
          have O4 : Hid (∀ v0 v1 v2 v3 : Value, Own ((((w3.setCell ⟨w1.heap.size, 0, none⟩ v0).setCell ⟨w1.heap.size, 1, none⟩ v1).setCell ⟨w1.heap.size, 2, none⟩ v2).setCell ⟨w1.heap.size, 3, none⟩ v3) w1.heap.size 53 #[v0, v1, v2, v3]) := Lib.hid (fun v0 v1 v2 v3 => (((O3.out.set 0 v0).set 1 v1).set 2 v2).set 3 v3)
          have B4 : Hid (∀ v0 v1 v2 v3 : Value, Below w.heap.size w ((((w3.setCell ⟨w1.heap.size, 0, none⟩ v0).setCell ⟨w1.heap.size, 1, none⟩ v1).setCell ⟨w1.heap.size, 2, none⟩ v2).setCell ⟨w1.heap.size, 3, none⟩ v3)) := Lib.hid (fun v0 v1 v2 v3 => below_set4 B3.out hlo v0 v1 v2 v3)
          obtain ⟨a', z', ea, hbl', hz', hc'⟩ := Is.at_ H3.out hlt
          injection ea with ea
          subst ea
          obtain rfl : z = z' := Option.some.inj (HZ.out.symm.trans hz')
          have hne : ¬ a.block = w1.heap.size := by
            intro hh
            obtain ⟨b', _, eb, hb3, _⟩ := Is.at_ H.out hlt
            injection eb with eb
            subst eb
            omega
          have hne2 : ¬ (a.add j).block = w1.heap.size := by rw [P.block_add]; exact hne
          have hc5 : ∀ v0 v1 v2 v3 : Value, ((((w3.setCell ⟨w1.heap.size, 0, none⟩ v0).setCell ⟨w1.heap.size, 1, none⟩ v1).setCell ⟨w1.heap.size, 2, none⟩ v2).setCell ⟨w1.heap.size, 3, none⟩ v3).cell? (a.add j) = some (.int .i64 z) := fun v0 v1 v2 v3 => by
            have ne : ∀ k, (⟨w1.heap.size, k, none⟩ : Addr) ≠ a.add j := fun k e => hne2 (by rw [← e])
            rw [World.cell?_setCell_other _ _ _ _ (ne 3), World.cell?_setCell_other _ _ _ _ (ne 2), World.cell?_setCell_other _ _ _ _ (ne 1), World.cell?_setCell_other _ _ _ _ (ne 0)]; exact hc'
          clear hz' hbl' hc' hne hne2
          go_wp2_with fail
          refine ⟨⟨j + 1, by omega, ?_, by go_num, ?_, B4.out _ _ _ _, HI2.out⟩, by simp [intOf]; omega⟩
          · rw [HN.out]; rfl
          · rw [HN.out]; exact O4.out _ _ _ _
    · obtain rfl : j = n2 := by omega
      have ET : l2.take j = l2 := take_full _ _ HL.out
      rw [ET] at HO
      rw [ET]
      have HIN := HI.out.all HL.out
      have HM := Lib.hid (top_in l2 a0 HAT.out HIN)
      have HIN2 := Lib.hid HIN
      clear ET HIN HI
      go_wp2_with fail
      refine (CP.out _).mono ?_; rintro e w2 ⟨rfl, hb⟩
      have hb2 := then_ hb (new1 w2 (.cells #[.int .i64 5, .int .i64 a1, .int .i64 (a0 + x), .int .i64 (a0 + h)] 53))
      have HO2 := Lib.hid (HO.out.below hb2)
      have HB2 := Lib.hid (HB.out.trans (hb2.mono HB.out.size))
      have P2 := Lib.hid (own_new w2 #[.int .i64 5, .int .i64 a1, .int .i64 (a0 + x), .int .i64 (a0 + h)] 53)
      have hlo2 : w1.heap.size < w2.heap.size := Nat.lt_of_lt_of_le HO.out.lt hb.size
      clear hb hb2
      go_wp2
      go_loopw [13] (fun i wr => ∃ k r : Nat, k + r = j ∧ i = .int .i64 ((r : Int) - 1) ∧ Own wr w1.heap.size 53 #[.int .i64 5, .int .i64 a1, .int .i64 ((topP a0 l2) + x), .int .i64 ((topP a0 l2) + h)] ∧ Own wr w2.heap.size 53 #[.int .i64 5, .int .i64 a1, .int .i64 ((topP a0 (l2.reverse.take k)) + x), .int .i64 ((topP a0 (l2.reverse.take k)) + h)] ∧ Below w.heap.size w wr) (fun i _ => (intOf i + 1).toNat)
      case atStart => exact ⟨0, j, by omega, by go_num, HO2.out, P2.out, HB2.out⟩
      case round =>
        obtain ⟨k, r, hkr, rfl, hown, hown2, hbel⟩ := hrel
        have HO := Lib.hid hown; have HQ := Lib.hid hown2; have HB := Lib.hid hbel
        clear hown hown2 hbel
        rcases r with _ | r
        · obtain rfl : k = j := by omega
          have ER : topP a0 (l2.reverse.take k) = topP a0 l2 := by rw [take_full _ _ (by rw [List.length_reverse]; exact HL.out), top_rev]
          rw [ER] at HQ
          clear ER
          obtain ⟨m0, m1⟩ := HM.out
          obtain ⟨x0, x1⟩ := HS.out
          obtain ⟨d0, d1, d2⟩ := HD.out
          generalize topP a0 l2 = m at *
          obtain ⟨u, hu⟩ : ∃ u, u = m + x := ⟨_, rfl⟩
          obtain ⟨v, hv⟩ : ∃ v, v = m + h := ⟨_, rfl⟩
          rw [← hu, ← hv] at HO HQ
          have t1 : wrap64 (m + x) = u := by rw [IntWalk.wrap64_in _ (by omega)]; exact hu.symm
          have t2 : wrap64 (u - 1) = u - 1 := IntWalk.wrap64_in _ (by omega)
          have t3 : decide (v ≤ u) = true := decide_eq_true (by omega)
          have t4 : (u == u) = true := by simp
          have C1 := Lib.hid (fun w => salive_is 5 a1 u v (u - 1) true (by decide) (decide_eq_true (by omega)) w)
          have C2 := Lib.hid (fun w => salive_is 5 a1 u v u false (by decide) (decide_eq_false (by omega)) w)
          have pc0 := HO.out.cell 0 _ rfl
          have pc1 := HO.out.cell 1 _ rfl
          have pc2 := HO.out.cell 2 _ rfl
          have pc3 := HO.out.cell 3 _ rfl
          have qc0 := HQ.out.cell 0 _ rfl
          have qc1 := HQ.out.cell 1 _ rfl
          have qc2 := HQ.out.cell 2 _ rfl
          have qc3 := HQ.out.cell 3 _ rfl
          have rpc0 := fun d os => cell_regrown pc0 d os
          have rpc1 := fun d os => cell_regrown pc1 d os
          have rpc2 := fun d os => cell_regrown pc2 d os
          have rpc3 := fun d os => cell_regrown pc3 d os
          have rqc0 := fun d os => cell_regrown qc0 d os
          have rqc1 := fun d os => cell_regrown qc1 d os
          have rqc2 := fun d os => cell_regrown qc2 d os
          have rqc3 := fun d os => cell_regrown qc3 d os
          have c1 := fun d os => Calls.regrown_of (d := d) (os := os) (w := wr) (C1.out _)
          have c2_ := fun d os => Calls.regrown_of (d := d) (os := os) (w := wr) (C2.out _)
          have c3 := fun d os => Calls.regrown_of (d := d) (os := os) (w := wr) (live_any _)
          have c4 := fun d os => Calls.regrown_of (d := d) (os := os) (w := wr) ((CS.out (redrawn (grow wr os) d)).mono fun e w' hh => ⟨hh.1, by rw [← hh.2]; exact Below.refl _ _⟩)
          clear hu hv m0 m1 x0 x1 d0 d1 d2
          go_wp2
          refine wp_region_quiet_below (by kernel_rfl) (by kernel_rfl) ?_
          repeat (go_big_quiet_step (first | (with_reducible exact c1 _ _) | (with_reducible exact c2_ _ _) | (with_reducible exact c3 _ _) | (with_reducible exact c4 _ _)))
          refine wpQuiet_nil ?_
          intro _ hw'
          obtain ⟨⟨d, os⟩, rfl⟩ := hw'
          go_wp2
          go_ret
          exact ⟨rfl, below_grow HB.out HB.out.size _ _⟩
        · have hr1 : (((r + 1 : Nat) : Int) - 1) = (r : Int) := by omega
          rw [hr1]
          obtain ⟨a, z, rfl, hbl, hz, hc⟩ := Is.at_ (H.out.below HB.out) (show r < j by omega)
          have i0 : (0 : Int) ≤ (r : Int) := by omega
          have i1 : (r : Int) < (j : Int) := by omega
          have hzz : 0 ≤ z ∧ z ≤ 1099511627775 := HIN2.out z (List.mem_of_getElem? hz)
          have CZ := Lib.hid (CK.out (topP a0 (l2.reverse.take k)) z hzz)
          have HN : Hid (topP a0 (l2.reverse.take (k + 1)) = maxP (topP a0 (l2.reverse.take k)) z) := Lib.hid (by
            rw [take_snoc' _ k z (by rw [List.getElem?_reverse (by rw [HL.out]; omega), HL.out, show j - 1 - k = r by omega]; exact hz), top_snoc])
          have qc0 := HQ.out.cell 0 _ rfl
          have qc1 := HQ.out.cell 1 _ rfl
          have qc2 := HQ.out.cell 2 _ rfl
          have qc3 := HQ.out.cell 3 _ rfl
          have qf := HQ.out.frozen
          clear hzz hz hbl
          generalize topP a0 (l2.reverse.take k) = m at *
          go_wp2
          refine wp_region_still_tail 7 (by kernel_rfl) (by kernel_rfl) ?_
          simp only [List.take_succ_cons, List.take_zero, List.drop_succ_cons, List.drop_zero]
          repeat still_step
          refine wpStill_nil ?_
          change wpList _ _ _ _ _ wr.drew
          go_wp2_with fail
          refine (CZ.out _).mono ?_; rintro e w3 ⟨rfl, hb⟩
          have hb2 := (new_drew wr).trans hb
          have O3 := Lib.hid (HO.out.below hb2)
          have Q3 := Lib.hid (HQ.out.below hb2)
          have B3 := Lib.hid (HB.out.trans (hb2.mono HB.out.size))
          clear hb hb2 qc0 qc1 qc2 qc3 qf hc
          have qc0 := Q3.out.cell 0 _ rfl
          have qc1 := Q3.out.cell 1 _ rfl
          have qc2 := Q3.out.cell 2 _ rfl
          have qc3 := Q3.out.cell 3 _ rfl
          have qf := Q3.out.frozen
          have Q4 : Hid (∀ v0 v1 v2 v3 : Value, Own ((((w3.setCell ⟨w2.heap.size, 0, none⟩ v0).setCell ⟨w2.heap.size, 1, none⟩ v1).setCell ⟨w2.heap.size, 2, none⟩ v2).setCell ⟨w2.heap.size, 3, none⟩ v3) w2.heap.size 53 #[v0, v1, v2, v3]) := Lib.hid (fun v0 v1 v2 v3 => (((Q3.out.set 0 v0).set 1 v1).set 2 v2).set 3 v3)
          have B4 : Hid (∀ v0 v1 v2 v3 : Value, Below w.heap.size w ((((w3.setCell ⟨w2.heap.size, 0, none⟩ v0).setCell ⟨w2.heap.size, 1, none⟩ v1).setCell ⟨w2.heap.size, 2, none⟩ v2).setCell ⟨w2.heap.size, 3, none⟩ v3)) := Lib.hid (fun v0 v1 v2 v3 => below_set4 B3.out (by omega) v0 v1 v2 v3)
          have O4 : Hid (∀ v0 v1 v2 v3 : Value, Own ((((w3.setCell ⟨w2.heap.size, 0, none⟩ v0).setCell ⟨w2.heap.size, 1, none⟩ v1).setCell ⟨w2.heap.size, 2, none⟩ v2).setCell ⟨w2.heap.size, 3, none⟩ v3) w1.heap.size 53 #[.int .i64 5, .int .i64 a1, .int .i64 ((topP a0 l2) + x), .int .i64 ((topP a0 l2) + h)]) := Lib.hid (fun v0 v1 v2 v3 => (((O3.out.other _ _ _ (by omega)).other _ _ _ (by omega)).other _ _ _ (by omega)).other _ _ _ (by omega))
          go_wp2_with fail
          refine ⟨⟨k + 1, r, by omega, rfl, O4.out _ _ _ _, ?_, B4.out _ _ _ _⟩, by simp [intOf]⟩
          rw [HN.out]; exact Q4.out _ _ _ _

theorem walk (w : World) (a0 a1 : Int) (A2 : Option Addr) (n2 c2 : Nat) (l2 : List Int) (w0 : (Lit.int .i64 a0).wf = true) (w1 : (Lit.int .i64 a1).wf = true) (k2 : Is w A2 n2 c2 l2 ∧ ∀ z ∈ l2, inI z) :
    Calls Try.prog 10 #[.int .i64 a0, .int .i64 a1, .slice A2 n2 c2] w fun e w' => e = .returned (.bool true) ∧ Below w.heap.size w w' := by
  by_cases hn : n2 ≤ 20
  · cases hb : beginB a0 ⟨0, 0, 0, 0, 5, a1, false, [], []⟩ with
    | false => exact none_ w a0 a1 A2 n2 c2 l2 (inI_of w1) hn hb
    | true =>
      have h1 : safeP a1 ≠ 0 := fun e => by rw [begin_safe (y := ⟨0, 0, 0, 0, 5, a1, false, [], []⟩) e] at hb; cases hb
      have h2 : atN a0 = true := by
        cases h : atN a0 with
        | true => rfl
        | false => rw [begin_at h] at hb; cases hb
      exact main w a0 a1 A2 n2 c2 l2 (inI_of w1) k2.1 hn _ _ rfl h1 rfl h2
  · exact long w a0 a1 A2 n2 c2 (by omega)

theorem own : ownKnob Try.prog.godebug = none := by kernel_rfl
theorem laidOut : laidOutB Try.prog = true := by kernel_rfl

set_option maxRecDepth 100000 in
theorem lifted (os : Os) (started : os.Started) (H : Type) (enc : TypeId × Value → H) :
    ReturnsInHanded {} Try.checked os 10 .any (Rows.sessLastsSpec.pre6 enc Try.prog Try.f10 Rows.sessLastsRow.domain false) (Rows.sessLastsSpec.post enc Try.prog Try.f10 false true false false) := by
  refine returnsInHanded_of_change (C := Try.checked) own started (by kernel_rfl) Try.func10
    (ChangeSpec.witness6 (enc := enc) (C := Try.checked) false ⟨#[], #[(.int .i64 0), (.int .i64 0), .slice none 0 0], []⟩ 8 (by kernel_rfl) (by kernel_rfl) (by kernel_rfl) (by kernel_rfl)) ?_
  intro W base args ds gs before hval0 hW hcnd _
  have hval : ∀ (j : Nat) t v, Try.f10.params[j]? = some t → args[j]? = some v → Value.okWide Try.prog W .any base t v := hval0
  have hW' := hW
  obtain ⟨p, q, hA0, hV, rfl, hfz, hnd⟩ := hW
  have hA : DataW.TrodAll enc Try.prog W 0 (fun _ => true) true Try.f10.params.toList args.toList ds p := hA0
  rw [Try.params10] at hA hval
  obtain ⟨v0, vs0, d0, ds0, p0, q0, hargs, rfl, rfl, h0, r0⟩ := trodAll_cons hA
  obtain ⟨v1, vs1, d1, ds1, p1, q1, rfl, rfl, rfl, h1, r1⟩ := trodAll_cons r0
  obtain ⟨v2, vs2, d2, ds2, p2, q2, rfl, rfl, rfl, h2, r2⟩ := trodAll_cons r1
  obtain ⟨rfl, rfl, rfl⟩ := trodAll_nil r2
  obtain rfl : args = #[v0, v1, v2] := by cases args; simp_all
  obtain ⟨rfl, rfl⟩ := trodVars_none hV
  obtain ⟨a0, rfl, rfl, rfl, w0⟩ := open_int Try.underlying3 (hval 0 3 v0 rfl rfl) h0
  obtain ⟨a1, rfl, rfl, rfl, w1⟩ := open_int Try.underlying3 (hval 1 3 v1 rfl rfl) h1
  obtain ⟨A2, n2, c2, l2, rfl, k2⟩ := open_is (hval 2 46 v2 rfl rfl) h2
  clear hA0 hval0
  refine (walk W a0 a1 A2 n2 c2 l2 w0 w1 k2).mono fun e W' ⟨he, bel⟩ => ?_
  subst he
  exact ⟨_, rfl, _, _, _, [], _, [], hW', trodAll_mk1 (shut_bool Try.underlying4 _), (trodAll_cons_mk (shut_int Try.underlying3 w0) (trodAll_cons_mk (shut_int Try.underlying3 w1) (trodAll_cons_mk (Below.trod laidOut (by kernel_rfl) (of_decide_eq_true (by kernel_rfl)) h2 bel (fun x hx => hW'.lt x (by simp [hx]))) trodAll_mk0))), rfl, bel.frame _, fun h => by cases h⟩

theorem over : Rows.sessLastsRow.holds Try.pinned (OpenSpec.ofChange Rows.sessLastsSpec) :=
  OpenClaim.holds_of_wide 10 Try.f10 rfl rfl rfl rfl rfl rfl rfl ⟨rfl, rfl, rfl, rfl, rfl⟩ rfl rfl rfl rfl rfl (by kernel_rfl) Try.func10 (by kernel_rfl)
    (of_decide_eq_true (by kernel_rfl)) (by unfold Func.isWrapper; first | (rw [if_pos (by decide +kernel)]; kernel_rfl) | (rw [if_neg (by decide +kernel)]; exact ⟨rfl, rfl⟩))
    (fun os started H enc _ => lifted os started H enc)

theorem proved : Rows.SessLastsSaid := over
#print axioms proved
end Go.Proofs.Ytpecgkkhjkfmmaa.sessLasts
