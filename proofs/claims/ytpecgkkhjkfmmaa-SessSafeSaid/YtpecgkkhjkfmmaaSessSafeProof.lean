/- For every TTL, every two clocks and all steps the law SessSafe answers true: as long as a session is alive by the clock of the client, its lease is not due by the clock of the server. No condition. -/
import Derived.Test.YtpecgkkhjkfmmaaSsSafe
import Derived.Test.YtpecgkkhjkfmmaaKeyTwo
import Derived.Deep.CutBlock
import Derived.Deep.DeepCutAuto
import Derived.Deep.LoopGhost
import Derived.StillTailTactics
import Derived.Deep.RegionHeld3
import Derived.Lib.QuietBelow
import Derived.Test.YtpecgkkhjkfmmaaRows
namespace Go.Proofs.Ytpecgkkhjkfmmaa.sessSafe
open Go.ChangeShapes Go.WideShapes Go.ChangeAt Go.RowKit Go.Sort Go.Proofs.Ytpecgkkhjkfmmaa.P
open Go.ChangeMaps (open_string shut_string)
set_option maxHeartbeats 1000000
set_option linter.unusedVariables false
set_option linter.unusedSimpArgs false
set_option maxRecDepth 100000

theorem out0 (w : World) (a0 a1 b1 : Int) (A2 : Option Addr) (n2 c2 : Nat) (h0 : (200 : Int) < (n2 : Int)) :
    Calls Try.prog 11 #[.int .i64 a0, .agg #[.int .i64 a1, .int .i64 b1], .slice A2 n2 c2] w fun e w' => e = .returned (.bool true) ∧ Below w.heap.size w w' := by
  have B0 := Lib.hid (new1 w (.cells #[.int .i64 a1, .int .i64 b1] 26))
  go_enter Try.func11, Try.ntmps11
  go_wp2_with fail
  refine (live_any _).mono ?_; rintro e w1 ⟨rfl, hb⟩
  have HB := Lib.hid (then_ B0.out hb); clear hb
  go_wp2
  go_ret
  exact ⟨rfl, HB.out⟩
theorem out1 (w : World) (a0 a1 b1 : Int) (A2 : Option Addr) (n2 c2 : Nat) (h0 : ¬ (200 : Int) < (n2 : Int)) (h1 : a1 < 0) :
    Calls Try.prog 11 #[.int .i64 a0, .agg #[.int .i64 a1, .int .i64 b1], .slice A2 n2 c2] w fun e w' => e = .returned (.bool true) ∧ Below w.heap.size w w' := by
  have B0 := Lib.hid (new1 w (.cells #[.int .i64 a1, .int .i64 b1] 26))
  go_enter Try.func11, Try.ntmps11
  go_wp2_with fail
  refine (live_any _).mono ?_; rintro e w1 ⟨rfl, hb⟩
  have HB := Lib.hid (then_ B0.out hb); clear hb
  go_wp2
  go_ret
  exact ⟨rfl, HB.out⟩
theorem out2 (w : World) (a0 a1 b1 : Int) (A2 : Option Addr) (n2 c2 : Nat) (h0 : ¬ (200 : Int) < (n2 : Int)) (h1 : ¬ a1 < 0) (h2 : 274877906944 < a1) :
    Calls Try.prog 11 #[.int .i64 a0, .agg #[.int .i64 a1, .int .i64 b1], .slice A2 n2 c2] w fun e w' => e = .returned (.bool true) ∧ Below w.heap.size w w' := by
  have B0 := Lib.hid (new1 w (.cells #[.int .i64 a1, .int .i64 b1] 26))
  go_enter Try.func11, Try.ntmps11
  go_wp2_with fail
  refine (live_any _).mono ?_; rintro e w1 ⟨rfl, hb⟩
  have HB := Lib.hid (then_ B0.out hb); clear hb
  go_wp2
  go_ret
  exact ⟨rfl, HB.out⟩
theorem out3 (w : World) (a0 a1 b1 : Int) (A2 : Option Addr) (n2 c2 : Nat) (h0 : ¬ (200 : Int) < (n2 : Int)) (h1 : ¬ a1 < 0) (h2 : ¬ 274877906944 < a1) (h3 : b1 < 0) :
    Calls Try.prog 11 #[.int .i64 a0, .agg #[.int .i64 a1, .int .i64 b1], .slice A2 n2 c2] w fun e w' => e = .returned (.bool true) ∧ Below w.heap.size w w' := by
  have B0 := Lib.hid (new1 w (.cells #[.int .i64 a1, .int .i64 b1] 26))
  go_enter Try.func11, Try.ntmps11
  go_wp2_with fail
  refine (live_any _).mono ?_; rintro e w1 ⟨rfl, hb⟩
  have HB := Lib.hid (then_ B0.out hb); clear hb
  go_wp2
  go_ret
  exact ⟨rfl, HB.out⟩
theorem out4 (w : World) (a0 a1 b1 : Int) (A2 : Option Addr) (n2 c2 : Nat) (h0 : ¬ (200 : Int) < (n2 : Int)) (h1 : ¬ a1 < 0) (h2 : ¬ 274877906944 < a1) (h3 : ¬ b1 < 0) (h4 : 274877906944 < b1) :
    Calls Try.prog 11 #[.int .i64 a0, .agg #[.int .i64 a1, .int .i64 b1], .slice A2 n2 c2] w fun e w' => e = .returned (.bool true) ∧ Below w.heap.size w w' := by
  have B0 := Lib.hid (new1 w (.cells #[.int .i64 a1, .int .i64 b1] 26))
  go_enter Try.func11, Try.ntmps11
  go_wp2_with fail
  refine (live_any _).mono ?_; rintro e w1 ⟨rfl, hb⟩
  have HB := Lib.hid (then_ B0.out hb); clear hb
  go_wp2
  go_ret
  exact ⟨rfl, HB.out⟩
theorem nogrant (w : World) (a0 a1 b1 : Int) (A2 : Option Addr) (n2 c2 : Nat) (h0 : ¬ (200 : Int) < (n2 : Int)) (h1 : ¬ a1 < 0) (h2 : ¬ 274877906944 < a1) (h3 : ¬ b1 < 0) (h4 : ¬ 274877906944 < b1) (hg : (ttlB a0 && atB b1) = false) :
    Calls Try.prog 11 #[.int .i64 a0, .agg #[.int .i64 a1, .int .i64 b1], .slice A2 n2 c2] w fun e w' => e = .returned (.bool true) ∧ Below w.heap.size w w' := by
  have CG := Lib.hid (fun w => sgrant_no a0 b1 hg w)
  clear hg
  have B0 := Lib.hid (new1 w (.cells #[.int .i64 a1, .int .i64 b1] 26))
  go_enter Try.func11, Try.ntmps11
  go_wp2_with fail
  refine (CG.out _).mono ?_; rintro e w1 ⟨A, n, c, rfl, hb⟩
  have B1 := Lib.hid (then_ (then_ B0.out hb) (new1 w1 (.cells (lsCells ⟨0, []⟩ A n c) 73))); clear hb
  go_wp2_with fail
  refine (live_any _).mono ?_; rintro e w2 ⟨rfl, hb⟩
  have B2 := Lib.hid (then_ B1.out hb); clear hb
  go_wp2
  go_ret
  exact ⟨rfl, B2.out⟩
theorem main (w : World) (a0 a1 b1 : Int) (A2 : Option Addr) (n2 c2 : Nat) (l2 : List (Int × Int × Int)) (K : RowsOf threeC 3 w A2 n2 c2 l2) (h0 : ¬ (200 : Int) < (n2 : Int)) (h1 : ¬ a1 < 0) (h2 : ¬ 274877906944 < a1) (h3 : ¬ b1 < 0) (h4 : ¬ 274877906944 < b1) (hg : (ttlB a0 && atB b1) = true) :
    Calls Try.prog 11 #[.int .i64 a0, .agg #[.int .i64 a1, .int .i64 b1], .slice A2 n2 c2] w fun e w' => e = .returned (.bool true) ∧ Below w.heap.size w w' := by
  obtain ⟨hg1, hg2⟩ := Bool.and_eq_true _ _ ▸ hg
  have ht := ttlB_iff.1 hg1
  have HI0 := Lib.hid (Inv.first a1 b1 a0 (by omega) (by omega) (by omega) (by omega) ht.1 ht.2)
  have HT := Lib.hid ht
  have CG := Lib.hid (fun w => sgrant_ok a0 b1 hg1 hg2 w)
  have CB := Lib.hid (fun w => begin_any a1 ⟨0, 0, 0, 0, 1, a0, false, [], []⟩ none 0 0 none 0 0 w (rp_bare _ _ _ zero_inI one_inI ⟨by show _ ≤ a0; omega, by show a0 ≤ _; omega⟩ w))
  obtain ⟨bb, hbb⟩ : ∃ bb, bb = beginB a1 ⟨0, 0, 0, 0, 1, a0, false, [], []⟩ := ⟨_, rfl⟩
  rw [← hbb] at CB
  clear hbb hg hg1 hg2 ht
  have H := Lib.hid K
  have hmax := Nat.le_trans K.le K.max
  unfold maxLen at hmax
  clear K
  have B0 := Lib.hid (new1 w (.cells #[.int .i64 a1, .int .i64 b1] 26))
  have hn200 : n2 ≤ 200 := by omega
  go_enter Try.func11, Try.ntmps11
  go_wp2_with fail
  refine (CG.out _).mono ?_; rintro e w1 ⟨A, n, c, rfl, hla, hb⟩
  have bL := new1 w1 (.cells (lsCells (LL a0 (some (b1 + a0))) A n c) 73)
  have B1 := Lib.hid (then_ (then_ B0.out hb) bL)
  have L1 := Lib.hid (hla.keep bL)
  have O1 := Lib.hid (own_new w1 (lsCells (LL a0 (some (b1 + a0))) A n c) 73)
  have hf1 : Hid (∀ a, A = some a → a.block < w1.heap.size) := Lib.hid (fun a ha => by
    obtain ⟨a', ea, hlt, _⟩ := hla.row.row.rd (by have := hla.row.row.len; simp [LL] at this; omega)
    rw [ha] at ea; injection ea with ea; subst ea; exact hlt)
  have hs0 : w.heap.size < w1.heap.size := by have := hb.size; simp at this; omega
  clear hb bL hla
  go_wp2_with fail
  refine (CB.out _).mono ?_; rintro e w2 ⟨rfl, hb⟩
  generalize hse : beginS a1 ⟨0, 0, 0, 0, 1, a0, false, [], []⟩ = se at *
  have b2 := then_ (then_ hb (new1 w2 (.cells se.arr 53))) (new1 _ (.cells #[.int .i64 0, .int .i64 0, .int .i64 0, .int .i64 0, .int .i64 0, .int .i64 0, .bool false, .slice none 0 0, .slice none 0 0] 31))
  have hs1 : w1.heap.size < w2.heap.size := by have := hb.size; simp at this; omega
  have M0 : Hid (Mem14 a0 w w1.heap.size w2.heap.size (w2.heap.size + 1) (first14 a1 b1 a0) A n c ((w2.alloc (.cells se.arr 53)).alloc (.cells #[.int .i64 0, .int .i64 0, .int .i64 0, .int .i64 0, .int .i64 0, .int .i64 0, .bool false, .slice none 0 0, .slice none 0 0] 31))) := Lib.hid
    ⟨O1.out.below b2, ⟨L1.out.keep b2, fun _ _ a ha => by have := hf1.out a ha; omega⟩, by show Own _ _ _ (Se.arr (beginS a1 _)); rw [hse]; exact (own_new w2 se.arr 53).alloc _, own_new2 w2 _ _ _, then_ B1.out b2⟩
  clear hb b2 hse
  go_wp2
  go_loopg [7, 8, 14, 15, 17] n2 (fun g pm pt ps pd i wr => ∃ (j : Nat) (z : S14) (A : Option Addr) (n c : Nat), j + g = n2 ∧ pm = .int .i64 z.m ∧ pt = .int .i64 z.t ∧ ps = .int .i64 z.sent ∧ pd = .bool z.don ∧ i = .int .i64 j ∧ Inv a0 (274877906944 + 17 * (j : Int)) z ∧ Mem14 a0 w w1.heap.size w2.heap.size (w2.heap.size + 1) z A n c wr)
  case atStart => exact ⟨0, first14 a1 b1 a0, A, n, c, by omega, rfl, rfl, rfl, rfl, rfl, by simpa using HI0.out, M0.out⟩
  case round =>
    clear HI0 M0 L1 O1 hf1 CB CG
    obtain ⟨j, z, A, n, c, hjg, rfl, rfl, rfl, rfl, rfl, hinv, hmem⟩ := hrel
    have HI := Lib.hid hinv; have HM := Lib.hid hmem
    clear hinv hmem
    rcases gk with _ | g
    · obtain rfl : j = n2 := by omega
      go_wp2_with fail
      refine (live_any _).mono ?_; rintro e w3 ⟨rfl, hb⟩
      have HB2 := Lib.hid (HM.out.bel.trans (hb.mono HM.out.bel.size)); clear hb
      go_wp2
      go_ret
      exact ⟨rfl, HB2.out⟩
    · have hlt : j < n2 := by omega
      obtain ⟨a, x, rfl, hbl, hx, hc⟩ := (H.out.below HM.out.bel).at_ hlt
      obtain ⟨q, y1, y2⟩ := x
      have c0 : wr.cell? (a.add (j * 3)) = some (.int .i64 q) := hc 0 _ rfl
      have c1 : wr.cell? ⟨(a.add (j * 3)).block, (a.add (j * 3)).off + 1, none⟩ = some (.int .i64 y1) := hc 1 _ rfl
      have c2_ : wr.cell? ⟨(a.add (j * 3)).block, (a.add (j * 3)).off + 2, none⟩ = some (.int .i64 y2) := hc 2 _ rfl
      have i0 : (0 : Int) ≤ (j : Int) := by omega
      have i1 : (j : Int) < (n2 : Int) := by omega
      clear hc hbl hx
      go_upto_block 2 with fail
      go_cut [7, 8, 14, 15] (fun pm pt ps pd wx => ∃ (z' : S14) (A' : Option Addr) (n' c' : Nat), pm = .int .i64 z'.m ∧ pt = .int .i64 z'.t ∧ ps = .int .i64 z'.sent ∧ pd = .bool z'.don ∧ Inv a0 (274877906944 + 17 * (j : Int) + 17) z' ∧ Mem14 a0 w w1.heap.size w2.heap.size (w2.heap.size + 1) z' A' n' c' wx)
      case first =>
        have hm0 := HI.out.m0; have hm1 := HI.out.m1; have ht0 := HI.out.t0; have ht1 := HI.out.t1
        have ra := rate_strict y1; have rb := rate_strict y2
        have CA := Lib.hid (fun w => rate_ref y1 true w)
        have CB := Lib.hid (fun w => rate_ref y2 true w)
        have HK := Lib.hid (HI.out.tick y1 y2)
        have HU := Lib.hid (HI.out.up (show 274877906944 + 17 * (j : Int) ≤ 274877906944 + 17 * (j : Int) + 17 by omega))
        have wa : wrap64 (z.m + rateP y1 true) = z.m + rateP y1 true := IntWalk.wrap64_in _ (by omega)
        have wb : wrap64 (z.t + rateP y2 true) = z.t + rateP y2 true := IntWalk.wrap64_in _ (by omega)
        by_cases hq : q = 0 ∨ q = 1 ∨ q = 2 ∨ q = 3
        · have fin : ∀ wx : World, wx = wr → ∃ (z' : S14) (A' : Option Addr) (n' c' : Nat), Value.int .i64 (z.m + rateP y1 true) = .int .i64 z'.m ∧ Value.int .i64 (z.t + rateP y2 true) = .int .i64 z'.t ∧ Value.int .i64 z.sent = .int .i64 z'.sent ∧ Value.bool z.don = .bool z'.don ∧ Inv a0 (274877906944 + 17 * (j : Int) + 17) z' ∧ Mem14 a0 w w1.heap.size w2.heap.size (w2.heap.size + 1) z' A' n' c' wx := fun wx e => ⟨tick14 z y1 y2, A, n, c, rfl, rfl, rfl, rfl, HK.out, by rw [e]; exact ⟨HM.out.ol, HM.out.la, HM.out.os, HM.out.orr, HM.out.bel⟩⟩
          have FIN := Lib.hid fin
          clear fin HK HU
          rcases hq with rfl | rfl | rfl | rfl
          all_goals
            go_wp2_with fail
            refine (CA.out _).mono ?_; rintro e w' ⟨rfl, rfl⟩
            go_wp2_with fail
            refine (CB.out _).mono ?_; rintro e w' ⟨rfl, rfl⟩
            go_wp2_with fail
            go_meet
            exact FIN.out _ rfl
        · have nq0 : (q == 0) = false := by simp; omega
          have nq1 : (q == 1) = false := by simp; omega
          have nq2 : (q == 2) = false := by simp; omega
          have nq3 : (q == 3) = false := by simp; omega
          clear hq wa wb CA CB HK ra rb
          by_cases hq4 : q = 4
          · subst hq4
            by_cases hs : z.sent < 0
            · go_wp2_with fail
              go_meet
              exact ⟨ask14 z, A, n, c, rfl, rfl, rfl, rfl, HU.out.ask, HM.out.ol, HM.out.la, HM.out.os, HM.out.orr, HM.out.bel⟩
            · go_wp2_with fail
              go_meet
              exact ⟨z, A, n, c, rfl, rfl, rfl, rfl, HU.out, HM.out⟩
          · have nq4 : (q == 4) = false := by simp [hq4]
            clear hq4
            by_cases hq5 : q = 5
            · subst hq5
              by_cases hs : 0 ≤ z.sent
              · have hat : atB z.t = true := atB_iff.2 ⟨by omega, by omega⟩
                cases hle : z.le with
                | none =>
                  have OL := Lib.hid (hle ▸ HM.out.ol)
                  have LA := Lib.hid (hle ▸ HM.out.la)
                  have CKp := Lib.hid (skeep_no a0 z.t A n c HT.out.1 HT.out.2 hat wr LA.out.at_)
                  have l0 := HM.out.ol.lt; have l1 := HM.out.os.lt; have l2 := HM.out.orr.lt
                  have lc0 := OL.out.cell 0 _ rfl
                  have lc1 := OL.out.cell 1 _ rfl
                  go_wp2_with fail
                  refine CKp.out.mono ?_; rintro e w3 ⟨A', n', c', rfl, hla, hb, hf⟩
                  have bx := then_ hb (new1 w3 (.cells (lsCells (LL a0 none) A' n' c') 73))
                  have LA3 := Lib.hid ((LA.out.next_ (le' := none) (fun v hv => by cases hv) hla hf l0 l1 l2).keep (new1 w3 (.cells (lsCells (LL a0 none) A' n' c') 73)))
                  have O3 := Lib.hid (OL.out.below bx)
                  have S3 := Lib.hid (HM.out.os.below bx)
                  have R3 := Lib.hid (HM.out.orr.below bx)
                  have B3 := Lib.hid (HM.out.bel.trans (bx.mono HM.out.bel.size))
                  clear bx hb hla hf lc0 lc1
                  have lc0 := O3.out.cell 0 _ rfl
                  have lc1 := O3.out.cell 1 _ rfl
                  have lf := O3.out.frozen
                  have R4 : Hid (∀ v0 v1 : Value, Own (st2 (w3.alloc (.cells (lsCells (LL a0 none) A' n' c') 73)) w1.heap.size v0 v1) (w2.heap.size + 1) 31 ((RR z).arr none 0 0 none 0 0)) := Lib.hid (fun v0 v1 => R3.out.o2 _ (by omega) v0 v1)
                  have rc0 := fun v0 v1 => (R4.out v0 v1).cell 0 _ rfl
                  have rc1 := fun v0 v1 => (R4.out v0 v1).cell 1 _ rfl
                  have rc2 := fun v0 v1 => (R4.out v0 v1).cell 2 _ rfl
                  have rc3 := fun v0 v1 => (R4.out v0 v1).cell 3 _ rfl
                  have rc4 := fun v0 v1 => (R4.out v0 v1).cell 4 _ rfl
                  have rc5 := fun v0 v1 => (R4.out v0 v1).cell 5 _ rfl
                  have rc6 := fun v0 v1 => (R4.out v0 v1).cell 6 _ rfl
                  have rc7 := fun v0 v1 => (R4.out v0 v1).cell 7 _ rfl
                  have rc8 := fun v0 v1 => (R4.out v0 v1).cell 8 _ rfl
                  have rf := fun v0 v1 => (R4.out v0 v1).frozen
                  go_wp2_with fail
                  go_meet
                  refine ⟨doneN z, A', n', c', rfl, rfl, rfl, rfl, HU.out.doneN hs hle, ?_, ?_, ?_, ?_, ?_⟩
                  · show Own _ _ _ (lsCells (LL a0 z.le) A' n' c')
                    rw [hle]; exact (O3.out.s2 _ _).o9 _ (by omega) _ _ _ _ _ _ _ _ _
                  · show LsFar a0 z.le A' n' c' _ _ _ _
                    rw [hle]; exact (LA3.out.s2 _ _ _ (.inl rfl)).s9 _ _ _ _ _ _ _ _ _ _ (.inr (.inr rfl))
                  · exact (S3.out.o2 _ (by omega) _ _).o9 _ (by omega) _ _ _ _ _ _ _ _ _
                  · exact (R4.out _ _).s9 _ _ _ _ _ _ _ _ _
                  · exact below_s9 (below_s2 B3.out (by omega) _ _) (by omega) _ _ _ _ _ _ _ _ _
                | some u =>
                  have OL := Lib.hid (hle ▸ HM.out.ol)
                  have LA := Lib.hid (hle ▸ HM.out.la)
                  have CKp := Lib.hid (skeep_z a0 z u A n c HT.out.1 HT.out.2 hat wr LA.out.at_)
                  have l0 := HM.out.ol.lt; have l1 := HM.out.os.lt; have l2 := HM.out.orr.lt
                  have lc0 := OL.out.cell 0 _ rfl
                  have lc1 := OL.out.cell 1 _ rfl
                  go_wp2_with fail
                  refine CKp.out.mono ?_; rintro e w3 ⟨A', n', c', rfl, hla, hb, hf⟩
                  have bx := then_ hb (new1 w3 (.cells (lsCells (LL a0 (some (late14 a0 z u))) A' n' c') 73))
                  have LA3 := Lib.hid ((LA.out.next_ (le' := (some (late14 a0 z u))) (fun v hv => ⟨u, rfl⟩) hla hf l0 l1 l2).keep (new1 w3 (.cells (lsCells (LL a0 (some (late14 a0 z u))) A' n' c') 73)))
                  have O3 := Lib.hid (OL.out.below bx)
                  have S3 := Lib.hid (HM.out.os.below bx)
                  have R3 := Lib.hid (HM.out.orr.below bx)
                  have B3 := Lib.hid (HM.out.bel.trans (bx.mono HM.out.bel.size))
                  clear bx hb hla hf lc0 lc1
                  have lc0 := O3.out.cell 0 _ rfl
                  have lc1 := O3.out.cell 1 _ rfl
                  have lf := O3.out.frozen
                  have R4 : Hid (∀ v0 v1 : Value, Own (st2 (w3.alloc (.cells (lsCells (LL a0 (some (late14 a0 z u))) A' n' c') 73)) w1.heap.size v0 v1) (w2.heap.size + 1) 31 ((RR z).arr none 0 0 none 0 0)) := Lib.hid (fun v0 v1 => R3.out.o2 _ (by omega) v0 v1)
                  have rc0 := fun v0 v1 => (R4.out v0 v1).cell 0 _ rfl
                  have rc1 := fun v0 v1 => (R4.out v0 v1).cell 1 _ rfl
                  have rc2 := fun v0 v1 => (R4.out v0 v1).cell 2 _ rfl
                  have rc3 := fun v0 v1 => (R4.out v0 v1).cell 3 _ rfl
                  have rc4 := fun v0 v1 => (R4.out v0 v1).cell 4 _ rfl
                  have rc5 := fun v0 v1 => (R4.out v0 v1).cell 5 _ rfl
                  have rc6 := fun v0 v1 => (R4.out v0 v1).cell 6 _ rfl
                  have rc7 := fun v0 v1 => (R4.out v0 v1).cell 7 _ rfl
                  have rc8 := fun v0 v1 => (R4.out v0 v1).cell 8 _ rfl
                  have rf := fun v0 v1 => (R4.out v0 v1).frozen
                  go_wp2_with fail
                  go_meet
                  refine ⟨doneS a0 z u, A', n', c', rfl, rfl, rfl, rfl, HU.out.doneS HT.out.1 HT.out.2 hs hle, ?_, ?_, ?_, ?_, ?_⟩
                  · exact (O3.out.s2 _ _).o9 _ (by omega) _ _ _ _ _ _ _ _ _
                  · exact (LA3.out.s2 _ _ _ (.inl rfl)).s9 _ _ _ _ _ _ _ _ _ _ (.inr (.inr rfl))
                  · exact (S3.out.o2 _ (by omega) _ _).o9 _ (by omega) _ _ _ _ _ _ _ _ _
                  · exact (R4.out _ _).s9 _ _ _ _ _ _ _ _ _
                  · exact below_s9 (below_s2 B3.out (by omega) _ _) (by omega) _ _ _ _ _ _ _ _ _
              · go_wp2_with fail
                go_meet
                exact ⟨z, A, n, c, rfl, rfl, rfl, rfl, HU.out, HM.out⟩
            · have nq5 : (q == 5) = false := by simp [hq5]
              clear hq5
              by_cases hq6 : q = 6
              · subst hq6
                cases hd : z.don with
                | false =>
                  go_wp2_with fail
                  go_meet
                  exact ⟨z, A, n, c, rfl, rfl, rfl, by rw [hd], HU.out, HM.out⟩
                | true =>
                  have hne := HI.out.fin
                  have CT := Lib.hid (kept_any z.s z.sent (RR z) none 0 0 none 0 0 wr (rp_bare z.f z.lz z.k hne.1 hne.2.2 hne.2.1 wr))
                  clear hne
                  have sc0 := HM.out.os.cell 0 _ rfl
                  have sc1 := HM.out.os.cell 1 _ rfl
                  have sc2 := HM.out.os.cell 2 _ rfl
                  have sc3 := HM.out.os.cell 3 _ rfl
                  have rc0 := HM.out.orr.cell 0 _ rfl
                  have rc1 := HM.out.orr.cell 1 _ rfl
                  have rc2 := HM.out.orr.cell 2 _ rfl
                  have rc3 := HM.out.orr.cell 3 _ rfl
                  have rc4 := HM.out.orr.cell 4 _ rfl
                  have rc5 := HM.out.orr.cell 5 _ rfl
                  have rc6 := HM.out.orr.cell 6 _ rfl
                  have rc7 := HM.out.orr.cell 7 _ rfl
                  have rc8 := HM.out.orr.cell 8 _ rfl
                  have l0 := HM.out.ol.lt; have l1 := HM.out.os.lt; have l2 := HM.out.orr.lt
                  go_wp2_with fail
                  refine CT.out.mono ?_; rintro e w3 ⟨rfl, hb⟩
                  have S3 := Lib.hid (HM.out.os.below hb)
                  have M3 := Lib.hid (HM.out.keep hb)
                  clear hb sc0 sc1 sc2 sc3 rc0 rc1 rc2 rc3 rc4 rc5 rc6 rc7 rc8
                  have sc0 := S3.out.cell 0 _ rfl
                  have sc1 := S3.out.cell 1 _ rfl
                  have sc2 := S3.out.cell 2 _ rfl
                  have sc3 := S3.out.cell 3 _ rfl
                  have sf := S3.out.frozen
                  go_wp2_with fail
                  go_meet
                  refine ⟨told14 z, A, n, c, rfl, rfl, rfl, rfl, HU.out.told hd, ?_, ?_, ?_, ?_, ?_⟩
                  · exact M3.out.ol.o4 _ (by omega) _ _ _ _
                  · exact M3.out.la.s4 _ _ _ _ _ (.inr (.inl rfl))
                  · exact S3.out.s4 _ _ _ _
                  · exact M3.out.orr.o4 _ (by omega) _ _ _ _
                  · exact below_s4 M3.out.bel (by omega) _ _ _ _
              · have nq6 : (q == 6) = false := by simp [hq6]
                clear hq6
                by_cases hq7 : q = 7
                · subst hq7
                  go_wp2_with fail
                  go_meet
                  exact ⟨lost14 z, A, n, c, rfl, rfl, rfl, rfl, HU.out.lost, HM.out.ol, HM.out.la, HM.out.os, HM.out.orr, HM.out.bel⟩
                · have nq7 : (q == 7) = false := by simp [hq7]
                  clear hq7
                  go_wp2_with fail
                  go_meet
                  exact ⟨z, A, n, c, rfl, rfl, rfl, rfl, HU.out, HM.out⟩
      case rest =>
        obtain ⟨z', A', n', c', rfl, rfl, rfl, rfl, hinv2, hmem2⟩ := hcut
        have HI2 := Lib.hid hinv2; have HM2 := Lib.hid hmem2
        clear hinv2 hmem2 c0 c1 c2_
        have CD := Lib.hid (sdue_ll a0 z'.le z'.t A' n' c' _ HM2.out.la.at_)
        have lc0 := HM2.out.ol.cell 0 _ rfl
        have lc1 := HM2.out.ol.cell 1 _ rfl
        go_wp2_with fail
        refine CD.out.mono ?_; rintro e w3 ⟨D, m, d, rfl, hD, hb⟩
        have M3 := Lib.hid (HM2.out.keep hb)
        clear hb lc0 lc1
        by_cases hdue : ∃ u, z'.le = some u ∧ u ≤ z'.t
        · obtain ⟨u, hu, hut⟩ := hdue
          have hal := HI2.out.alive HT.out.1 hu hut
          have hD1 : Is w3 D m d [1] := by rw [show dueN z'.le z'.t = [1] by rw [hu]; exact if_pos hut] at hD; exact hD
          obtain rfl : 1 = m := hD1.len
          have HD := Lib.hid hD1
          clear hD hD1 hut
          cases bb with
          | false =>
            go_wp2
            go_loopg [22] 1 (fun g2 k wx => (g2 = 1 ∧ k = .int .i64 0 ∧ wx = w3) ∨ (g2 = 0 ∧ k = .int .i64 1 ∧ ∃ A n c, Mem14 a0 w w1.heap.size w2.heap.size (w2.heap.size + 1) (drop14 z') A n c wx))
            case atStart => exact .inl ⟨rfl, rfl, rfl⟩
            case round =>
              rcases hrel with ⟨rfl, rfl, hw⟩ | ⟨rfl, rfl, A5, n5, c5, hm5⟩
              · obtain rfl : w3 = wr := hw.symm
                obtain ⟨da, zz, rfl, dbl, hz, dc⟩ := Is.at_ HD.out (show 0 < 1 by omega)
                obtain rfl : 1 = zz := by simpa using hz
                rw [Addr.add_zero'] at dc
                clear hz dbl
                have OL := Lib.hid (hu ▸ M3.out.ol)
                have LA := Lib.hid (hu ▸ M3.out.la)
                have bz := new1 w3 (.cells #[.int .i64 0, .slice none 0 0] 73)
                have CE1 := Lib.hid (send_ok a0 u A' n' c' (World.drew w3) (LA.out.at_.keep (new_drew _)))
                have CE2 := Lib.hid (send_ok a0 u A' n' c' (World.drew (w3.alloc (.cells #[.int .i64 0, .slice none 0 0] 73))) ((LA.out.at_.keep bz).keep (new_drew _)))
                have N4 := Lib.hid (own_new w3 #[.int .i64 0, .slice none 0 0] 73)
                have BZ := Lib.hid bz
                clear bz
                have lc0 : w3.cell? ⟨w1.heap.size, 0, none⟩ = some (.int .i64 (LL a0 (some u)).next) := OL.out.cell 0 _ rfl
                have lc1 : w3.cell? ⟨w1.heap.size, 1, none⟩ = some (.slice A' n' c') := OL.out.cell 1 _ rfl
                have l0 := M3.out.ol.lt; have l1 := M3.out.os.lt; have l2 := M3.out.orr.lt
                have hda : da.block < w3.heap.size := World.block_lt_of_cell? _ _ dc
                have zc0 := (BZ.out.cell (p := ⟨w1.heap.size, 0, none⟩) l0).trans lc0
                have zc1 := (BZ.out.cell (p := ⟨w1.heap.size, 1, none⟩) l0).trans lc1
                have zc2 := (BZ.out.cell (p := da) hda).trans dc
                have ne1 : ¬ (w3.heap.size = w1.heap.size) := by omega
                have ne2 : ¬ (w3.heap.size = da.block) := by omega
                go_wp2
                go_region_held3 (fun w' => w'.cell? ⟨w1.heap.size, 0, none⟩ = some (.int .i64 (LL a0 (some u)).next) ∧ w'.cell? ⟨w1.heap.size, 1, none⟩ = some (.slice A' n' c') ∧ w'.cell? da = some (.int .i64 1)) (go_keep) (first
                  | (go_at_call 46; refine CE1.out.mono ?_; rintro e w5 ⟨A5, n5, c5, rfl, h5, hb5⟩; have HB5 := Lib.hid (then_ (new_drew _) hb5); have H5 := Lib.hid h5; have d30 := (HB5.out.cell (p := ⟨w1.heap.size, 0, none⟩) l0).trans lc0; have d31 := (HB5.out.cell (p := ⟨w1.heap.size, 1, none⟩) l0).trans lc1; have dz := (HB5.out.cell (p := da) hda).trans dc; have hsz5 : w1.heap.size < w5.heap.size := (by have := HB5.out.size; omega); clear hb5 h5)
                  | (go_at_call 46; refine CE2.out.mono ?_; rintro e w5 ⟨A5, n5, c5, rfl, h5, hb5⟩; have HB5 := Lib.hid (then_ (new_drew _) hb5); have H5 := Lib.hid h5; have HC5 := Lib.hid (then_ BZ.out HB5.out); have d30 := (HC5.out.cell (p := ⟨w1.heap.size, 0, none⟩) l0).trans lc0; have d31 := (HC5.out.cell (p := ⟨w1.heap.size, 1, none⟩) l0).trans lc1; have dz := (HC5.out.cell (p := da) hda).trans dc; have N5 := Lib.hid (N4.out.below HB5.out); have e50 := N5.out.cell 0 _ rfl; have e51 := N5.out.cell 1 _ rfl; have e5f := N5.out.frozen; clear hb5 h5))
                · obtain ⟨W6, hW6⟩ : ∃ W6, W6 = w5.alloc (.cells #[.int .i64 (LL a0 none).next, .slice A5 n5 c5] 73) := ⟨_, rfl⟩
                  have bx := then_ HB5.out (new1 w5 (.cells #[.int .i64 (LL a0 none).next, .slice A5 n5 c5] 73))
                  have N6 : Hid (Own W6 w5.heap.size 73 #[.int .i64 (LL a0 none).next, .slice A5 n5 c5]) := Lib.hid (by rw [hW6]; exact own_new _ _ _)
                  have O6 : Hid (Own W6 w1.heap.size 73 (lsCells (LL a0 (some u)) A' n' c')) := Lib.hid (by rw [hW6]; exact OL.out.below bx)
                  have S6 : Hid (Own W6 w2.heap.size 53 z'.s.arr) := Lib.hid (by rw [hW6]; exact M3.out.os.below bx)
                  have R6 : Hid (Own W6 (w2.heap.size + 1) 31 ((RR z').arr none 0 0 none 0 0)) := Lib.hid (by rw [hW6]; exact M3.out.orr.below bx)
                  have B6 : Hid (Below w.heap.size w W6) := Lib.hid (by rw [hW6]; exact M3.out.bel.trans (bx.mono M3.out.bel.size))
                  have LA6 : Hid (LsFar a0 none A5 n5 c5 w1.heap.size w2.heap.size (w2.heap.size + 1) W6) := Lib.hid ⟨ls_nil H5.out, fun v hv => by cases hv⟩
                  rw [← hW6]
                  clear hW6 bx d30 d31 dz lc0 lc1 dc zc0 zc1 zc2
                  have lc0 := O6.out.cell 0 _ rfl
                  have lc1 := O6.out.cell 1 _ rfl
                  have lf := O6.out.frozen
                  have nc0 := N6.out.cell 0 _ rfl
                  have nc1 := N6.out.cell 1 _ rfl
                  go_wp2
                  go_roundg 0
                  case measure => omega
                  case rel =>
                    refine .inr ⟨rfl, by go_num, A5, n5, c5, ?_, ?_, ?_, ?_, ?_⟩
                    · exact O6.out.s2 _ _
                    · exact LA6.out.s2 _ _ _ (.inl rfl)
                    · exact S6.out.o2 _ (by omega) _ _
                    · exact R6.out.o2 _ (by omega) _ _
                    · exact below_s2 B6.out (by omega) _ _
                · obtain ⟨W6, hW6⟩ : ∃ W6, W6 = (w5.setCell ⟨w3.heap.size, 0, none⟩ (.int .i64 (LL a0 none).next)).setCell ⟨w3.heap.size, 1, none⟩ (.slice A5 n5 c5) := ⟨_, rfl⟩
                  have N6 : Hid (Own W6 w3.heap.size 73 #[.int .i64 (LL a0 none).next, .slice A5 n5 c5]) := Lib.hid (by rw [hW6]; exact N5.out.s2 _ _)
                  have O6 : Hid (Own W6 w1.heap.size 73 (lsCells (LL a0 (some u)) A' n' c')) := Lib.hid (by rw [hW6]; exact (OL.out.below HC5.out).o2 _ (by omega) _ _)
                  have S6 : Hid (Own W6 w2.heap.size 53 z'.s.arr) := Lib.hid (by rw [hW6]; exact (M3.out.os.below HC5.out).o2 _ (by omega) _ _)
                  have R6 : Hid (Own W6 (w2.heap.size + 1) 31 ((RR z').arr none 0 0 none 0 0)) := Lib.hid (by rw [hW6]; exact (M3.out.orr.below HC5.out).o2 _ (by omega) _ _)
                  have B6 : Hid (Below w.heap.size w W6) := Lib.hid (by rw [hW6]; exact below_s2 (M3.out.bel.trans (HC5.out.mono M3.out.bel.size)) M3.out.bel.size _ _)
                  have LA6 : Hid (LsFar a0 none A5 n5 c5 w1.heap.size w2.heap.size (w2.heap.size + 1) W6) := Lib.hid ⟨ls_nil H5.out, fun v hv => by cases hv⟩
                  rw [← hW6]
                  clear hW6 d30 d31 dz lc0 lc1 dc zc0 zc1 zc2 e50 e51 e5f
                  have lc0 := O6.out.cell 0 _ rfl
                  have lc1 := O6.out.cell 1 _ rfl
                  have lf := O6.out.frozen
                  have nc0 := N6.out.cell 0 _ rfl
                  have nc1 := N6.out.cell 1 _ rfl
                  go_wp2
                  go_roundg 0
                  case measure => omega
                  case rel =>
                    refine .inr ⟨rfl, by go_num, A5, n5, c5, ?_, ?_, ?_, ?_, ?_⟩
                    · exact O6.out.s2 _ _
                    · exact LA6.out.s2 _ _ _ (.inl rfl)
                    · exact S6.out.o2 _ (by omega) _ _
                    · exact R6.out.o2 _ (by omega) _ _
                    · exact below_s2 B6.out (by omega) _ _
              · have HM5 := Lib.hid hm5
                clear hm5
                go_wp2
                go_roundg g
                case measure => omega
                case rel => exact ⟨j + 1, drop14 z', A5, n5, c5, by omega, rfl, rfl, rfl, rfl, by go_num, by have := HI2.out.drop; rw [show (274877906944 : Int) + 17 * ((j + 1 : Nat) : Int) = 274877906944 + 17 * (j : Int) + 17 by omega]; exact this, HM5.out⟩
          | true =>
            have sc0 := M3.out.os.cell 0 _ rfl
            have sc1 := M3.out.os.cell 1 _ rfl
            have sc2 := M3.out.os.cell 2 _ rfl
            have sc3 := M3.out.os.cell 3 _ rfl
            go_wp2_with fail
            refine (alive_any z'.s z'.m _).mono ?_; rintro e w4 ⟨rfl, hb4⟩
            rw [hal]
            have M4 := Lib.hid (M3.out.keep hb4)
            have HD4 := Lib.hid (HD.out.below hb4)
            clear hb4 sc0 sc1 sc2 sc3
            go_wp2
            go_loopg [22] 1 (fun g2 k wx => (g2 = 1 ∧ k = .int .i64 0 ∧ wx = w4) ∨ (g2 = 0 ∧ k = .int .i64 1 ∧ ∃ A n c, Mem14 a0 w w1.heap.size w2.heap.size (w2.heap.size + 1) (drop14 z') A n c wx))
            case atStart => exact .inl ⟨rfl, rfl, rfl⟩
            case round =>
              rcases hrel with ⟨rfl, rfl, hw⟩ | ⟨rfl, rfl, A5, n5, c5, hm5⟩
              · obtain rfl : w4 = wr := hw.symm
                obtain ⟨da, zz, rfl, dbl, hz, dc⟩ := Is.at_ HD4.out (show 0 < 1 by omega)
                obtain rfl : 1 = zz := by simpa using hz
                rw [Addr.add_zero'] at dc
                clear hz dbl
                have OL := Lib.hid (hu ▸ M4.out.ol)
                have LA := Lib.hid (hu ▸ M4.out.la)
                have bz := new1 w4 (.cells #[.int .i64 0, .slice none 0 0] 73)
                have CE1 := Lib.hid (send_ok a0 u A' n' c' (World.drew w4) (LA.out.at_.keep (new_drew _)))
                have CE2 := Lib.hid (send_ok a0 u A' n' c' (World.drew (w4.alloc (.cells #[.int .i64 0, .slice none 0 0] 73))) ((LA.out.at_.keep bz).keep (new_drew _)))
                have N4 := Lib.hid (own_new w4 #[.int .i64 0, .slice none 0 0] 73)
                have BZ := Lib.hid bz
                clear bz
                have lc0 : w4.cell? ⟨w1.heap.size, 0, none⟩ = some (.int .i64 (LL a0 (some u)).next) := OL.out.cell 0 _ rfl
                have lc1 : w4.cell? ⟨w1.heap.size, 1, none⟩ = some (.slice A' n' c') := OL.out.cell 1 _ rfl
                have l0 := M4.out.ol.lt; have l1 := M4.out.os.lt; have l2 := M4.out.orr.lt
                have hda : da.block < w4.heap.size := World.block_lt_of_cell? _ _ dc
                have zc0 := (BZ.out.cell (p := ⟨w1.heap.size, 0, none⟩) l0).trans lc0
                have zc1 := (BZ.out.cell (p := ⟨w1.heap.size, 1, none⟩) l0).trans lc1
                have zc2 := (BZ.out.cell (p := da) hda).trans dc
                have ne1 : ¬ (w4.heap.size = w1.heap.size) := by omega
                have ne2 : ¬ (w4.heap.size = da.block) := by omega
                go_wp2
                go_region_held3 (fun w' => w'.cell? ⟨w1.heap.size, 0, none⟩ = some (.int .i64 (LL a0 (some u)).next) ∧ w'.cell? ⟨w1.heap.size, 1, none⟩ = some (.slice A' n' c') ∧ w'.cell? da = some (.int .i64 1)) (go_keep) (first
                  | (go_at_call 46; refine CE1.out.mono ?_; rintro e w5 ⟨A5, n5, c5, rfl, h5, hb5⟩; have HB5 := Lib.hid (then_ (new_drew _) hb5); have H5 := Lib.hid h5; have d30 := (HB5.out.cell (p := ⟨w1.heap.size, 0, none⟩) l0).trans lc0; have d31 := (HB5.out.cell (p := ⟨w1.heap.size, 1, none⟩) l0).trans lc1; have dz := (HB5.out.cell (p := da) hda).trans dc; have hsz5 : w1.heap.size < w5.heap.size := (by have := HB5.out.size; omega); clear hb5 h5)
                  | (go_at_call 46; refine CE2.out.mono ?_; rintro e w5 ⟨A5, n5, c5, rfl, h5, hb5⟩; have HB5 := Lib.hid (then_ (new_drew _) hb5); have H5 := Lib.hid h5; have HC5 := Lib.hid (then_ BZ.out HB5.out); have d30 := (HC5.out.cell (p := ⟨w1.heap.size, 0, none⟩) l0).trans lc0; have d31 := (HC5.out.cell (p := ⟨w1.heap.size, 1, none⟩) l0).trans lc1; have dz := (HC5.out.cell (p := da) hda).trans dc; have N5 := Lib.hid (N4.out.below HB5.out); have e50 := N5.out.cell 0 _ rfl; have e51 := N5.out.cell 1 _ rfl; have e5f := N5.out.frozen; clear hb5 h5))
                · obtain ⟨W6, hW6⟩ : ∃ W6, W6 = w5.alloc (.cells #[.int .i64 (LL a0 none).next, .slice A5 n5 c5] 73) := ⟨_, rfl⟩
                  have bx := then_ HB5.out (new1 w5 (.cells #[.int .i64 (LL a0 none).next, .slice A5 n5 c5] 73))
                  have N6 : Hid (Own W6 w5.heap.size 73 #[.int .i64 (LL a0 none).next, .slice A5 n5 c5]) := Lib.hid (by rw [hW6]; exact own_new _ _ _)
                  have O6 : Hid (Own W6 w1.heap.size 73 (lsCells (LL a0 (some u)) A' n' c')) := Lib.hid (by rw [hW6]; exact OL.out.below bx)
                  have S6 : Hid (Own W6 w2.heap.size 53 z'.s.arr) := Lib.hid (by rw [hW6]; exact M4.out.os.below bx)
                  have R6 : Hid (Own W6 (w2.heap.size + 1) 31 ((RR z').arr none 0 0 none 0 0)) := Lib.hid (by rw [hW6]; exact M4.out.orr.below bx)
                  have B6 : Hid (Below w.heap.size w W6) := Lib.hid (by rw [hW6]; exact M4.out.bel.trans (bx.mono M4.out.bel.size))
                  have LA6 : Hid (LsFar a0 none A5 n5 c5 w1.heap.size w2.heap.size (w2.heap.size + 1) W6) := Lib.hid ⟨ls_nil H5.out, fun v hv => by cases hv⟩
                  rw [← hW6]
                  clear hW6 bx d30 d31 dz lc0 lc1 dc zc0 zc1 zc2
                  have lc0 := O6.out.cell 0 _ rfl
                  have lc1 := O6.out.cell 1 _ rfl
                  have lf := O6.out.frozen
                  have nc0 := N6.out.cell 0 _ rfl
                  have nc1 := N6.out.cell 1 _ rfl
                  go_wp2
                  go_roundg 0
                  case measure => omega
                  case rel =>
                    refine .inr ⟨rfl, by go_num, A5, n5, c5, ?_, ?_, ?_, ?_, ?_⟩
                    · exact O6.out.s2 _ _
                    · exact LA6.out.s2 _ _ _ (.inl rfl)
                    · exact S6.out.o2 _ (by omega) _ _
                    · exact R6.out.o2 _ (by omega) _ _
                    · exact below_s2 B6.out (by omega) _ _
                · obtain ⟨W6, hW6⟩ : ∃ W6, W6 = (w5.setCell ⟨w4.heap.size, 0, none⟩ (.int .i64 (LL a0 none).next)).setCell ⟨w4.heap.size, 1, none⟩ (.slice A5 n5 c5) := ⟨_, rfl⟩
                  have N6 : Hid (Own W6 w4.heap.size 73 #[.int .i64 (LL a0 none).next, .slice A5 n5 c5]) := Lib.hid (by rw [hW6]; exact N5.out.s2 _ _)
                  have O6 : Hid (Own W6 w1.heap.size 73 (lsCells (LL a0 (some u)) A' n' c')) := Lib.hid (by rw [hW6]; exact (OL.out.below HC5.out).o2 _ (by omega) _ _)
                  have S6 : Hid (Own W6 w2.heap.size 53 z'.s.arr) := Lib.hid (by rw [hW6]; exact (M4.out.os.below HC5.out).o2 _ (by omega) _ _)
                  have R6 : Hid (Own W6 (w2.heap.size + 1) 31 ((RR z').arr none 0 0 none 0 0)) := Lib.hid (by rw [hW6]; exact (M4.out.orr.below HC5.out).o2 _ (by omega) _ _)
                  have B6 : Hid (Below w.heap.size w W6) := Lib.hid (by rw [hW6]; exact below_s2 (M4.out.bel.trans (HC5.out.mono M4.out.bel.size)) M4.out.bel.size _ _)
                  have LA6 : Hid (LsFar a0 none A5 n5 c5 w1.heap.size w2.heap.size (w2.heap.size + 1) W6) := Lib.hid ⟨ls_nil H5.out, fun v hv => by cases hv⟩
                  rw [← hW6]
                  clear hW6 d30 d31 dz lc0 lc1 dc zc0 zc1 zc2 e50 e51 e5f
                  have lc0 := O6.out.cell 0 _ rfl
                  have lc1 := O6.out.cell 1 _ rfl
                  have lf := O6.out.frozen
                  have nc0 := N6.out.cell 0 _ rfl
                  have nc1 := N6.out.cell 1 _ rfl
                  go_wp2
                  go_roundg 0
                  case measure => omega
                  case rel =>
                    refine .inr ⟨rfl, by go_num, A5, n5, c5, ?_, ?_, ?_, ?_, ?_⟩
                    · exact O6.out.s2 _ _
                    · exact LA6.out.s2 _ _ _ (.inl rfl)
                    · exact S6.out.o2 _ (by omega) _ _
                    · exact R6.out.o2 _ (by omega) _ _
                    · exact below_s2 B6.out (by omega) _ _
              · have HM5 := Lib.hid hm5
                clear hm5
                go_wp2
                go_roundg g
                case measure => omega
                case rel => exact ⟨j + 1, drop14 z', A5, n5, c5, by omega, rfl, rfl, rfl, rfl, by go_num, by have := HI2.out.drop; rw [show (274877906944 : Int) + 17 * ((j + 1 : Nat) : Int) = 274877906944 + 17 * (j : Int) + 17 by omega]; exact this, HM5.out⟩
        · have hD0 : Is w3 D m d [] := by
            rw [show dueN z'.le z'.t = [] by
              cases hle : z'.le with
              | none => rfl
              | some u => exact if_neg (fun h => hdue ⟨u, hle, h⟩)] at hD
            exact hD
          obtain rfl : 0 = m := hD0.len
          clear hD hD0 hdue
          cases bb with
          | false =>
            go_wp2
            go_loopg [22] 0 (fun g2 k wx => k = .int .i64 0 ∧ wx = w3)
            case atStart => exact ⟨rfl, rfl⟩
            case round =>
              obtain ⟨rfl, rfl⟩ := hrel
              go_wp2
              go_roundg g
              case measure => omega
              case rel => exact ⟨j + 1, z', A', n', c', by omega, rfl, rfl, rfl, rfl, by go_num, by have := HI2.out; rw [show (274877906944 : Int) + 17 * ((j + 1 : Nat) : Int) = 274877906944 + 17 * (j : Int) + 17 by omega]; exact this, M3.out⟩
          | true =>
            cases hal : aliveB z'.s z'.m with
            | false =>
              have sc0 := M3.out.os.cell 0 _ rfl
              have sc1 := M3.out.os.cell 1 _ rfl
              have sc2 := M3.out.os.cell 2 _ rfl
              have sc3 := M3.out.os.cell 3 _ rfl
              go_wp2_with fail
              refine (alive_any z'.s z'.m _).mono ?_; rintro e w4 ⟨rfl, hb4⟩
              rw [hal]
              have M4 := Lib.hid (M3.out.keep hb4)
              clear hb4 sc0 sc1 sc2 sc3
              go_wp2
              go_loopg [22] 0 (fun g2 k wx => k = .int .i64 0 ∧ wx = w4)
              case atStart => exact ⟨rfl, rfl⟩
              case round =>
                obtain ⟨rfl, rfl⟩ := hrel
                go_wp2
                go_roundg g
                case measure => omega
                case rel => exact ⟨j + 1, z', A', n', c', by omega, rfl, rfl, rfl, rfl, by go_num, by have := HI2.out; rw [show (274877906944 : Int) + 17 * ((j + 1 : Nat) : Int) = 274877906944 + 17 * (j : Int) + 17 by omega]; exact this, M4.out⟩
            | true =>
              have sc0 := M3.out.os.cell 0 _ rfl
              have sc1 := M3.out.os.cell 1 _ rfl
              have sc2 := M3.out.os.cell 2 _ rfl
              have sc3 := M3.out.os.cell 3 _ rfl
              go_wp2_with fail
              refine (alive_any z'.s z'.m _).mono ?_; rintro e w4 ⟨rfl, hb4⟩
              rw [hal]
              have M4 := Lib.hid (M3.out.keep hb4)
              clear hb4 sc0 sc1 sc2 sc3
              go_wp2
              go_loopg [22] 0 (fun g2 k wx => k = .int .i64 0 ∧ wx = w4)
              case atStart => exact ⟨rfl, rfl⟩
              case round =>
                obtain ⟨rfl, rfl⟩ := hrel
                go_wp2
                go_roundg g
                case measure => omega
                case rel => exact ⟨j + 1, z', A', n', c', by omega, rfl, rfl, rfl, rfl, by go_num, by have := HI2.out; rw [show (274877906944 : Int) + 17 * ((j + 1 : Nat) : Int) = 274877906944 + 17 * (j : Int) + 17 by omega]; exact this, M4.out⟩

theorem walk (w : World) (a0 a1 b1 : Int) (A2 : Option Addr) (n2 c2 : Nat) (l2 : List (Int × Int × Int)) (w0 : (Lit.int .i64 a0).wf = true) (w1 : (Lit.int .i64 a1).wf = true) (u1 : (Lit.int .i64 b1).wf = true) (k2 : RowsOf threeC 3 w A2 n2 c2 l2 ∧ ∀ z ∈ l2, threeOk z) :
    Calls Try.prog 11 #[.int .i64 a0, .agg #[.int .i64 a1, .int .i64 b1], .slice A2 n2 c2] w fun e w' => e = .returned (.bool true) ∧ Below w.heap.size w w' := by
  by_cases h0 : (200 : Int) < (n2 : Int)
  · exact out0 w a0 a1 b1 A2 n2 c2 h0
  · by_cases h1 : a1 < 0
    · exact out1 w a0 a1 b1 A2 n2 c2 h0 h1
    · by_cases h2 : 274877906944 < a1
      · exact out2 w a0 a1 b1 A2 n2 c2 h0 h1 h2
      · by_cases h3 : b1 < 0
        · exact out3 w a0 a1 b1 A2 n2 c2 h0 h1 h2 h3
        · by_cases h4 : 274877906944 < b1
          · exact out4 w a0 a1 b1 A2 n2 c2 h0 h1 h2 h3 h4
          · cases hg : (ttlB a0 && atB b1) with
            | false => exact nogrant w a0 a1 b1 A2 n2 c2 h0 h1 h2 h3 h4 hg
            | true => exact main w a0 a1 b1 A2 n2 c2 l2 k2.1 h0 h1 h2 h3 h4 hg

theorem own : ownKnob Try.prog.godebug = none := by kernel_rfl
theorem laidOut : laidOutB Try.prog = true := by kernel_rfl

set_option maxRecDepth 100000 in
theorem lifted (os : Os) (started : os.Started) (H : Type) (enc : TypeId × Value → H) :
    ReturnsInHanded {} Try.checked os 11 .any (Rows.sessSafeSpec.pre6 enc Try.prog Try.f11 Rows.sessSafeRow.domain false) (Rows.sessSafeSpec.post enc Try.prog Try.f11 false true false false) := by
  refine returnsInHanded_of_change (C := Try.checked) own started (by kernel_rfl) Try.func11
    (ChangeSpec.witness6 (enc := enc) (C := Try.checked) false ⟨#[], #[(.int .i64 0), .agg #[.int .i64 0, .int .i64 0], .slice none 0 0], []⟩ 8 (by kernel_rfl) (by kernel_rfl) (by kernel_rfl) (by kernel_rfl)) ?_
  intro W base args ds gs before hval0 hW hcnd _
  have hval : ∀ (j : Nat) t v, Try.f11.params[j]? = some t → args[j]? = some v → Value.okWide Try.prog W .any base t v := hval0
  have hW' := hW
  obtain ⟨p, q, hA0, hV, rfl, hfz, hnd⟩ := hW
  have hA : DataW.TrodAll enc Try.prog W 0 (fun _ => true) true Try.f11.params.toList args.toList ds p := hA0
  rw [Try.params11] at hA hval
  obtain ⟨v0, vs0, d0, ds0, p0, q0, hargs, rfl, rfl, h0, r0⟩ := trodAll_cons hA
  obtain ⟨v1, vs1, d1, ds1, p1, q1, rfl, rfl, rfl, h1, r1⟩ := trodAll_cons r0
  obtain ⟨v2, vs2, d2, ds2, p2, q2, rfl, rfl, rfl, h2, r2⟩ := trodAll_cons r1
  obtain ⟨rfl, rfl, rfl⟩ := trodAll_nil r2
  obtain rfl : args = #[v0, v1, v2] := by cases args; simp_all
  obtain ⟨rfl, rfl⟩ := trodVars_none hV
  obtain ⟨a0, rfl, rfl, rfl, w0⟩ := open_int Try.underlying3 (hval 0 3 v0 rfl rfl) h0
  obtain ⟨a1, b1, rfl, rfl, rfl, w1, u1⟩ := open_two_int Try.underlying26 Try.underlying3 (by kernel_rfl) (by kernel_rfl) (hval 1 26 v1 rfl rfl) h1
  obtain ⟨A2, n2, c2, l2, rfl, k2⟩ := open_threes (hval 2 70 v2 rfl rfl) h2
  clear hA0 hval0
  refine (walk W a0 a1 b1 A2 n2 c2 l2 w0 w1 u1 k2).mono fun e W' ⟨he, bel⟩ => ?_
  subst he
  exact ⟨_, rfl, _, _, _, [], _, [], hW', trodAll_mk1 (shut_bool Try.underlying4 _), (trodAll_cons_mk (shut_int Try.underlying3 w0) (trodAll_cons_mk (shut_two_int Try.underlying26 Try.underlying3 (by kernel_rfl) (by kernel_rfl) w1 u1) (trodAll_cons_mk (Below.trod laidOut (by kernel_rfl) (of_decide_eq_true (by kernel_rfl)) h2 bel (fun x hx => hW'.lt x (by simp [hx]))) trodAll_mk0))), rfl, bel.frame _, fun h => by cases h⟩

theorem over : Rows.sessSafeRow.holds Try.pinned (OpenSpec.ofChange Rows.sessSafeSpec) :=
  OpenClaim.holds_of_wide 11 Try.f11 rfl rfl rfl rfl rfl rfl rfl ⟨rfl, rfl, rfl, rfl, rfl⟩ rfl rfl rfl rfl rfl (by kernel_rfl) Try.func11 (by kernel_rfl)
    (of_decide_eq_true (by kernel_rfl)) (by unfold Func.isWrapper; first | (rw [if_pos (by decide +kernel)]; kernel_rfl) | (rw [if_neg (by decide +kernel)]; exact ⟨rfl, rfl⟩))
    (fun os started H enc _ => lifted os started H enc)

theorem proved : Rows.SessSafeSaid := over
#print axioms proved
end Go.Proofs.Ytpecgkkhjkfmmaa.sessSafe
