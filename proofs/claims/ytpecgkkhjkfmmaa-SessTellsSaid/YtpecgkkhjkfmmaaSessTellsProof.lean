/- For every session, every time and every reply the law SessTells answers true: a session that begins by any reply, whether any one is alive and is to be kept, and what is asked for it, are as the document says. No condition. -/
import Derived.Test.YtpecgkkhjkfmmaaSsLive
import Derived.Test.YtpecgkkhjkfmmaaKeyTwo
import Derived.Lib.QuietBelow
import Derived.Test.YtpecgkkhjkfmmaaRows
namespace Go.Proofs.Ytpecgkkhjkfmmaa.sessTells
open Go.ChangeShapes Go.WideShapes Go.ChangeAt Go.RowKit Go.Sort Go.Proofs.Ytpecgkkhjkfmmaa.P
open Go.ChangeMaps (open_string shut_string)
set_option maxHeartbeats 1000000
set_option linter.unusedVariables false
set_option linter.unusedSimpArgs false
set_option maxRecDepth 100000

theorem same_asks (ttl : Int) (w : World) : Calls Try.prog 34 #[asksV ttl, asksV ttl] w fun e w' => e = .returned (.bool true) ∧ Below w.heap.size w w' := same_plain _ _ _ _ _ _ _ _ _ _ w
theorem same_keeps (s : Se) (w : World) : Calls Try.prog 34 #[keepsV s, keepsV s] w fun e w' => e = .returned (.bool true) ∧ Below w.heap.size w w' := same_plain _ _ _ _ _ _ _ _ _ _ w
theorem long0 (w : World) (s0 : Se) (a1 : Int) (y2 : Rp) (A2 : Option Addr) (n2 c2 : Nat) (B2 : Option Addr) (m2 d2 : Nat) (k2 : RpAt w y2 A2 n2 c2 B2 m2 d2) (hs : fewB 40 y2.kvs = false) :
    Calls Try.prog 8 #[s0.agg, .int .i64 a1, y2.agg A2 n2 c2 B2 m2 d2] w fun e w' => e = .returned (.bool true) ∧ Below w.heap.size w w' := by
  have HS := Lib.hid hs; clear hs
  have b0 := then_ (new1 w (.cells s0.arr 53)) (new1 _ (.cells (y2.arr A2 n2 c2 B2 m2 d2) 31))
  have K_0 := Lib.hid (k2.keep b0)
  have B_0 := Lib.hid b0
  have S_0 := Lib.hid ((own_new w s0.arr 53).alloc (.cells (y2.arr A2 n2 c2 B2 m2 d2) 31))
  have X_0 := Lib.hid (own_new2 w (.cells s0.arr 53) (y2.arr A2 n2 c2 B2 m2 d2) 31)
  clear b0 k2
  go_enter Try.func8, Try.ntmps8
  have xc7 := X_0.out.cell 7 _ rfl
  have xc8 := X_0.out.cell 8 _ rfl
  go_wp2_with fail
  refine ((few_any A2 n2 c2 y2.kvs 40 _ K_0.out.kvs (by omega))).mono ?_; rintro e w' ⟨rfl, rfl⟩
  rw [HS.out]
  go_wp2_with fail
  refine (live_any _).mono ?_; rintro e w1 ⟨rfl, hb⟩
  have S_1 := Lib.hid hb; clear hb
  have K_2 := Lib.hid (K_0.out.keep S_1.out)
  have S_3 := Lib.hid (S_0.out.below S_1.out)
  have X_4 := Lib.hid (X_0.out.below S_1.out)
  have B_5 := Lib.hid (then_ B_0.out S_1.out)
  clear K_0 S_0 X_0 B_0
  clear S_1
  go_wp2
  go_ret
  exact ⟨rfl, B_5.out⟩
theorem long1 (w : World) (s0 : Se) (a1 : Int) (y2 : Rp) (A2 : Option Addr) (n2 c2 : Nat) (B2 : Option Addr) (m2 d2 : Nat) (k2 : RpAt w y2 A2 n2 c2 B2 m2 d2) (hs : fewB 40 y2.kvs = true) (ht : fewE 40 y2.evs = false) :
    Calls Try.prog 8 #[s0.agg, .int .i64 a1, y2.agg A2 n2 c2 B2 m2 d2] w fun e w' => e = .returned (.bool true) ∧ Below w.heap.size w w' := by
  have HS := Lib.hid hs; clear hs
  have HT := Lib.hid ht; clear ht
  have b0 := then_ (new1 w (.cells s0.arr 53)) (new1 _ (.cells (y2.arr A2 n2 c2 B2 m2 d2) 31))
  have K_0 := Lib.hid (k2.keep b0)
  have B_0 := Lib.hid b0
  have S_0 := Lib.hid ((own_new w s0.arr 53).alloc (.cells (y2.arr A2 n2 c2 B2 m2 d2) 31))
  have X_0 := Lib.hid (own_new2 w (.cells s0.arr 53) (y2.arr A2 n2 c2 B2 m2 d2) 31)
  clear b0 k2
  go_enter Try.func8, Try.ntmps8
  have xc7 := X_0.out.cell 7 _ rfl
  have xc8 := X_0.out.cell 8 _ rfl
  go_wp2_with fail
  refine ((few_any A2 n2 c2 y2.kvs 40 _ K_0.out.kvs (by omega))).mono ?_; rintro e w' ⟨rfl, rfl⟩
  rw [HS.out]
  go_wp2_with fail
  refine ((fewe_any B2 m2 d2 y2.evs 40 _ K_0.out.evs (by omega))).mono ?_; rintro e w' ⟨rfl, rfl⟩
  rw [HT.out]
  go_wp2_with fail
  refine (live_any _).mono ?_; rintro e w1 ⟨rfl, hb⟩
  have S_1 := Lib.hid hb; clear hb
  have K_2 := Lib.hid (K_0.out.keep S_1.out)
  have S_3 := Lib.hid (S_0.out.below S_1.out)
  have X_4 := Lib.hid (X_0.out.below S_1.out)
  have B_5 := Lib.hid (then_ B_0.out S_1.out)
  clear K_0 S_0 X_0 B_0
  clear S_1
  go_wp2
  go_ret
  exact ⟨rfl, B_5.out⟩
theorem main (w : World) (s0 : Se) (a1 : Int) (y2 : Rp) (A2 : Option Addr) (n2 c2 : Nat) (B2 : Option Addr) (m2 d2 : Nat) (k2 : RpAt w y2 A2 n2 c2 B2 m2 d2) (hs : fewB 40 y2.kvs = true) (ht : fewE 40 y2.evs = true) :
    Calls Try.prog 8 #[s0.agg, .int .i64 a1, y2.agg A2 n2 c2 B2 m2 d2] w fun e w' => e = .returned (.bool true) ∧ Below w.heap.size w w' := by
  have HS := Lib.hid hs; clear hs
  have HT := Lib.hid ht; clear ht
  have cP : ∀ w, RpAt w y2 A2 n2 c2 B2 m2 d2 → Calls Try.prog 28 #[.int .i64 a1, y2.agg A2 n2 c2 B2 m2 d2] w fun e w' => e = .returned (.tuple #[(beginS a1 y2).agg, .bool (beginB a1 y2)]) ∧ Below w.heap.size w w' := fun w h => begin_any a1 y2 _ _ _ _ _ _ w h
  have cR : ∀ w, RpAt w y2 A2 n2 c2 B2 m2 d2 → Calls Try.prog 29 #[.int .i64 a1, y2.agg A2 n2 c2 B2 m2 d2] w fun e w' => e = .returned (.tuple #[(beginS a1 y2).agg, .bool (beginB a1 y2)]) ∧ Below w.heap.size w w' := fun w h => beginr_any a1 y2 _ _ _ _ _ _ w h
  generalize beginS a1 y2 = z at cP cR
  generalize beginB a1 y2 = bb at cP cR
  have CP := Lib.hid cP; have CR := Lib.hid cR; clear cP cR
  have b0 := then_ (new1 w (.cells s0.arr 53)) (new1 _ (.cells (y2.arr A2 n2 c2 B2 m2 d2) 31))
  have K_0 := Lib.hid (k2.keep b0)
  have B_0 := Lib.hid b0
  have S_0 := Lib.hid ((own_new w s0.arr 53).alloc (.cells (y2.arr A2 n2 c2 B2 m2 d2) 31))
  have X_0 := Lib.hid (own_new2 w (.cells s0.arr 53) (y2.arr A2 n2 c2 B2 m2 d2) 31)
  clear b0 k2
  go_enter Try.func8, Try.ntmps8
  have xc7 := X_0.out.cell 7 _ rfl
  have xc8 := X_0.out.cell 8 _ rfl
  go_wp2_with fail
  refine ((few_any A2 n2 c2 y2.kvs 40 _ K_0.out.kvs (by omega))).mono ?_; rintro e w' ⟨rfl, rfl⟩
  rw [HS.out]
  go_wp2_with fail
  refine ((fewe_any B2 m2 d2 y2.evs 40 _ K_0.out.evs (by omega))).mono ?_; rintro e w' ⟨rfl, rfl⟩
  rw [HT.out]
  clear xc7 xc8
  have xc0 := X_0.out.cell 0 _ rfl
  have xc1 := X_0.out.cell 1 _ rfl
  have xc2 := X_0.out.cell 2 _ rfl
  have xc3 := X_0.out.cell 3 _ rfl
  have xc4 := X_0.out.cell 4 _ rfl
  have xc5 := X_0.out.cell 5 _ rfl
  have xc6 := X_0.out.cell 6 _ rfl
  have xc7 := X_0.out.cell 7 _ rfl
  have xc8 := X_0.out.cell 8 _ rfl
  go_wp2_with fail
  refine (CP.out _ K_0.out).mono ?_; rintro e w1 ⟨rfl, hb⟩
  have S_1 := Lib.hid hb; clear hb
  have K_2 := Lib.hid (K_0.out.keep S_1.out)
  have S_3 := Lib.hid (S_0.out.below S_1.out)
  have X_4 := Lib.hid (X_0.out.below S_1.out)
  have B_5 := Lib.hid (then_ B_0.out S_1.out)
  clear K_0 S_0 X_0 B_0
  clear S_1
  clear xc0 xc1 xc2 xc3 xc4 xc5 xc6 xc7 xc8
  have K_6 := Lib.hid (K_2.out.keep (new1 w1 (.cells #[.int .i64 z.lease, .int .i64 z.ttl, .int .i64 z.til, .int .i64 z.kp] 53)))
  have S_7 := Lib.hid (S_3.out.below (new1 w1 (.cells #[.int .i64 z.lease, .int .i64 z.ttl, .int .i64 z.til, .int .i64 z.kp] 53)))
  have X_8 := Lib.hid (X_4.out.below (new1 w1 (.cells #[.int .i64 z.lease, .int .i64 z.ttl, .int .i64 z.til, .int .i64 z.kp] 53)))
  have B_9 := Lib.hid (then_ B_5.out (new1 w1 (.cells #[.int .i64 z.lease, .int .i64 z.ttl, .int .i64 z.til, .int .i64 z.kp] 53)))
  clear K_2 S_3 X_4 B_5
  have P_10 := Lib.hid (own_new w1 #[.int .i64 z.lease, .int .i64 z.ttl, .int .i64 z.til, .int .i64 z.kp] 53)
  have xc0 := X_8.out.cell 0 _ rfl
  have xc1 := X_8.out.cell 1 _ rfl
  have xc2 := X_8.out.cell 2 _ rfl
  have xc3 := X_8.out.cell 3 _ rfl
  have xc4 := X_8.out.cell 4 _ rfl
  have xc5 := X_8.out.cell 5 _ rfl
  have xc6 := X_8.out.cell 6 _ rfl
  have xc7 := X_8.out.cell 7 _ rfl
  have xc8 := X_8.out.cell 8 _ rfl
  go_wp2_with fail
  refine (CR.out _ K_6.out).mono ?_; rintro e w2 ⟨rfl, hb⟩
  have S_11 := Lib.hid hb; clear hb
  have K_12 := Lib.hid (K_6.out.keep S_11.out)
  have S_13 := Lib.hid (S_7.out.below S_11.out)
  have X_14 := Lib.hid (X_8.out.below S_11.out)
  have P_15 := Lib.hid (P_10.out.below S_11.out)
  have B_16 := Lib.hid (then_ B_9.out S_11.out)
  clear K_6 S_7 X_8 P_10 B_9
  clear S_11
  clear xc0 xc1 xc2 xc3 xc4 xc5 xc6 xc7 xc8
  have K_17 := Lib.hid (K_12.out.keep (new1 w2 (.cells #[.int .i64 z.lease, .int .i64 z.ttl, .int .i64 z.til, .int .i64 z.kp] 53)))
  have S_18 := Lib.hid (S_13.out.below (new1 w2 (.cells #[.int .i64 z.lease, .int .i64 z.ttl, .int .i64 z.til, .int .i64 z.kp] 53)))
  have X_19 := Lib.hid (X_14.out.below (new1 w2 (.cells #[.int .i64 z.lease, .int .i64 z.ttl, .int .i64 z.til, .int .i64 z.kp] 53)))
  have P_20 := Lib.hid (P_15.out.below (new1 w2 (.cells #[.int .i64 z.lease, .int .i64 z.ttl, .int .i64 z.til, .int .i64 z.kp] 53)))
  have B_21 := Lib.hid (then_ B_16.out (new1 w2 (.cells #[.int .i64 z.lease, .int .i64 z.ttl, .int .i64 z.til, .int .i64 z.kp] 53)))
  clear K_12 S_13 X_14 P_15 B_16
  have R_22 := Lib.hid (own_new w2 #[.int .i64 z.lease, .int .i64 z.ttl, .int .i64 z.til, .int .i64 z.kp] 53)
  obtain ⟨W, hW⟩ : ∃ W, W = w2.alloc (.cells #[.int .i64 z.lease, .int .i64 z.ttl, .int .i64 z.til, .int .i64 z.kp] 53) := ⟨_, rfl⟩
  rw [← hW] at S_18
  rw [← hW] at P_20
  rw [← hW] at R_22
  rw [← hW] at B_21
  clear K_17
  clear X_19
  have sc0 := S_18.out.cell 0 _ rfl
  have sc1 := S_18.out.cell 1 _ rfl
  have sc2 := S_18.out.cell 2 _ rfl
  have sc3 := S_18.out.cell 3 _ rfl
  have rsc0 := fun d os => cell_regrown sc0 d os
  have rsc1 := fun d os => cell_regrown sc1 d os
  have rsc2 := fun d os => cell_regrown sc2 d os
  have rsc3 := fun d os => cell_regrown sc3 d os
  have pc0 := P_20.out.cell 0 _ rfl
  have pc1 := P_20.out.cell 1 _ rfl
  have pc2 := P_20.out.cell 2 _ rfl
  have pc3 := P_20.out.cell 3 _ rfl
  have rpc0 := fun d os => cell_regrown pc0 d os
  have rpc1 := fun d os => cell_regrown pc1 d os
  have rpc2 := fun d os => cell_regrown pc2 d os
  have rpc3 := fun d os => cell_regrown pc3 d os
  have rc0 := R_22.out.cell 0 _ rfl
  have rc1 := R_22.out.cell 1 _ rfl
  have rc2 := R_22.out.cell 2 _ rfl
  have rc3 := R_22.out.cell 3 _ rfl
  have rrc0 := fun d os => cell_regrown rc0 d os
  have rrc1 := fun d os => cell_regrown rc1 d os
  have rrc2 := fun d os => cell_regrown rc2 d os
  have rrc3 := fun d os => cell_regrown rc3 d os
  have cA := fun d os => Calls.regrown_of (d := d) (os := os) (w := W) (alive_any s0 a1 _)
  have cB := fun d os => Calls.regrown_of (d := d) (os := os) (w := W) (aliver_any s0 a1 _)
  have cC := fun d os => Calls.regrown_of (d := d) (os := os) (w := W) (sdue_any s0 a1 _)
  have cD := fun d os => Calls.regrown_of (d := d) (os := os) (w := W) (sduer_any s0 a1 _)
  have cE := fun d os => Calls.regrown_of (d := d) (os := os) (w := W) (asks_any a1 _)
  have cF := fun d os => Calls.regrown_of (d := d) (os := os) (w := W) (asksr_any a1 _)
  have cG := fun d os => Calls.regrown_of (d := d) (os := os) (w := W) (keeps_any s0 _)
  have cH := fun d os => Calls.regrown_of (d := d) (os := os) (w := W) (keepsr_any s0 _)
  have cI := fun d os => Calls.regrown_of (d := d) (os := os) (w := W) (same_asks a1 _)
  have cJ := fun d os => Calls.regrown_of (d := d) (os := os) (w := W) (same_keeps s0 _)
  have cL := fun d os => Calls.regrown_of (d := d) (os := os) (w := W) (live_any _)
  have hse := se_eq
  have hbb : ∀ b : Bool, (b == b) = true := fun b => by simp
  generalize aliveB s0 a1 = u at *
  generalize sdueB s0 a1 = v at *
  generalize asksV a1 = x1 at *
  generalize keepsV s0 = x2 at *
  go_wp2_with fail
  rw [← hW]
  clear hW
  refine wp_region_quiet_below (by kernel_rfl) (by kernel_rfl) ?_
  repeat (go_big_quiet_step (first | (with_reducible exact cA _ _) | (with_reducible exact cB _ _) | (with_reducible exact cC _ _) | (with_reducible exact cD _ _) | (with_reducible exact cE _ _) | (with_reducible exact cF _ _) | (with_reducible exact cG _ _) | (with_reducible exact cH _ _) | (with_reducible exact cI _ _) | (with_reducible exact cJ _ _) | (with_reducible exact cL _ _)))
  refine wpQuiet_nil ?_
  intro _ hw'
  obtain ⟨⟨d, os⟩, rfl⟩ := hw'
  go_wp2
  go_ret
  exact ⟨rfl, below_grow B_21.out B_21.out.size _ _⟩

theorem walk (w : World) (s0 : Se) (a1 : Int) (y2 : Rp) (A2 : Option Addr) (n2 c2 : Nat) (B2 : Option Addr) (m2 d2 : Nat) (k0 : SeAt w s0) (w1 : (Lit.int .i64 a1).wf = true) (k2 : RpAt w y2 A2 n2 c2 B2 m2 d2) :
    Calls Try.prog 8 #[s0.agg, .int .i64 a1, y2.agg A2 n2 c2 B2 m2 d2] w fun e w' => e = .returned (.bool true) ∧ Below w.heap.size w w' := by
  cases hs : fewB 40 y2.kvs with
  | false => exact long0 w s0 a1 y2 A2 n2 c2 B2 m2 d2 k2 hs
  | true =>
    cases ht : fewE 40 y2.evs with
    | false => exact long1 w s0 a1 y2 A2 n2 c2 B2 m2 d2 k2 hs ht
    | true => exact main w s0 a1 y2 A2 n2 c2 B2 m2 d2 k2 hs ht

theorem own : ownKnob Try.prog.godebug = none := by kernel_rfl
theorem laidOut : laidOutB Try.prog = true := by kernel_rfl

set_option maxRecDepth 100000 in
theorem lifted (os : Os) (started : os.Started) (H : Type) (enc : TypeId × Value → H) :
    ReturnsInHanded {} Try.checked os 8 .any (Rows.sessTellsSpec.pre6 enc Try.prog Try.f8 Rows.sessTellsRow.domain false) (Rows.sessTellsSpec.post enc Try.prog Try.f8 false true false false) := by
  refine returnsInHanded_of_change (C := Try.checked) own started (by kernel_rfl) Try.func8
    (ChangeSpec.witness6 (enc := enc) (C := Try.checked) false ⟨#[], #[.agg #[.int .i64 0, .int .i64 0, .int .i64 0, .int .i64 0], (.int .i64 0), .agg #[.int .i64 0, .int .i64 0, .int .i64 0, .int .i64 0, .int .i64 0, .int .i64 0, .bool false, .slice none 0 0, .slice none 0 0]], []⟩ 8 (by kernel_rfl) (by kernel_rfl) (by kernel_rfl) (by kernel_rfl)) ?_
  intro W base args ds gs before hval0 hW hcnd _
  have hval : ∀ (j : Nat) t v, Try.f8.params[j]? = some t → args[j]? = some v → Value.okWide Try.prog W .any base t v := hval0
  have hW' := hW
  obtain ⟨p, q, hA0, hV, rfl, hfz, hnd⟩ := hW
  have hA : DataW.TrodAll enc Try.prog W 0 (fun _ => true) true Try.f8.params.toList args.toList ds p := hA0
  rw [Try.params8] at hA hval
  obtain ⟨v0, vs0, d0, ds0, p0, q0, hargs, rfl, rfl, h0, r0⟩ := trodAll_cons hA
  obtain ⟨v1, vs1, d1, ds1, p1, q1, rfl, rfl, rfl, h1, r1⟩ := trodAll_cons r0
  obtain ⟨v2, vs2, d2, ds2, p2, q2, rfl, rfl, rfl, h2, r2⟩ := trodAll_cons r1
  obtain ⟨rfl, rfl, rfl⟩ := trodAll_nil r2
  obtain rfl : args = #[v0, v1, v2] := by cases args; simp_all
  obtain ⟨rfl, rfl⟩ := trodVars_none hV
  obtain ⟨s0, rfl, k0⟩ := open_se (hval 0 53 v0 rfl rfl) h0
  obtain ⟨a1, rfl, rfl, rfl, w1⟩ := open_int Try.underlying3 (hval 1 3 v1 rfl rfl) h1
  obtain ⟨y2, A2, n2, c2, B2, m2, d2, rfl, k2⟩ := open_rp (hval 2 31 v2 rfl rfl) h2
  clear hA0 hval0
  refine (walk W s0 a1 y2 A2 n2 c2 B2 m2 d2 k0 w1 k2).mono fun e W' ⟨he, bel⟩ => ?_
  subst he
  exact ⟨_, rfl, _, _, _, [], _, [], hW', trodAll_mk1 (shut_bool Try.underlying4 _), (trodAll_cons_mk (Below.trod laidOut (by kernel_rfl) (of_decide_eq_true (by kernel_rfl)) h0 bel (fun x hx => hW'.lt x (by simp [hx]))) (trodAll_cons_mk (shut_int Try.underlying3 w1) (trodAll_cons_mk (Below.trod laidOut (by kernel_rfl) (of_decide_eq_true (by kernel_rfl)) h2 bel (fun x hx => hW'.lt x (by simp [hx]))) trodAll_mk0))), rfl, bel.frame _, fun h => by cases h⟩

theorem over : Rows.sessTellsRow.holds Try.pinned (OpenSpec.ofChange Rows.sessTellsSpec) :=
  OpenClaim.holds_of_wide 8 Try.f8 rfl rfl rfl rfl rfl rfl rfl ⟨rfl, rfl, rfl, rfl, rfl⟩ rfl rfl rfl rfl rfl (by kernel_rfl) Try.func8 (by kernel_rfl)
    (of_decide_eq_true (by kernel_rfl)) (by unfold Func.isWrapper; first | (rw [if_pos (by decide +kernel)]; kernel_rfl) | (rw [if_neg (by decide +kernel)]; exact ⟨rfl, rfl⟩))
    (fun os started H enc _ => lifted os started H enc)

theorem proved : Rows.SessTellsSaid := over
#print axioms proved
end Go.Proofs.Ytpecgkkhjkfmmaa.sessTells
