/- For every session, every time and every reply the law SessKeeps answers true: what the program keeps of the session is what the document says. No condition. -/
import Derived.Test.YtpecgkkhjkfmmaaSsLive
import Derived.Test.YtpecgkkhjkfmmaaKeyTwo
import Derived.Lib.QuietBelow
import Derived.Test.YtpecgkkhjkfmmaaRows
namespace Go.Proofs.Ytpecgkkhjkfmmaa.sessKeeps
open Go.ChangeShapes Go.WideShapes Go.ChangeAt Go.RowKit Go.Sort Go.Proofs.Ytpecgkkhjkfmmaa.P
open Go.ChangeMaps (open_string shut_string)
set_option maxHeartbeats 1000000
set_option linter.unusedVariables false
set_option linter.unusedSimpArgs false
set_option maxRecDepth 100000

theorem long0 (w : World) (s0 : Se) (a1 : Int) (y2 : Rp) (A2 : Option Addr) (n2 c2 : Nat) (B2 : Option Addr) (m2 d2 : Nat) (k2 : RpAt w y2 A2 n2 c2 B2 m2 d2) (hs : fewB 40 y2.kvs = false) :
    Calls Try.prog 9 #[s0.agg, .int .i64 a1, y2.agg A2 n2 c2 B2 m2 d2] w fun e w' => e = .returned (.bool true) ∧ Below w.heap.size w w' := by
  have HS := Lib.hid hs; clear hs
  have b0 := then_ (new1 w (.cells s0.arr 53)) (new1 _ (.cells (y2.arr A2 n2 c2 B2 m2 d2) 31))
  have K_0 := Lib.hid (k2.keep b0)
  have B_0 := Lib.hid b0
  have S_0 := Lib.hid ((own_new w s0.arr 53).alloc (.cells (y2.arr A2 n2 c2 B2 m2 d2) 31))
  have X_0 := Lib.hid (own_new2 w (.cells s0.arr 53) (y2.arr A2 n2 c2 B2 m2 d2) 31)
  clear b0 k2
  go_enter Try.func9, Try.ntmps9
  have xc7 := X_0.out.cell 7 _ rfl
  have xc8 := X_0.out.cell 8 _ rfl
  go_wp2_with fail
  refine ((few_any A2 n2 c2 y2.kvs 40 _ K_0.out.kvs (by omega))).mono ?_; rintro e w' ⟨rfl, rfl⟩
  rw [HS.out]
  go_wp2_with fail
  refine (live_any _).mono ?_; rintro e w1 ⟨rfl, hb⟩
  have S_1 := Lib.hid hb; clear hb
  have K_2 := Lib.hid (K_0.out.keep S_1.out)
  have S_3 := Lib.hid (S_0.out.below S_1.out)
  have X_4 := Lib.hid (X_0.out.below S_1.out)
  have B_5 := Lib.hid (then_ B_0.out S_1.out)
  clear K_0 S_0 X_0 B_0
  clear S_1
  go_wp2
  go_ret
  exact ⟨rfl, B_5.out⟩
theorem long1 (w : World) (s0 : Se) (a1 : Int) (y2 : Rp) (A2 : Option Addr) (n2 c2 : Nat) (B2 : Option Addr) (m2 d2 : Nat) (k2 : RpAt w y2 A2 n2 c2 B2 m2 d2) (hs : fewB 40 y2.kvs = true) (ht : fewE 40 y2.evs = false) :
    Calls Try.prog 9 #[s0.agg, .int .i64 a1, y2.agg A2 n2 c2 B2 m2 d2] w fun e w' => e = .returned (.bool true) ∧ Below w.heap.size w w' := by
  have HS := Lib.hid hs; clear hs
  have HT := Lib.hid ht; clear ht
  have b0 := then_ (new1 w (.cells s0.arr 53)) (new1 _ (.cells (y2.arr A2 n2 c2 B2 m2 d2) 31))
  have K_0 := Lib.hid (k2.keep b0)
  have B_0 := Lib.hid b0
  have S_0 := Lib.hid ((own_new w s0.arr 53).alloc (.cells (y2.arr A2 n2 c2 B2 m2 d2) 31))
  have X_0 := Lib.hid (own_new2 w (.cells s0.arr 53) (y2.arr A2 n2 c2 B2 m2 d2) 31)
  clear b0 k2
  go_enter Try.func9, Try.ntmps9
  have xc7 := X_0.out.cell 7 _ rfl
  have xc8 := X_0.out.cell 8 _ rfl
  go_wp2_with fail
  refine ((few_any A2 n2 c2 y2.kvs 40 _ K_0.out.kvs (by omega))).mono ?_; rintro e w' ⟨rfl, rfl⟩
  rw [HS.out]
  go_wp2_with fail
  refine ((fewe_any B2 m2 d2 y2.evs 40 _ K_0.out.evs (by omega))).mono ?_; rintro e w' ⟨rfl, rfl⟩
  rw [HT.out]
  go_wp2_with fail
  refine (live_any _).mono ?_; rintro e w1 ⟨rfl, hb⟩
  have S_1 := Lib.hid hb; clear hb
  have K_2 := Lib.hid (K_0.out.keep S_1.out)
  have S_3 := Lib.hid (S_0.out.below S_1.out)
  have X_4 := Lib.hid (X_0.out.below S_1.out)
  have B_5 := Lib.hid (then_ B_0.out S_1.out)
  clear K_0 S_0 X_0 B_0
  clear S_1
  go_wp2
  go_ret
  exact ⟨rfl, B_5.out⟩
theorem main (w : World) (s0 : Se) (a1 : Int) (y2 : Rp) (A2 : Option Addr) (n2 c2 : Nat) (B2 : Option Addr) (m2 d2 : Nat) (k2 : RpAt w y2 A2 n2 c2 B2 m2 d2) (hs : fewB 40 y2.kvs = true) (ht : fewE 40 y2.evs = true) :
    Calls Try.prog 9 #[s0.agg, .int .i64 a1, y2.agg A2 n2 c2 B2 m2 d2] w fun e w' => e = .returned (.bool true) ∧ Below w.heap.size w w' := by
  have HS := Lib.hid hs; clear hs
  have HT := Lib.hid ht; clear ht
  have b0 := then_ (new1 w (.cells s0.arr 53)) (new1 _ (.cells (y2.arr A2 n2 c2 B2 m2 d2) 31))
  have K_0 := Lib.hid (k2.keep b0)
  have B_0 := Lib.hid b0
  have S_0 := Lib.hid ((own_new w s0.arr 53).alloc (.cells (y2.arr A2 n2 c2 B2 m2 d2) 31))
  have X_0 := Lib.hid (own_new2 w (.cells s0.arr 53) (y2.arr A2 n2 c2 B2 m2 d2) 31)
  clear b0 k2
  go_enter Try.func9, Try.ntmps9
  have xc7 := X_0.out.cell 7 _ rfl
  have xc8 := X_0.out.cell 8 _ rfl
  go_wp2_with fail
  refine ((few_any A2 n2 c2 y2.kvs 40 _ K_0.out.kvs (by omega))).mono ?_; rintro e w' ⟨rfl, rfl⟩
  rw [HS.out]
  go_wp2_with fail
  refine ((fewe_any B2 m2 d2 y2.evs 40 _ K_0.out.evs (by omega))).mono ?_; rintro e w' ⟨rfl, rfl⟩
  rw [HT.out]
  obtain ⟨W, hW⟩ : ∃ W, W = ((w.alloc (.cells s0.arr 53)).alloc (.cells (y2.arr A2 n2 c2 B2 m2 d2) 31)) := ⟨_, rfl⟩
  rw [← hW] at K_0
  rw [← hW] at S_0
  rw [← hW] at X_0
  rw [← hW] at B_0
  clear xc7 xc8
  have sc0 := S_0.out.cell 0 _ rfl
  have sc1 := S_0.out.cell 1 _ rfl
  have sc2 := S_0.out.cell 2 _ rfl
  have sc3 := S_0.out.cell 3 _ rfl
  have xc0 := X_0.out.cell 0 _ rfl
  have xc1 := X_0.out.cell 1 _ rfl
  have xc2 := X_0.out.cell 2 _ rfl
  have xc3 := X_0.out.cell 3 _ rfl
  have xc4 := X_0.out.cell 4 _ rfl
  have xc5 := X_0.out.cell 5 _ rfl
  have xc6 := X_0.out.cell 6 _ rfl
  have xc7 := X_0.out.cell 7 _ rfl
  have xc8 := X_0.out.cell 8 _ rfl
  have rsc0 := fun d os => cell_regrown sc0 d os
  have rsc1 := fun d os => cell_regrown sc1 d os
  have rsc2 := fun d os => cell_regrown sc2 d os
  have rsc3 := fun d os => cell_regrown sc3 d os
  have rxc0 := fun d os => cell_regrown xc0 d os
  have rxc1 := fun d os => cell_regrown xc1 d os
  have rxc2 := fun d os => cell_regrown xc2 d os
  have rxc3 := fun d os => cell_regrown xc3 d os
  have rxc4 := fun d os => cell_regrown xc4 d os
  have rxc5 := fun d os => cell_regrown xc5 d os
  have rxc6 := fun d os => cell_regrown xc6 d os
  have rxc7 := fun d os => cell_regrown xc7 d os
  have rxc8 := fun d os => cell_regrown xc8 d os
  have cP := fun d os => Calls.regrown_of (d := d) (os := os) (w := W) (kept_any s0 a1 y2 A2 n2 c2 B2 m2 d2 _ (K_0.out.keep (below_regrown _ d os)))
  have cR := fun d os => Calls.regrown_of (d := d) (os := os) (w := W) (keptr_any s0 a1 y2 A2 n2 c2 B2 m2 d2 _ (K_0.out.keep (below_regrown _ d os)))
  have cL := fun d os => Calls.regrown_of (d := d) (os := os) (w := W) (live_any _)
  have hse := se_eq
  go_wp2_with fail
  rw [← hW]
  clear hW
  generalize keptS s0 a1 y2 = z at *
  refine wp_region_quiet_below (by kernel_rfl) (by kernel_rfl) ?_
  repeat (go_big_quiet_step (first | (with_reducible exact cP _ _) | (with_reducible exact cR _ _) | (with_reducible exact cL _ _)))
  refine wpQuiet_nil ?_
  intro _ hw'
  obtain ⟨⟨d, os⟩, rfl⟩ := hw'
  go_wp2
  go_ret
  exact ⟨rfl, below_grow B_0.out B_0.out.size _ _⟩

theorem walk (w : World) (s0 : Se) (a1 : Int) (y2 : Rp) (A2 : Option Addr) (n2 c2 : Nat) (B2 : Option Addr) (m2 d2 : Nat) (k0 : SeAt w s0) (w1 : (Lit.int .i64 a1).wf = true) (k2 : RpAt w y2 A2 n2 c2 B2 m2 d2) :
    Calls Try.prog 9 #[s0.agg, .int .i64 a1, y2.agg A2 n2 c2 B2 m2 d2] w fun e w' => e = .returned (.bool true) ∧ Below w.heap.size w w' := by
  cases hs : fewB 40 y2.kvs with
  | false => exact long0 w s0 a1 y2 A2 n2 c2 B2 m2 d2 k2 hs
  | true =>
    cases ht : fewE 40 y2.evs with
    | false => exact long1 w s0 a1 y2 A2 n2 c2 B2 m2 d2 k2 hs ht
    | true => exact main w s0 a1 y2 A2 n2 c2 B2 m2 d2 k2 hs ht

theorem own : ownKnob Try.prog.godebug = none := by kernel_rfl
theorem laidOut : laidOutB Try.prog = true := by kernel_rfl

set_option maxRecDepth 100000 in
theorem lifted (os : Os) (started : os.Started) (H : Type) (enc : TypeId × Value → H) :
    ReturnsInHanded {} Try.checked os 9 .any (Rows.sessKeepsSpec.pre6 enc Try.prog Try.f9 Rows.sessKeepsRow.domain false) (Rows.sessKeepsSpec.post enc Try.prog Try.f9 false true false false) := by
  refine returnsInHanded_of_change (C := Try.checked) own started (by kernel_rfl) Try.func9
    (ChangeSpec.witness6 (enc := enc) (C := Try.checked) false ⟨#[], #[.agg #[.int .i64 0, .int .i64 0, .int .i64 0, .int .i64 0], (.int .i64 0), .agg #[.int .i64 0, .int .i64 0, .int .i64 0, .int .i64 0, .int .i64 0, .int .i64 0, .bool false, .slice none 0 0, .slice none 0 0]], []⟩ 8 (by kernel_rfl) (by kernel_rfl) (by kernel_rfl) (by kernel_rfl)) ?_
  intro W base args ds gs before hval0 hW hcnd _
  have hval : ∀ (j : Nat) t v, Try.f9.params[j]? = some t → args[j]? = some v → Value.okWide Try.prog W .any base t v := hval0
  have hW' := hW
  obtain ⟨p, q, hA0, hV, rfl, hfz, hnd⟩ := hW
  have hA : DataW.TrodAll enc Try.prog W 0 (fun _ => true) true Try.f9.params.toList args.toList ds p := hA0
  rw [Try.params9] at hA hval
  obtain ⟨v0, vs0, d0, ds0, p0, q0, hargs, rfl, rfl, h0, r0⟩ := trodAll_cons hA
  obtain ⟨v1, vs1, d1, ds1, p1, q1, rfl, rfl, rfl, h1, r1⟩ := trodAll_cons r0
  obtain ⟨v2, vs2, d2, ds2, p2, q2, rfl, rfl, rfl, h2, r2⟩ := trodAll_cons r1
  obtain ⟨rfl, rfl, rfl⟩ := trodAll_nil r2
  obtain rfl : args = #[v0, v1, v2] := by cases args; simp_all
  obtain ⟨rfl, rfl⟩ := trodVars_none hV
  obtain ⟨s0, rfl, k0⟩ := open_se (hval 0 53 v0 rfl rfl) h0
  obtain ⟨a1, rfl, rfl, rfl, w1⟩ := open_int Try.underlying3 (hval 1 3 v1 rfl rfl) h1
  obtain ⟨y2, A2, n2, c2, B2, m2, d2, rfl, k2⟩ := open_rp (hval 2 31 v2 rfl rfl) h2
  clear hA0 hval0
  refine (walk W s0 a1 y2 A2 n2 c2 B2 m2 d2 k0 w1 k2).mono fun e W' ⟨he, bel⟩ => ?_
  subst he
  exact ⟨_, rfl, _, _, _, [], _, [], hW', trodAll_mk1 (shut_bool Try.underlying4 _), (trodAll_cons_mk (Below.trod laidOut (by kernel_rfl) (of_decide_eq_true (by kernel_rfl)) h0 bel (fun x hx => hW'.lt x (by simp [hx]))) (trodAll_cons_mk (shut_int Try.underlying3 w1) (trodAll_cons_mk (Below.trod laidOut (by kernel_rfl) (of_decide_eq_true (by kernel_rfl)) h2 bel (fun x hx => hW'.lt x (by simp [hx]))) trodAll_mk0))), rfl, bel.frame _, fun h => by cases h⟩

theorem over : Rows.sessKeepsRow.holds Try.pinned (OpenSpec.ofChange Rows.sessKeepsSpec) :=
  OpenClaim.holds_of_wide 9 Try.f9 rfl rfl rfl rfl rfl rfl rfl ⟨rfl, rfl, rfl, rfl, rfl⟩ rfl rfl rfl rfl rfl (by kernel_rfl) Try.func9 (by kernel_rfl)
    (of_decide_eq_true (by kernel_rfl)) (by unfold Func.isWrapper; first | (rw [if_pos (by decide +kernel)]; kernel_rfl) | (rw [if_neg (by decide +kernel)]; exact ⟨rfl, rfl⟩))
    (fun os started H enc _ => lifted os started H enc)

theorem proved : Rows.SessKeepsSaid := over
#print axioms proved
end Go.Proofs.Ytpecgkkhjkfmmaa.sessKeeps
