/- For every request, every time and every number of tries the law CallTells answers true: a call that begins, and how long any tries pause, and together, are as the document says. No condition. -/
import Derived.Test.YtmklafbmelkpmaaClSame
import Derived.Test.YtmklafbmelkpmaaClLive
import Derived.Test.YtmklafbmelkpmaaKeyTwo
import Derived.Lib.QuietBelow
import Derived.Test.YtmklafbmelkpmaaRows
namespace Go.Proofs.Ytmklafbmelkpmaa.callTells
open Go.ChangeShapes Go.WideShapes Go.ChangeAt Go.RowKit Go.Sort Go.Proofs.Ytmklafbmelkpmaa.P
open Go.ChangeMaps (open_string shut_string)
set_option maxHeartbeats 4000000
set_option linter.unusedVariables false
set_option linter.unusedSimpArgs false
set_option maxRecDepth 100000

theorem long (w : World) (y0 : Rq) (A0 : Option Addr) (n0 c0 : Nat) (A1 : Option Addr) (n1 c1 : Nat) (A2 : Option Addr) (n2 c2 : Nat) (a1 a2 : Int) (k0 : RqAt w y0 A0 n0 c0 A1 n1 c1 A2 n2 c2) (hs : shortQ y0 = false) :
    Calls Try.prog 3 #[y0.agg A0 n0 c0 A1 n1 c1 A2 n2 c2, .int .i64 a1, .int .i64 a2] w fun e w' => e = .returned (.bool true) ∧ Below w.heap.size w w' := by
  have HS := Lib.hid hs; clear hs
  have b0 := new1 w (.cells #[.int .i64 y0.kind, .int .i64 y0.who, .int .i64 y0.seq, .bool y0.once, .string y0.key, .string y0.val, .int .i64 y0.lease, .int .i64 y0.rev, .int .i64 y0.ttl, .int .i64 y0.token, .slice A0 n0 c0, .slice A1 n1 c1, .slice A2 n2 c2] 27)
  have K0 := Lib.hid (k0.keep b0)
  have X0 := Lib.hid (own_new w #[.int .i64 y0.kind, .int .i64 y0.who, .int .i64 y0.seq, .bool y0.once, .string y0.key, .string y0.val, .int .i64 y0.lease, .int .i64 y0.rev, .int .i64 y0.ttl, .int .i64 y0.token, .slice A0 n0 c0, .slice A1 n1 c1, .slice A2 n2 c2] 27)
  have B0 := Lib.hid b0
  clear b0 k0
  go_enter Try.func3, Try.ntmps3
  have x0 := X0.out.cell 0 _ rfl
  have x1 := X0.out.cell 1 _ rfl
  have x2 := X0.out.cell 2 _ rfl
  have x3 := X0.out.cell 3 _ rfl
  have x4 := X0.out.cell 4 _ rfl
  have x5 := X0.out.cell 5 _ rfl
  have x6 := X0.out.cell 6 _ rfl
  have x7 := X0.out.cell 7 _ rfl
  have x8 := X0.out.cell 8 _ rfl
  have x9 := X0.out.cell 9 _ rfl
  have x10 := X0.out.cell 10 _ rfl
  have x11 := X0.out.cell 11 _ rfl
  have x12 := X0.out.cell 12 _ rfl
  go_wp2_with fail
  refine (short_any y0 A0 n0 c0 A1 n1 c1 A2 n2 c2 _ K0.out).mono ?_; rintro e w1 ⟨rfl, hb⟩
  rw [HS.out]
  have K1 := Lib.hid (K0.out.keep hb)
  have X1 := Lib.hid (X0.out.below hb)
  have B1 := Lib.hid (then_ B0.out hb)
  clear hb x0 x1 x2 x3 x4 x5 x6 x7 x8 x9 x10 x11 x12
  go_wp2_with fail
  refine (clive_any _).mono ?_; rintro e w2 ⟨rfl, hb⟩
  have B2 := Lib.hid (then_ B1.out hb); clear hb
  go_wp2
  go_ret
  exact ⟨rfl, B2.out⟩
theorem wide (w : World) (y0 : Rq) (A0 : Option Addr) (n0 c0 : Nat) (A1 : Option Addr) (n1 c1 : Nat) (A2 : Option Addr) (n2 c2 : Nat) (a1 a2 : Int) (k0 : RqAt w y0 A0 n0 c0 A1 n1 c1 A2 n2 c2) (hs : shortQ y0 = true) (ht : 2000 < a2) :
    Calls Try.prog 3 #[y0.agg A0 n0 c0 A1 n1 c1 A2 n2 c2, .int .i64 a1, .int .i64 a2] w fun e w' => e = .returned (.bool true) ∧ Below w.heap.size w w' := by
  have HS := Lib.hid hs; clear hs
  have b0 := new1 w (.cells #[.int .i64 y0.kind, .int .i64 y0.who, .int .i64 y0.seq, .bool y0.once, .string y0.key, .string y0.val, .int .i64 y0.lease, .int .i64 y0.rev, .int .i64 y0.ttl, .int .i64 y0.token, .slice A0 n0 c0, .slice A1 n1 c1, .slice A2 n2 c2] 27)
  have K0 := Lib.hid (k0.keep b0)
  have X0 := Lib.hid (own_new w #[.int .i64 y0.kind, .int .i64 y0.who, .int .i64 y0.seq, .bool y0.once, .string y0.key, .string y0.val, .int .i64 y0.lease, .int .i64 y0.rev, .int .i64 y0.ttl, .int .i64 y0.token, .slice A0 n0 c0, .slice A1 n1 c1, .slice A2 n2 c2] 27)
  have B0 := Lib.hid b0
  clear b0 k0
  go_enter Try.func3, Try.ntmps3
  have x0 := X0.out.cell 0 _ rfl
  have x1 := X0.out.cell 1 _ rfl
  have x2 := X0.out.cell 2 _ rfl
  have x3 := X0.out.cell 3 _ rfl
  have x4 := X0.out.cell 4 _ rfl
  have x5 := X0.out.cell 5 _ rfl
  have x6 := X0.out.cell 6 _ rfl
  have x7 := X0.out.cell 7 _ rfl
  have x8 := X0.out.cell 8 _ rfl
  have x9 := X0.out.cell 9 _ rfl
  have x10 := X0.out.cell 10 _ rfl
  have x11 := X0.out.cell 11 _ rfl
  have x12 := X0.out.cell 12 _ rfl
  go_wp2_with fail
  refine (short_any y0 A0 n0 c0 A1 n1 c1 A2 n2 c2 _ K0.out).mono ?_; rintro e w1 ⟨rfl, hb⟩
  rw [HS.out]
  have K1 := Lib.hid (K0.out.keep hb)
  have X1 := Lib.hid (X0.out.below hb)
  have B1 := Lib.hid (then_ B0.out hb)
  clear hb x0 x1 x2 x3 x4 x5 x6 x7 x8 x9 x10 x11 x12
  go_wp2_with fail
  refine (clive_any _).mono ?_; rintro e w2 ⟨rfl, hb⟩
  have B2 := Lib.hid (then_ B1.out hb); clear hb
  go_wp2
  go_ret
  exact ⟨rfl, B2.out⟩
theorem main (w : World) (y0 : Rq) (A0 : Option Addr) (n0 c0 : Nat) (A1 : Option Addr) (n1 c1 : Nat) (A2 : Option Addr) (n2 c2 : Nat) (a1 a2 : Int) (k0 : RqAt w y0 A0 n0 c0 A1 n1 c1 A2 n2 c2) (w1 : inI a1) (w2 : inI a2) (hs : shortQ y0 = true) (ht : ¬ 2000 < a2) :
    Calls Try.prog 3 #[y0.agg A0 n0 c0 A1 n1 c1 A2 n2 c2, .int .i64 a1, .int .i64 a2] w fun e w' => e = .returned (.bool true) ∧ Below w.heap.size w w' := by
  have HS := Lib.hid hs; clear hs
  have hbb : ∀ b : Bool, (b == b) = true := fun b => by simp
  have hii : ∀ b : Int, (b == b) = true := fun b => by simp
  have W2 := Lib.hid w2; clear w1 w2
  have b0 := new1 w (.cells #[.int .i64 y0.kind, .int .i64 y0.who, .int .i64 y0.seq, .bool y0.once, .string y0.key, .string y0.val, .int .i64 y0.lease, .int .i64 y0.rev, .int .i64 y0.ttl, .int .i64 y0.token, .slice A0 n0 c0, .slice A1 n1 c1, .slice A2 n2 c2] 27)
  have K0 := Lib.hid (k0.keep b0)
  have X0 := Lib.hid (own_new w #[.int .i64 y0.kind, .int .i64 y0.who, .int .i64 y0.seq, .bool y0.once, .string y0.key, .string y0.val, .int .i64 y0.lease, .int .i64 y0.rev, .int .i64 y0.ttl, .int .i64 y0.token, .slice A0 n0 c0, .slice A1 n1 c1, .slice A2 n2 c2] 27)
  have B0 := Lib.hid b0
  clear b0 k0
  go_enter Try.func3, Try.ntmps3
  have x0 := X0.out.cell 0 _ rfl
  have x1 := X0.out.cell 1 _ rfl
  have x2 := X0.out.cell 2 _ rfl
  have x3 := X0.out.cell 3 _ rfl
  have x4 := X0.out.cell 4 _ rfl
  have x5 := X0.out.cell 5 _ rfl
  have x6 := X0.out.cell 6 _ rfl
  have x7 := X0.out.cell 7 _ rfl
  have x8 := X0.out.cell 8 _ rfl
  have x9 := X0.out.cell 9 _ rfl
  have x10 := X0.out.cell 10 _ rfl
  have x11 := X0.out.cell 11 _ rfl
  have x12 := X0.out.cell 12 _ rfl
  go_wp2_with fail
  refine (short_any y0 A0 n0 c0 A1 n1 c1 A2 n2 c2 _ K0.out).mono ?_; rintro e w1 ⟨rfl, hb⟩
  rw [HS.out]
  have K1 := Lib.hid (K0.out.keep hb)
  have X1 := Lib.hid (X0.out.below hb)
  have B1 := Lib.hid (then_ B0.out hb)
  clear hb x0 x1 x2 x3 x4 x5 x6 x7 x8 x9 x10 x11 x12
  have x0 := X1.out.cell 0 _ rfl
  have x1 := X1.out.cell 1 _ rfl
  have x2 := X1.out.cell 2 _ rfl
  have x3 := X1.out.cell 3 _ rfl
  have x4 := X1.out.cell 4 _ rfl
  have x5 := X1.out.cell 5 _ rfl
  have x6 := X1.out.cell 6 _ rfl
  have x7 := X1.out.cell 7 _ rfl
  have x8 := X1.out.cell 8 _ rfl
  have x9 := X1.out.cell 9 _ rfl
  have x10 := X1.out.cell 10 _ rfl
  have x11 := X1.out.cell 11 _ rfl
  have x12 := X1.out.cell 12 _ rfl
  go_wp2_with fail
  refine (cbegin_any y0 A0 n0 c0 A1 n1 c1 A2 n2 c2 a1 _).mono ?_; rintro e w2 ⟨rfl, hb⟩
  have N := Lib.hid (own_new w2 #[.bool false, .int .i64 0, .int .i64 0, .int .i64 0, .bool false, .string ⟨#[]⟩, .string ⟨#[]⟩, .int .i64 0, .int .i64 0, .int .i64 0, .int .i64 0, .slice none 0 0, .slice none 0 0, .slice none 0 0, .int .i64 0, .int .i64 0, .int .i64 0] 31)
  have bz := below_setRow (new1 w2 (.cells #[.bool false, .int .i64 0, .int .i64 0, .int .i64 0, .bool false, .string ⟨#[]⟩, .string ⟨#[]⟩, .int .i64 0, .int .i64 0, .int .i64 0, .int .i64 0, .slice none 0 0, .slice none 0 0, .slice none 0 0, .int .i64 0, .int .i64 0, .int .i64 0] 31)) (Nat.le_refl _) ((Cl.mk true y0 a1 a1 0).arr A0 n0 c0 A1 n1 c1 A2 n2 c2)
  have K2 := Lib.hid ((K1.out.keep hb).keep bz)
  have X2 := Lib.hid ((X1.out.below hb).below bz)
  have B2 := Lib.hid (then_ (then_ B1.out hb) bz)
  have C2 := Lib.hid (N.out.row ((Cl.mk true y0 a1 a1 0).arr A0 n0 c0 A1 n1 c1 A2 n2 c2))
  clear hb bz x0 x1 x2 x3 x4 x5 x6 x7 x8 x9 x10 x11 x12
  go_wp2_with (refine wpList_store_row rfl 31 _ _ rfl _ _ rfl rfl 31 _ N.out.ex (by kernel_rfl) rfl (by simp [Value.oneCell']) ?_)
  generalize (w2.alloc (.cells #[.bool false, .int .i64 0, .int .i64 0, .int .i64 0, .bool false, .string ⟨#[]⟩, .string ⟨#[]⟩, .int .i64 0, .int .i64 0, .int .i64 0, .int .i64 0, .slice none 0 0, .slice none 0 0, .slice none 0 0, .int .i64 0, .int .i64 0, .int .i64 0] 31)).setRow w2.heap.size ((Cl.mk true y0 a1 a1 0).arr A0 n0 c0 A1 n1 c1 A2 n2 c2) = W at *
  have cA := fun d os => Calls.regrown_of (d := d) (os := os) (w := W) (cbeginr_any y0 A0 n0 c0 A1 n1 c1 A2 n2 c2 a1 _)
  have cB := fun d os => Calls.regrown_of (d := d) (os := os) (w := W) (csame_any (Cl.mk true y0 a1 a1 0) A0 n0 c0 A1 n1 c1 A2 n2 c2 _ (K2.out.keep (below_regrown _ d os)))
  have cC := fun d os => Calls.regrown_of (d := d) (os := os) (w := W) (cdue_any (Cl.mk true y0 a1 a1 0) A0 n0 c0 A1 n1 c1 A2 n2 c2 a2 _)
  have cD := fun d os => Calls.regrown_of (d := d) (os := os) (w := W) (cduer_any (Cl.mk true y0 a1 a1 0) A0 n0 c0 A1 n1 c1 A2 n2 c2 a2 _)
  have cE := fun d os => Calls.regrown_of (d := d) (os := os) (w := W) ((pause_any a2 _).mono fun e w' hh => ⟨hh.1, by rw [← hh.2]; exact Below.refl _ _⟩)
  have cF := fun d os => Calls.regrown_of (d := d) (os := os) (w := W) ((pause_ref a2 _ W2.out).mono fun e w' hh => ⟨hh.1, by rw [← hh.2]; exact Below.refl _ _⟩)
  have cG := fun d os => Calls.regrown_of (d := d) (os := os) (w := W) ((wait_any a2 _).mono fun e w' hh => ⟨hh.1, by rw [← hh.2]; exact Below.refl _ _⟩)
  have cH := fun d os => Calls.regrown_of (d := d) (os := os) (w := W) ((wait_ref a2 _ W2.out).mono fun e w' hh => ⟨hh.1, by rw [← hh.2]; exact Below.refl _ _⟩)
  have cL := fun d os => Calls.regrown_of (d := d) (os := os) (w := W) (clive_any _)
  generalize cdueB (Cl.mk true y0 a1 a1 0) a2 = u at *
  generalize pauseP a2 = p at *
  generalize waitP a2 = q at *
  simp only [Act.put]
  refine wp_region_quiet_below (by kernel_rfl) (by kernel_rfl) ?_
  repeat (first | (go_big_quiet_want; refine quiet_row 31 _ rfl _ rfl 31 _ _ C2.out.held Try.underlying31 rfl (by kernel_rfl) ?_; simp only [Act.put, List.setIfInBounds_toArray, List.set_cons_succ, List.set_cons_zero]; go_big_quiet_on) | (go_big_quiet_want; refine quiet_row 27 _ rfl _ rfl 27 _ _ X2.out.held Try.underlying27 rfl (by kernel_rfl) ?_; simp only [Act.put, List.setIfInBounds_toArray, List.set_cons_succ, List.set_cons_zero]; go_big_quiet_on) | go_big_quiet_step (first | (with_reducible exact cA _ _) | (with_reducible exact cB _ _) | (with_reducible exact cC _ _) | (with_reducible exact cD _ _) | (with_reducible exact cE _ _) | (with_reducible exact cF _ _) | (with_reducible exact cG _ _) | (with_reducible exact cH _ _) | (with_reducible exact cL _ _)))
  refine wpQuiet_nil ?_
  intro _ hw'
  obtain ⟨⟨d, os⟩, rfl⟩ := hw'
  go_wp2
  go_ret
  exact ⟨rfl, below_grow B2.out B2.out.size _ _⟩
theorem walk (w : World) (y0 : Rq) (A0 : Option Addr) (n0 c0 : Nat) (A1 : Option Addr) (n1 c1 : Nat) (A2 : Option Addr) (n2 c2 : Nat) (a1 a2 : Int) (k0 : RqAt w y0 A0 n0 c0 A1 n1 c1 A2 n2 c2) (w1 : (Lit.int .i64 a1).wf = true) (w2 : (Lit.int .i64 a2).wf = true) :
    Calls Try.prog 3 #[y0.agg A0 n0 c0 A1 n1 c1 A2 n2 c2, .int .i64 a1, .int .i64 a2] w fun e w' => e = .returned (.bool true) ∧ Below w.heap.size w w' := by
  cases hs : shortQ y0 with
  | false => exact long w y0 A0 n0 c0 A1 n1 c1 A2 n2 c2 a1 a2 k0 hs
  | true =>
    by_cases ht : 2000 < a2
    · exact wide w y0 A0 n0 c0 A1 n1 c1 A2 n2 c2 a1 a2 k0 hs ht
    · exact main w y0 A0 n0 c0 A1 n1 c1 A2 n2 c2 a1 a2 k0 (inI_of w1) (inI_of w2) hs ht

theorem own : ownKnob Try.prog.godebug = none := by kernel_rfl
theorem laidOut : laidOutB Try.prog = true := by kernel_rfl

set_option maxRecDepth 100000 in
theorem lifted (os : Os) (started : os.Started) (H : Type) (enc : TypeId × Value → H) :
    ReturnsInHanded {} Try.checked os 3 .any (Rows.callTellsSpec.pre6 enc Try.prog Try.f3 Rows.callTellsRow.domain false) (Rows.callTellsSpec.post enc Try.prog Try.f3 false true false false) := by
  refine returnsInHanded_of_change (C := Try.checked) own started (by kernel_rfl) Try.func3
    (ChangeSpec.witness6 (enc := enc) (C := Try.checked) false ⟨#[], #[.agg #[.int .i64 0, .int .i64 0, .int .i64 0, .bool false, .string ByteArray.empty, .string ByteArray.empty, .int .i64 0, .int .i64 0, .int .i64 0, .int .i64 0, .slice none 0 0, .slice none 0 0, .slice none 0 0], (.int .i64 0), (.int .i64 0)], []⟩ 8 (by kernel_rfl) (by kernel_rfl) (by kernel_rfl) (by kernel_rfl)) ?_
  intro W base args ds gs before hval0 hW hcnd _
  have hval : ∀ (j : Nat) t v, Try.f3.params[j]? = some t → args[j]? = some v → Value.okWide Try.prog W .any base t v := hval0
  have hW' := hW
  obtain ⟨p, q, hA0, hV, rfl, hfz, hnd⟩ := hW
  have hA : DataW.TrodAll enc Try.prog W 0 (fun _ => true) true Try.f3.params.toList args.toList ds p := hA0
  rw [Try.params3] at hA hval
  obtain ⟨v0, vs0, d0, ds0, p0, q0, hargs, rfl, rfl, h0, r0⟩ := trodAll_cons hA
  obtain ⟨v1, vs1, d1, ds1, p1, q1, rfl, rfl, rfl, h1, r1⟩ := trodAll_cons r0
  obtain ⟨v2, vs2, d2, ds2, p2, q2, rfl, rfl, rfl, h2, r2⟩ := trodAll_cons r1
  obtain ⟨rfl, rfl, rfl⟩ := trodAll_nil r2
  obtain rfl : args = #[v0, v1, v2] := by cases args; simp_all
  obtain ⟨rfl, rfl⟩ := trodVars_none hV
  obtain ⟨y0, A0, n0, c0, B0, m0, d0, C0, o0, e0, rfl, k0⟩ := open_rq (hval 0 27 v0 rfl rfl) h0
  obtain ⟨a1, rfl, rfl, rfl, w1⟩ := open_int Try.underlying3 (hval 1 3 v1 rfl rfl) h1
  obtain ⟨a2, rfl, rfl, rfl, w2⟩ := open_int Try.underlying3 (hval 2 3 v2 rfl rfl) h2
  clear hA0 hval0
  refine (walk W y0 A0 n0 c0 B0 m0 d0 C0 o0 e0 a1 a2 k0 w1 w2).mono fun e W' ⟨he, bel⟩ => ?_
  subst he
  exact ⟨_, rfl, _, _, _, [], _, [], hW', trodAll_mk1 (shut_bool Try.underlying4 _), (trodAll_cons_mk (Below.trod laidOut (by kernel_rfl) (of_decide_eq_true (by kernel_rfl)) h0 bel (fun x hx => hW'.lt x (by simp [hx]))) (trodAll_cons_mk (shut_int Try.underlying3 w1) (trodAll_cons_mk (shut_int Try.underlying3 w2) trodAll_mk0))), rfl, bel.frame _, fun h => by cases h⟩

theorem over : Rows.callTellsRow.holds Try.pinned (OpenSpec.ofChange Rows.callTellsSpec) :=
  OpenClaim.holds_of_wide 3 Try.f3 rfl rfl rfl rfl rfl rfl rfl ⟨rfl, rfl, rfl, rfl, rfl⟩ rfl rfl rfl rfl rfl (by kernel_rfl) Try.func3 (by kernel_rfl)
    (of_decide_eq_true (by kernel_rfl)) (by unfold Func.isWrapper; first | (rw [if_pos (by decide +kernel)]; kernel_rfl) | (rw [if_neg (by decide +kernel)]; exact ⟨rfl, rfl⟩))
    (fun os started H enc _ => lifted os started H enc)

theorem proved : Rows.CallTellsSaid := over
#print axioms proved
end Go.Proofs.Ytmklafbmelkpmaa.callTells
