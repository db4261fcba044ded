/- For every resource, every two numbers and every value the law FenceWrites answers true: whether the resource may be, and what comes of the write, are the document's. -/
import Derived.Test.YtimbklggifbibaaDoorFeLaid
import Derived.Test.YtimbklggifbibaaDoorKeyTwo
import Derived.Test.YtimbklggifbibaaDoorFeOpen
import Derived.Test.YtimbklggifbibaaDoorFeLive
import Derived.Lib.QuietBelow
namespace Go.Proofs.YtimbklggifbibaaDoor.fenceWrites
open Go.ChangeShapes Go.WideShapes Go.ChangeAt Go.RowKit Go.Sort Go.Proofs.YtimbklggifbibaaDoor.P
open Go.ChangeMaps (open_string shut_string)
set_option linter.unusedVariables false
set_option linter.unusedSimpArgs false
set_option maxHeartbeats 4000000
set_option maxRecDepth 100000

theorem long (w : World) (r : Rs) (A : Option Addr) (n c : Nat) (a b : Int) (v : ByteArray) (k : RsAt w r A n c) (h : n > 60 ∨ v.size > 60) (s : Nat → Addr) (hS : Sents w s) :
    Calls Tryd.prog 3 #[r.agg A n c, .agg #[.int .i64 a, .int .i64 b], .string v] w fun e w' => e = .returned (.bool true) ∧ Below w.heap.size w w' := by
  have b2 := Lib.hid (then_ (new1 w (.cells (r.arr A n c) 24)) (new1 (w.alloc (.cells (r.arr A n c) 24)) (.cells #[.int .i64 a, .int .i64 b] 25)))
  have cL := Lib.hid (live_any s _ (hS.keep b2.out))
  clear hS k
  by_cases h1 : n > 60
  · have h1' : (n : Int) > 60 := by omega
    go_enter Tryd.func3, Tryd.ntmps3
    go_wp2_with fail
    refine cL.out.mono ?_; rintro e w1 ⟨rfl, hb⟩
    have BB := Lib.hid (b2.out.trans (hb.mono b2.out.size)); clear hb
    go_wp2
    go_ret
    exact ⟨rfl, BB.out⟩
  · have h1' : ¬ (n : Int) > 60 := by omega
    have h2' : (v.size : Int) > 60 := by omega
    go_enter Tryd.func3, Tryd.ntmps3
    go_wp2_with fail
    refine cL.out.mono ?_; rintro e w1 ⟨rfl, hb⟩
    have BB := Lib.hid (b2.out.trans (hb.mono b2.out.size)); clear hb
    go_wp2
    go_ret
    exact ⟨rfl, BB.out⟩
theorem fine (w : World) (r : Rs) (A : Option Addr) (n c : Nat) (a b : Int) (v : ByteArray) (k : RsAt w r A n c) (hn : n ≤ 60) (hv : v.size ≤ 60) (s : Nat → Addr) (hS : Sents w s) :
    Calls Tryd.prog 3 #[r.agg A n c, .agg #[.int .i64 a, .int .i64 b], .string v] w fun e w' => e = .returned (.bool true) ∧ Below w.heap.size w w' := by
  have h1' : ¬ (n : Int) > 60 := by omega
  have h2' : ¬ (v.size : Int) > 60 := by omega
  have N1 := Lib.hid ((own_new w (r.arr A n c) 24).alloc (.cells #[.int .i64 a, .int .i64 b] 25))
  have N2 := Lib.hid (own_nxt w (.cells (r.arr A n c) 24) #[.int .i64 a, .int .i64 b] 25)
  have B2 := Lib.hid (then_ (new1 w (.cells (r.arr A n c) 24)) (new1 (w.alloc (.cells (r.arr A n c) 24)) (.cells #[.int .i64 a, .int .i64 b] 25)))
  have K2 := Lib.hid (k.keep B2.out)
  have S0 := Lib.hid hS
  clear hS k
  have cW := Lib.hid (write_any r A n c ⟨a, b, v⟩ s _ K2.out (S0.out.keep B2.out))
  have VR : Hid (∀ V, RsAt V r A n c → Calls Tryd.prog 9 #[r.agg A n c, .int .i64 a, .int .i64 b, .string v] V (RsEnd (wrR r ⟨a, b, v⟩) (wrE r ⟨a, b, v⟩) A n c V)) := Lib.hid (fun V hV => writer_any r A n c ⟨a, b, v⟩ V hV)
  have HLEN : Hid ((wrR r ⟨a, b, v⟩).log.length ≤ 61) := Lib.hid (by have := K2.out.len; unfold wrR; split <;> simp <;> omega)
  generalize wrR r ⟨a, b, v⟩ = r2 at *
  generalize wrE r ⟨a, b, v⟩ = er at *
  go_enter Tryd.func3, Tryd.ntmps3
  go_wp2_with fail
  refine cW.out.mono ?_; rintro e w1 ⟨A1, n1, c1, rfl, hat, hb, _⟩
  obtain ⟨h9, v9, l9⟩ := r2
  have bN := new1 w1 (.cells #[.int .i64 h9, .string v9, .slice A1 n1 c1] 24)
  have hz := B2.out.trans (hb.mono B2.out.size)
  have B3 := Lib.hid (hz.trans (bN.mono hz.size))
  have X3 := Lib.hid ((N1.out.bel hb).bel bN)
  have Y3 := Lib.hid ((N2.out.bel hb).bel bN)
  have K3 := Lib.hid ((K2.out.keep hb).keep bN)
  have P3 := Lib.hid (own_new w1 #[.int .i64 h9, .string v9, .slice A1 n1 c1] 24)
  have T3 := Lib.hid (hat.keep bN)
  have HX : Hid (∃ r2, r2 = (⟨h9, v9, l9⟩ : Rs)) := Lib.hid ⟨_, rfl⟩
  have x0 := X3.out.cell 0 _ rfl
  have x1 := X3.out.cell 1 _ rfl
  have x2 := X3.out.cell 2 _ rfl
  have y0 := Y3.out.cell 0 _ rfl
  have y1 := Y3.out.cell 1 _ rfl
  clear hb bN hz hat N1 N2 K2 B2 cW
  have cV := Lib.hid (VR.out _ K3.out)
  go_wp2_with fail
  refine cV.out.mono ?_; rintro e w2 ⟨A2, n2, c2, rfl, hat, hb, _⟩
  have bN := new1 w2 (.cells #[.int .i64 h9, .string v9, .slice A2 n2 c2] 24)
  have hz := B3.out.trans (hb.mono B3.out.size)
  have B4 := Lib.hid (hz.trans (bN.mono hz.size))
  have X4 := Lib.hid ((X3.out.bel hb).bel bN)
  have K4 := Lib.hid ((K3.out.keep hb).keep bN)
  have P4 := Lib.hid ((P3.out.bel hb).bel bN)
  have T4 := Lib.hid ((T3.out.keep hb).keep bN)
  have Q4 := Lib.hid (own_new w2 #[.int .i64 h9, .string v9, .slice A2 n2 c2] 24)
  have U4 := Lib.hid (hat.keep bN)
  clear hb bN hz hat X3 Y3 K3 P3 T3 B3 cV x0 x1 x2 y0 y1
  go_wp2
  generalize w2.alloc (.cells #[.int .i64 h9, .string v9, .slice A2 n2 c2] 24) = W4 at *
  generalize w2.heap.size = g2 at *
  generalize w1.heap.size = g1 at *
  have x0 := X4.out.cell 0 _ rfl
  have x1 := X4.out.cell 1 _ rfl
  have x2 := X4.out.cell 2 _ rfl
  have p0 := P4.out.cell 0 _ rfl
  have p1 := P4.out.cell 1 _ rfl
  have p2 := P4.out.cell 2 _ rfl
  have q0 := Q4.out.cell 0 _ rfl
  have q1 := Q4.out.cell 1 _ rfl
  have q2 := Q4.out.cell 2 _ rfl
  have rx0 := fun d os => cell_regrown x0 d os
  have rx1 := fun d os => cell_regrown x1 d os
  have rx2 := fun d os => cell_regrown x2 d os
  have rp0 := fun d os => cell_regrown p0 d os
  have rp1 := fun d os => cell_regrown p1 d os
  have rp2 := fun d os => cell_regrown p2 d os
  have rq0 := fun d os => cell_regrown q0 d os
  have rq1 := fun d os => cell_regrown q1 d os
  have rq2 := fun d os => cell_regrown q2 d os
  have hn1 : n1 ≤ 1000000 := by have := T4.out.len; have := HLEN.out; simp only at *; omega
  have sM := fun d os => S0.out.keep (B4.out.trans ((below_regrown W4 d os).mono B4.out.size))
  have cM := fun d os => Calls.regrown_of (d := d) (os := os) (w := W4) (may_any r A n c s _ (K4.out.keep (below_regrown W4 d os)) (sM d os))
  have cN := fun d os => Calls.regrown_of (d := d) (os := os) (w := W4) (mayr_any r A n c _ (K4.out.keep (below_regrown W4 d os)))
  have cS := fun d os => Calls.regrown_of (d := d) (os := os) (w := W4) (samer_any ⟨h9, v9, l9⟩ ⟨h9, v9, l9⟩ A1 A2 n1 c1 n2 c2 _ (T4.out.keep (below_regrown W4 d os)) (U4.out.keep (below_regrown W4 d os)) hn1)
  have cL := fun d os => Calls.regrown_of (d := d) (os := os) (w := W4) (live_any s _ (sM d os))
  rw [sameR_self] at cS
  have hee : (er == er) = true := by simp
  generalize mayR r = mb at *
  have hmm : (mb == mb) = true := by simp
  clear sM
  refine wp_region_quiet_below (by kernel_rfl) (by kernel_rfl) ?_
  repeat (go_big_quiet_step (first | (with_reducible exact cM _ _) | (with_reducible exact cN _ _) | (with_reducible exact cS _ _) | (with_reducible exact cL _ _)))
  refine wpQuiet_nil ?_
  intro _ hw'
  obtain ⟨⟨d, os⟩, rfl⟩ := hw'
  go_wp2
  go_ret
  exact ⟨rfl, below_grow B4.out B4.out.size _ _⟩
theorem walk (w : World) (r : Rs) (A : Option Addr) (n c : Nat) (a b : Int) (v : ByteArray) (k : RsAt w r A n c) (w1 : (Lit.int .i64 a).wf = true) (u1 : (Lit.int .i64 b).wf = true) (w2 : v.size ≤ maxLen) (hL : Letters w) :
    Calls Tryd.prog 3 #[r.agg A n c, .agg #[.int .i64 a, .int .i64 b], .string v] w fun e w' => e = .returned (.bool true) ∧ Below w.heap.size w w' := by
  obtain ⟨s, hS⟩ := hL
  by_cases h1 : n > 60
  · exact long w r A n c a b v k (.inl h1) s hS
  · by_cases h2 : v.size > 60
    · exact long w r A n c a b v k (.inr h2) s hS
    · exact fine w r A n c a b v k (by omega) (by omega) s hS
theorem laidOut : laidOutB Tryd.prog = true := by kernel_rfl
set_option maxRecDepth 100000 in
theorem lifted (os : Os) (started : os.Started) (H : Type) (enc : TypeId × Value → H) :
    ReturnsInHanded {} Tryd.checked os 3 .any (fun w args => (Rows.fenceWritesSpec.pre enc Tryd.prog Tryd.f3 [] false w args ∧ laidMetH Tryd.prog laidK w) ∧ sizedMet enc Tryd.prog Tryd.f3 (OpenSpec.ofChange Rows.fenceWritesSpec) false w args)
      (Rows.fenceWritesSpec.post enc Tryd.prog Tryd.f3 false true false false) := by
  refine returnsInHanded_of_change_and (C := Tryd.checked) (X := fun w _ => laidMetH Tryd.prog laidK w) (fun _ _ _ hh h => h.of_heap hh) own started (by kernel_rfl) Tryd.func3
    (ChangeSpec.witness_shaped (enc := enc) (C := Tryd.checked) (os := os) (X := fun w _ => laidMetH Tryd.prog laidK w) false (World.doorLaid Tryd.prog 400 os) #[.agg #[.int .i64 0, .string ByteArray.empty, .slice none 0 0], .agg #[.int .i64 0, .int .i64 0], .string ByteArray.empty] 8 rfl (World.shaped_of_RefB (by kernel_rfl) (by kernel_rfl)) (by kernel_rfl) (by kernel_rfl) (by kernel_rfl) (door_met os _)) ?_
  intro W base args ds gs before hval0 hW _ _ hL _
  have hval : ∀ (j : Nat) t v, Tryd.f3.params[j]? = some t → args[j]? = some v → Value.okWide Tryd.prog W .any base t v := hval0
  have hW' := hW
  obtain ⟨p, q, hA0, hV, rfl, hfz, hnd⟩ := hW
  have hA : DataW.TrodAll enc Tryd.prog W 0 (fun _ => true) true Tryd.f3.params.toList args.toList ds p := hA0
  rw [Tryd.params3] at hA hval
  obtain ⟨v0, vs0, d0, ds0, p0, q0, hargs, rfl, rfl, h0, r0⟩ := trodAll_cons hA
  obtain ⟨v1, vs1, d1, ds1, p1, q1, rfl, rfl, rfl, h1, r1⟩ := trodAll_cons r0
  obtain ⟨v2, vs2, d2, ds2, p2, q2, rfl, rfl, rfl, h2, r2⟩ := trodAll_cons r1
  obtain ⟨rfl, rfl, rfl⟩ := trodAll_nil r2
  obtain rfl : args = #[v0, v1, v2] := by cases args; simp_all
  obtain ⟨rfl, rfl⟩ := trodVars_none hV
  obtain ⟨z0, A0, n0, c0, rfl, k0⟩ := open_rs (hval 0 24 v0 rfl rfl) h0
  obtain ⟨a1, b1, rfl, rfl, rfl, w1, u1⟩ := open_two_int Tryd.underlying25 Tryd.underlying3 (by kernel_rfl) (by kernel_rfl) (hval 1 25 v1 rfl rfl) h1
  obtain ⟨a2, rfl, rfl, rfl, w2⟩ := open_string Tryd.underlying9 (hval 2 9 v2 rfl rfl) h2
  have hlet := letters_of_laid hL
  clear hA0 hval0 hL
  refine (walk W z0 A0 n0 c0 a1 b1 a2 k0 w1 u1 w2 hlet).mono fun e W' ⟨he, bel⟩ => ?_
  subst he
  exact ⟨_, rfl, _, _, _, [], _, [], hW', trodAll_mk1 (shut_bool Tryd.underlying4 _), (trodAll_cons_mk (Below.trod laidOut (by kernel_rfl) (of_decide_eq_true (by kernel_rfl)) h0 bel (fun x hx => hW'.lt x (by simp [hx]))) (trodAll_cons_mk (shut_two_int Tryd.underlying25 Tryd.underlying3 (by kernel_rfl) (by kernel_rfl) w1 u1) (trodAll_cons_mk (shut_string Tryd.underlying9 w2) trodAll_mk0))), rfl, bel.frame _, fun h => by cases h⟩

theorem over : Rows.FenceWritesSaid :=
  OpenClaim.holds_of_wide 3 Tryd.f3 rfl rfl rfl rfl rfl rfl rfl ⟨rfl, rfl, rfl, rfl, rfl⟩ rfl rfl rfl rfl rfl (by kernel_rfl) Tryd.func3 (by kernel_rfl)
    (of_decide_eq_true (by kernel_rfl)) (by unfold Func.isWrapper; first | (rw [if_pos (by decide +kernel)]; kernel_rfl) | (rw [if_neg (by decide +kernel)]; exact ⟨rfl, rfl⟩))
    (fun os started H enc _ => lifted os started H enc)

theorem plain (f : FuncId) (fn : Func) (hf : Tryd.pinned.checked.prog.funcNamed "baton/batonlaw20.FenceWrites" = some f) (hfn : Tryd.pinned.checked.prog.funcs[f]? = some fn) :
    true = Tryd.pinned.checked.prog.looks [] ∧ ∀ (j : Nat) t, fn.params[j]? = some t → Tryd.pinned.checked.prog.wantsStandIn t = false := by
  obtain rfl : f = 3 := Option.some.inj ((show Tryd.prog.funcNamed "baton/batonlaw20.FenceWrites" = some 3 by kernel_rfl).symm.trans hf) |>.symm
  obtain rfl : fn = Tryd.f3 := (Option.some.inj (Tryd.func3.symm.trans hfn)).symm
  refine ⟨by kernel_rfl, fun j t ht => ?_⟩
  rw [Tryd.params3] at ht
  have hm : t ∈ [24, 25, 9] := by simpa using Array.mem_of_getElem? ht
  have hall : ([24, 25, 9].all fun u => !Tryd.prog.wantsStandIn u) = true := by kernel_rfl
  exact (show Tryd.prog.wantsStandIn t = false by simpa using List.all_eq_true.1 hall t hm)

theorem proved : Rows.FenceWritesCardSaid :=
  Claim7.holds_tied_plain_at .later [] _ _ _ _ over (fun _ h => by cases h) (by kernel_rfl) (fun _ h => by cases h) fenceWrites_row_tie rfl ⟨rfl, rfl⟩ (by kernel_rfl) rfl plain (by kernel_rfl)
#print axioms proved
end Go.Proofs.YtimbklggifbibaaDoor.fenceWrites
