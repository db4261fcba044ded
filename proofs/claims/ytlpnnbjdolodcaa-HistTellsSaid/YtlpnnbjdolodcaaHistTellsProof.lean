/- For every list of things and every key the law HistTells answers true: May, Find, Take and From answer what the document asks. No condition. -/
import Derived.Test.YtlpnnbjdolodcaaKvOpen
import Derived.Test.YtlpnnbjdolodcaaHistLive
import Derived.Test.YtlpnnbjdolodcaaRows
namespace Go.Proofs.Ytlpnnbjdolodcaa.histTells
open Go.ChangeShapes Go.WideShapes Go.ChangeAt Go.RowKit Go.Proofs.Ytlpnnbjdolodcaa.P
open Go.ChangeMaps (open_string shut_string)
set_option linter.unusedVariables false
set_option maxHeartbeats 2000000
set_option maxRecDepth 100000

theorem walk (w : World) (A0 : Option Addr) (n0 c0 : Nat) (l0 : List KV) (a1 : ByteArray) (k0 : KVs w A0 n0 c0 l0) (w1 : a1.size ≤ maxLen) :
    Calls Try.prog 3 #[.slice A0 n0 c0, .string a1] w fun e w' => e = .returned (.bool true) ∧ Below w.heap.size w w' := by
  have K := Lib.hid k0
  have Z := Lib.hid w1
  have z1 : (a1.size : Int) ≤ 9223372036854775807 := by unfold maxLen at w1; omega
  have hlen := k0.len
  clear k0 w1
  cases hf : fewB 40 l0 with
  | false =>
    have HF := Lib.hid hf
    clear hf
    go_enter Try.func3, Try.ntmps3
    go_wp2_with fail
    refine (few_any A0 n0 c0 l0 40 _ K.out (by omega)).mono ?_; rintro e w' ⟨rfl, rfl⟩
    rw [HF.out]
    go_wp2_with fail
    refine (live_any _).mono ?_; rintro e w1 ⟨rfl, hb⟩
    have S1 := Lib.hid (hb)
    have B1 := Lib.hid (S1.out)
    clear hb S1 
    go_wp2
    go_ret
    exact ⟨rfl, B1.out⟩
  | true =>
    have HF := Lib.hid hf
    have hn : n0 ≤ 40 := by simp only [fewB, Bool.and_eq_true, decide_eq_true_eq] at hf; omega
    clear hf hlen
    by_cases hk : a1.size ≤ 60
    · cases hfi : findL l0 a1 with
      | none =>
        have HFI := Lib.hid hfi
        clear hfi
        skip
        go_enter Try.func3, Try.ntmps3
        have L_0 := Lib.hid (K.out)
        go_wp2_with fail
        refine (few_any A0 n0 c0 l0 40 _ K.out (by omega)).mono ?_; rintro e w' ⟨rfl, rfl⟩
        rw [HF.out]
        go_wp2_with fail
        refine (find_any A0 n0 c0 l0 a1 _ L_0.out (by omega)).mono ?_; rintro e w1 h
        have hfi := HFI.out
        rw [hfi] at h
        obtain ⟨rfl, hb⟩ := h.none_
        clear hfi h
        have S1 := Lib.hid (hb)
        have L_1 := Lib.hid (L_0.out.keep S1.out)
        have B1 := Lib.hid (S1.out)
        clear hb S1 L_0
        have X_1 := Lib.hid (at6_new w1 zeroKV 26)
        have L_1b := Lib.hid (L_1.out.keep (new1 _ (.cells #[.string ⟨#[]⟩, .string ⟨#[]⟩, .int .i64 0, .int .i64 0, .int .i64 0, .int .i64 0] 26)))
        clear L_1
        have B1b := Lib.hid (then_ B1.out (new1 _ (.cells #[.string ⟨#[]⟩, .string ⟨#[]⟩, .int .i64 0, .int .i64 0, .int .i64 0, .int .i64 0] 26)))
        clear B1
        go_wp2_with fail
        refine (find_ref A0 n0 c0 l0 a1 _ L_1b.out (by omega)).mono ?_; rintro e w2 h
        have hfi := HFI.out
        rw [hfi] at h
        obtain ⟨rfl, hb⟩ := h.none_
        clear hfi h
        have S2 := Lib.hid (hb)
        have L_2 := Lib.hid (L_1b.out.keep S2.out)
        have X_2 := Lib.hid (X_1.out.on S2.out)
        have B2 := Lib.hid (then_ B1b.out S2.out)
        clear hb S2 L_1b X_1 B1b
        have Y_2 := Lib.hid (at6_new w2 zeroKV 26)
        have L_2b := Lib.hid (L_2.out.keep (new1 _ (.cells #[.string ⟨#[]⟩, .string ⟨#[]⟩, .int .i64 0, .int .i64 0, .int .i64 0, .int .i64 0] 26)))
        clear L_2
        have X_2b := Lib.hid (X_2.out.on (new1 _ (.cells #[.string ⟨#[]⟩, .string ⟨#[]⟩, .int .i64 0, .int .i64 0, .int .i64 0, .int .i64 0] 26)))
        clear X_2
        have B2b := Lib.hid (then_ B2.out (new1 _ (.cells #[.string ⟨#[]⟩, .string ⟨#[]⟩, .int .i64 0, .int .i64 0, .int .i64 0, .int .i64 0] 26)))
        clear B2
        go_wp2_with fail
        refine (may_any A0 n0 c0 l0 _ L_2b.out (by omega)).mono ?_; rintro e w3 ⟨rfl, hb⟩
        have S3 := Lib.hid (hb)
        have L_3 := Lib.hid (L_2b.out.keep S3.out)
        have X_3 := Lib.hid (X_2b.out.on S3.out)
        have Y_3 := Lib.hid (Y_2.out.on S3.out)
        have B3 := Lib.hid (then_ B2b.out S3.out)
        clear hb S3 L_2b X_2b Y_2 B2b
        go_wp2_with fail
        refine (may_ref A0 n0 c0 l0 _ L_3.out (by omega)).mono ?_; rintro e w4 ⟨rfl, hb⟩
        have S4 := Lib.hid (hb)
        have L_4 := Lib.hid (L_3.out.keep S4.out)
        have X_4 := Lib.hid (X_3.out.on S4.out)
        have Y_4 := Lib.hid (Y_3.out.on S4.out)
        have B4 := Lib.hid (then_ B3.out S4.out)
        clear hb S4 L_3 X_3 Y_3 B3
        have hbb : (mayP oneB l0 == mayP oneB l0) = true := by simp
        have heq := eql_same
        obtain ⟨x0, x1, x2, x3, x4, x5⟩ := X_4.out
        have xl := World.block_lt_of_cell? _ _ x0
        obtain ⟨y0, y1, y2, y3, y4, y5⟩ := Y_4.out
        have yl := World.block_lt_of_cell? _ _ y0
        go_wp2_with fail
        refine (Take_any A0 n0 c0 l0 a1 _ L_4.out (by omega)).mono ?_; rintro e w5 ⟨A1, n1, c1, rfl, h, hb⟩
        have T := Lib.hid h
        clear h hbb heq x0 x1 x2 x3 x4 x5 xl y0 y1 y2 y3 y4 y5 yl
        have S5 := Lib.hid (hb)
        have L_5 := Lib.hid (L_4.out.keep S5.out)
        have X_5 := Lib.hid (X_4.out.on S5.out)
        have Y_5 := Lib.hid (Y_4.out.on S5.out)
        have B5 := Lib.hid (then_ B4.out S5.out)
        clear hb S5 L_4 X_4 Y_4 B4
        have T_ := T
        clear X_5
        clear Y_5
        go_wp2_with fail
        refine (take_ref A0 n0 c0 l0 a1 _ L_5.out (by omega)).mono ?_; rintro e w6 ⟨A2, n2, c2, rfl, h, hb⟩
        obtain rfl : n2 = n1 := h.len.symm.trans T.out.len
        have R := Lib.hid h
        clear h
        have S6 := Lib.hid (hb)
        have L_6 := Lib.hid (L_5.out.keep S6.out)
        have T_6 := Lib.hid (T_.out.keep S6.out)
        have B6 := Lib.hid (then_ B5.out S6.out)
        clear hb S6 L_5 T_ B5
        go_wp2_with fail
        refine (kvs_same A1 A2 n2 c1 c2 (takeL l0 a1) _ T_6.out R.out (by have := takeL_len l0 a1; have := T.out.len; have := K.out.len; omega)).mono ?_; rintro e w7 ⟨rfl, hb⟩
        have S7 := Lib.hid (hb)
        have L_7 := Lib.hid (L_6.out.keep S7.out)
        have T_7 := Lib.hid (T_6.out.keep S7.out)
        have B7 := Lib.hid (then_ B6.out S7.out)
        clear hb S7 L_6 T_6 B6
        clear T_7
        go_wp2_with fail
        refine (From_any A0 n0 c0 l0 a1 _ L_7.out (by omega) Z.out).mono ?_; rintro e w8 ⟨A3, n3, c3, rfl, h, hb⟩
        have F := Lib.hid h
        clear h T R
        have S8 := Lib.hid (hb)
        have L_8 := Lib.hid (L_7.out.keep S8.out)
        have B8 := Lib.hid (then_ B7.out S8.out)
        clear hb S8 L_7 B7
        have F_ := F
        go_wp2_with fail
        refine (from_ref A0 n0 c0 l0 a1 _ L_8.out (by omega) Z.out).mono ?_; rintro e w9 ⟨A4, n4, c4, rfl, h, hb⟩
        obtain rfl : n4 = n3 := h.len.symm.trans F.out.len
        have G := Lib.hid h
        clear h
        have S9 := Lib.hid (hb)
        have L_9 := Lib.hid (L_8.out.keep S9.out)
        have F_9 := Lib.hid (F_.out.keep S9.out)
        have B9 := Lib.hid (then_ B8.out S9.out)
        clear hb S9 L_8 F_ B8
        go_wp2_with fail
        refine (kvs_same A3 A4 n4 c3 c4 (fromL l0 a1) _ F_9.out G.out (by have : (fromL l0 a1).length ≤ l0.length := List.length_filter_le _ _; have := F.out.len; have := K.out.len; omega)).mono ?_; rintro e w10 ⟨rfl, hb⟩
        have S10 := Lib.hid (hb)
        have L_10 := Lib.hid (L_9.out.keep S10.out)
        have F_10 := Lib.hid (F_9.out.keep S10.out)
        have B10 := Lib.hid (then_ B9.out S10.out)
        clear hb S10 L_9 F_9 B9
        go_wp2_with fail
        refine (live_any _).mono ?_; rintro e w11 ⟨rfl, hb⟩
        have S11 := Lib.hid (hb)
        have L_11 := Lib.hid (L_10.out.keep S11.out)
        have F_11 := Lib.hid (F_10.out.keep S11.out)
        have B11 := Lib.hid (then_ B10.out S11.out)
        clear hb S11 L_10 F_10 B10
        go_wp2
        go_ret
        exact ⟨rfl, B11.out⟩
      | some x =>
        have HFI := Lib.hid hfi
        clear hfi
        skip
        go_enter Try.func3, Try.ntmps3
        have L_0 := Lib.hid (K.out)
        go_wp2_with fail
        refine (few_any A0 n0 c0 l0 40 _ K.out (by omega)).mono ?_; rintro e w' ⟨rfl, rfl⟩
        rw [HF.out]
        go_wp2_with fail
        refine (find_any A0 n0 c0 l0 a1 _ L_0.out (by omega)).mono ?_; rintro e w1 h
        have hfi := HFI.out
        rw [hfi] at h
        obtain ⟨rfl, hb⟩ := h.some_
        clear hfi h
        have S1 := Lib.hid (hb)
        have L_1 := Lib.hid (L_0.out.keep S1.out)
        have B1 := Lib.hid (S1.out)
        clear hb S1 L_0
        have X_1 := Lib.hid (at6_new w1 x 26)
        have L_1b := Lib.hid (L_1.out.keep (new1 _ (x.obj 26)))
        clear L_1
        have B1b := Lib.hid (then_ B1.out (new1 _ (x.obj 26)))
        clear B1
        go_wp2_with fail
        refine (find_ref A0 n0 c0 l0 a1 _ L_1b.out (by omega)).mono ?_; rintro e w2 h
        have hfi := HFI.out
        rw [hfi] at h
        obtain ⟨rfl, hb⟩ := h.some_
        clear hfi h
        have S2 := Lib.hid (hb)
        have L_2 := Lib.hid (L_1b.out.keep S2.out)
        have X_2 := Lib.hid (X_1.out.on S2.out)
        have B2 := Lib.hid (then_ B1b.out S2.out)
        clear hb S2 L_1b X_1 B1b
        have Y_2 := Lib.hid (at6_new w2 x 26)
        have L_2b := Lib.hid (L_2.out.keep (new1 _ (x.obj 26)))
        clear L_2
        have X_2b := Lib.hid (X_2.out.on (new1 _ (x.obj 26)))
        clear X_2
        have B2b := Lib.hid (then_ B2.out (new1 _ (x.obj 26)))
        clear B2
        go_wp2_with fail
        refine (may_any A0 n0 c0 l0 _ L_2b.out (by omega)).mono ?_; rintro e w3 ⟨rfl, hb⟩
        have S3 := Lib.hid (hb)
        have L_3 := Lib.hid (L_2b.out.keep S3.out)
        have X_3 := Lib.hid (X_2b.out.on S3.out)
        have Y_3 := Lib.hid (Y_2.out.on S3.out)
        have B3 := Lib.hid (then_ B2b.out S3.out)
        clear hb S3 L_2b X_2b Y_2 B2b
        go_wp2_with fail
        refine (may_ref A0 n0 c0 l0 _ L_3.out (by omega)).mono ?_; rintro e w4 ⟨rfl, hb⟩
        have S4 := Lib.hid (hb)
        have L_4 := Lib.hid (L_3.out.keep S4.out)
        have X_4 := Lib.hid (X_3.out.on S4.out)
        have Y_4 := Lib.hid (Y_3.out.on S4.out)
        have B4 := Lib.hid (then_ B3.out S4.out)
        clear hb S4 L_3 X_3 Y_3 B3
        have hbb : (mayP oneB l0 == mayP oneB l0) = true := by simp
        have heq := eql_same
        obtain ⟨x0, x1, x2, x3, x4, x5⟩ := X_4.out
        have xl := World.block_lt_of_cell? _ _ x0
        obtain ⟨y0, y1, y2, y3, y4, y5⟩ := Y_4.out
        have yl := World.block_lt_of_cell? _ _ y0
        go_wp2_with fail
        refine (Take_any A0 n0 c0 l0 a1 _ L_4.out (by omega)).mono ?_; rintro e w5 ⟨A1, n1, c1, rfl, h, hb⟩
        have T := Lib.hid h
        clear h hbb heq x0 x1 x2 x3 x4 x5 xl y0 y1 y2 y3 y4 y5 yl
        have S5 := Lib.hid (hb)
        have L_5 := Lib.hid (L_4.out.keep S5.out)
        have X_5 := Lib.hid (X_4.out.on S5.out)
        have Y_5 := Lib.hid (Y_4.out.on S5.out)
        have B5 := Lib.hid (then_ B4.out S5.out)
        clear hb S5 L_4 X_4 Y_4 B4
        have T_ := T
        clear X_5
        clear Y_5
        go_wp2_with fail
        refine (take_ref A0 n0 c0 l0 a1 _ L_5.out (by omega)).mono ?_; rintro e w6 ⟨A2, n2, c2, rfl, h, hb⟩
        obtain rfl : n2 = n1 := h.len.symm.trans T.out.len
        have R := Lib.hid h
        clear h
        have S6 := Lib.hid (hb)
        have L_6 := Lib.hid (L_5.out.keep S6.out)
        have T_6 := Lib.hid (T_.out.keep S6.out)
        have B6 := Lib.hid (then_ B5.out S6.out)
        clear hb S6 L_5 T_ B5
        go_wp2_with fail
        refine (kvs_same A1 A2 n2 c1 c2 (takeL l0 a1) _ T_6.out R.out (by have := takeL_len l0 a1; have := T.out.len; have := K.out.len; omega)).mono ?_; rintro e w7 ⟨rfl, hb⟩
        have S7 := Lib.hid (hb)
        have L_7 := Lib.hid (L_6.out.keep S7.out)
        have T_7 := Lib.hid (T_6.out.keep S7.out)
        have B7 := Lib.hid (then_ B6.out S7.out)
        clear hb S7 L_6 T_6 B6
        clear T_7
        go_wp2_with fail
        refine (From_any A0 n0 c0 l0 a1 _ L_7.out (by omega) Z.out).mono ?_; rintro e w8 ⟨A3, n3, c3, rfl, h, hb⟩
        have F := Lib.hid h
        clear h T R
        have S8 := Lib.hid (hb)
        have L_8 := Lib.hid (L_7.out.keep S8.out)
        have B8 := Lib.hid (then_ B7.out S8.out)
        clear hb S8 L_7 B7
        have F_ := F
        go_wp2_with fail
        refine (from_ref A0 n0 c0 l0 a1 _ L_8.out (by omega) Z.out).mono ?_; rintro e w9 ⟨A4, n4, c4, rfl, h, hb⟩
        obtain rfl : n4 = n3 := h.len.symm.trans F.out.len
        have G := Lib.hid h
        clear h
        have S9 := Lib.hid (hb)
        have L_9 := Lib.hid (L_8.out.keep S9.out)
        have F_9 := Lib.hid (F_.out.keep S9.out)
        have B9 := Lib.hid (then_ B8.out S9.out)
        clear hb S9 L_8 F_ B8
        go_wp2_with fail
        refine (kvs_same A3 A4 n4 c3 c4 (fromL l0 a1) _ F_9.out G.out (by have : (fromL l0 a1).length ≤ l0.length := List.length_filter_le _ _; have := F.out.len; have := K.out.len; omega)).mono ?_; rintro e w10 ⟨rfl, hb⟩
        have S10 := Lib.hid (hb)
        have L_10 := Lib.hid (L_9.out.keep S10.out)
        have F_10 := Lib.hid (F_9.out.keep S10.out)
        have B10 := Lib.hid (then_ B9.out S10.out)
        clear hb S10 L_9 F_9 B9
        go_wp2_with fail
        refine (live_any _).mono ?_; rintro e w11 ⟨rfl, hb⟩
        have S11 := Lib.hid (hb)
        have L_11 := Lib.hid (L_10.out.keep S11.out)
        have F_11 := Lib.hid (F_10.out.keep S11.out)
        have B11 := Lib.hid (then_ B10.out S11.out)
        clear hb S11 L_10 F_10 B10
        go_wp2
        go_ret
        exact ⟨rfl, B11.out⟩
    · go_enter Try.func3, Try.ntmps3
      go_wp2_with fail
      refine (few_any A0 n0 c0 l0 40 _ K.out (by omega)).mono ?_; rintro e w' ⟨rfl, rfl⟩
      rw [HF.out]
      go_wp2_with fail
      refine (live_any _).mono ?_; rintro e w1 ⟨rfl, hb⟩
      have S1 := Lib.hid (hb)
      have B1 := Lib.hid (S1.out)
      clear hb S1 
      go_wp2
      go_ret
      exact ⟨rfl, B1.out⟩

theorem own : ownKnob Try.prog.godebug = none := by kernel_rfl
theorem laidOut : laidOutB Try.prog = true := by kernel_rfl

set_option maxRecDepth 100000 in
theorem lifted (os : Os) (started : os.Started) (H : Type) (enc : TypeId × Value → H) :
    ReturnsInHanded {} Try.checked os 3 .any (Rows.histTellsSpec.pre6 enc Try.prog Try.f3 Rows.histTellsRow.domain false) (Rows.histTellsSpec.post enc Try.prog Try.f3 false true false false) := by
  refine returnsInHanded_of_change (C := Try.checked) own started (by kernel_rfl) Try.func3
    (ChangeSpec.witness6 (enc := enc) (C := Try.checked) false ⟨#[], #[.slice none 0 0, .string ByteArray.empty], []⟩ 8 (by kernel_rfl) (by kernel_rfl) (by kernel_rfl) (by kernel_rfl)) ?_
  intro W base args ds gs before hval0 hW hcnd _
  have hval : ∀ (j : Nat) t v, Try.f3.params[j]? = some t → args[j]? = some v → Value.okWide Try.prog W .any base t v := hval0
  have hW' := hW
  obtain ⟨p, q, hA0, hV, rfl, hfz, hnd⟩ := hW
  have hA : DataW.TrodAll enc Try.prog W 0 (fun _ => true) true Try.f3.params.toList args.toList ds p := hA0
  rw [Try.params3] at hA hval
  obtain ⟨v0, vs0, d0, ds0, p0, q0, hargs, rfl, rfl, h0, r0⟩ := trodAll_cons hA
  obtain ⟨v1, vs1, d1, ds1, p1, q1, rfl, rfl, rfl, h1, r1⟩ := trodAll_cons r0
  obtain ⟨rfl, rfl, rfl⟩ := trodAll_nil r1
  obtain rfl : args = #[v0, v1] := by cases args; simp_all
  obtain ⟨rfl, rfl⟩ := trodVars_none hV
  obtain ⟨A0, n0, c0, l0, rfl, k0⟩ := open_kvs (hval 0 22 v0 rfl rfl) h0
  obtain ⟨a1, rfl, rfl, rfl, w1⟩ := open_string Try.underlying9 (hval 1 9 v1 rfl rfl) h1
  clear hA0 hval0
  refine (walk W A0 n0 c0 l0 a1 k0 w1).mono fun e W' ⟨he, bel⟩ => ?_
  subst he
  exact ⟨_, rfl, _, _, _, [], _, [], hW', trodAll_mk1 (shut_bool Try.underlying4 _), (trodAll_cons_mk (Below.trod laidOut (by kernel_rfl) (of_decide_eq_true (by kernel_rfl)) h0 bel (fun x hx => hW'.lt x (by simp [hx]))) (trodAll_cons_mk (shut_string Try.underlying9 w1) trodAll_mk0)), rfl, bel.frame _, fun h => by cases h⟩

theorem over : Rows.histTellsRow.holds Try.pinned (OpenSpec.ofChange Rows.histTellsSpec) :=
  OpenClaim.holds_of_wide 3 Try.f3 rfl rfl rfl rfl rfl rfl rfl ⟨rfl, rfl, rfl, rfl, rfl⟩ rfl rfl rfl rfl rfl (by kernel_rfl) Try.func3 (by kernel_rfl)
    (of_decide_eq_true (by kernel_rfl)) (by unfold Func.isWrapper; first | (rw [if_pos (by decide +kernel)]; kernel_rfl) | (rw [if_neg (by decide +kernel)]; exact ⟨rfl, rfl⟩))
    (fun os started H enc _ => lifted os started H enc)

theorem proved : Rows.HistTellsSaid := over
#print axioms proved
end Go.Proofs.Ytlpnnbjdolodcaa.histTells
