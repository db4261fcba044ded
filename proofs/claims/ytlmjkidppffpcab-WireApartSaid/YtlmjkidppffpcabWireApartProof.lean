/- For every request, every cut and every text behind it the law WireApart answers true: the bytes of a request are no reply's, and cut short or with more behind them they are nobody's. No condition. -/
import Derived.Test.YtlmjkidppffpcabWireLive
import Derived.Test.YtlmjkidppffpcabRows
namespace Go.Proofs.Ytlmjkidppffpcab.wireApart
open Go.ChangeShapes Go.WideShapes Go.ChangeAt Go.RowKit Go.Lib Go.Proofs.Ytlmjkidppffpcab.P
open Go.ChangeMaps (open_string shut_string)
set_option linter.unusedVariables false
set_option linter.unusedSimpArgs false
set_option maxHeartbeats 1000000
set_option maxRecDepth 100000

theorem str_full {s : ByteArray} (h : s.size ≠ 0) : s.toList.isEmpty = false := by
  rw [ByteArray.toList_eq]
  cases hl : s.data.toList with
  | nil => exact absurd (by rw [← list_size, hl]; rfl) h
  | cons a r => rfl
theorem str_ne {s : ByteArray} (h : s.size ≠ 0) : ¬ s.toList = [] := fun e => by have := str_full h; rw [e] at this; cases this
theorem cut_slice (s : ByteArray) (k : Nat) (h : k ≤ s.size) (w : World) :
    (Instr.slice 9 (.string s) none (some (.int .i64 (k : Int))) none).run Try.prog w = .ok (.string (s.extract 0 k)) w := by
  have e := run_slice_string_h (P := Try.prog) (w := w) (t := 9) (s := s) Try.underlying9 .i64 (k : Int) (by omega) (by omega)
  rwa [Int.toNat_natCast] at e
theorem cut_list (s : ByteArray) (k : Nat) : (s.extract 0 k).data.toList = s.data.toList.take k := by
  rw [ByteArray.data_extract, Array.toList_extract, List.extract_eq_take_drop]
  simp
theorem more_list (s t : ByteArray) : (s ++ t).data.toList = s.data.toList ++ t.data.toList := by simp
theorem more_some {y : Rq} (h : mayAskB y = true) : askedB (askB y ++ ⟨#[]⟩) = some y := asked_put (by rw [more_list, askB_list h]; simp) h
theorem more_none {y : Rq} {t : ByteArray} (h : mayAskB y = true) (ht : t.size ≠ 0) : askedB (askB y ++ t) = none :=
  asked_more h (m := t.data.toList) (by rw [more_list, askB_list h]) fun e => ht (by rw [← list_size, e]; rfl)
theorem apart_told {y : Rq} (h : mayAskB y = true) : toldB (askB y) = none := told_apart (x := y) (m := []) (by rw [askB_list h, List.append_nil])
theorem cut_asked {y : Rq} {k : Nat} (h : mayAskB y = true) (hk : k < (askB y).size) : askedB ((askB y).extract 0 k) = none := asked_cut h (askB_list h) (cut_list _ _) hk
theorem cut_told {y : Rq} {k : Nat} (h : mayAskB y = true) : toldB ((askB y).extract 0 k) = none := told_cut (askB_list h) (cut_list _ _)
theorem app_size {s t : ByteArray} (h : t.size ≤ 100) (hs : s.size ≤ 50000) : (s ++ t).size ≤ 1000000 := by rw [ByteArray.size_append]; omega
theorem ext_size {s : ByteArray} {k : Nat} (hs : s.size ≤ 50000) : (s.extract 0 k).size ≤ 1000000 := by rw [ByteArray.size_extract]; omega

theorem long0 (w : World) (y0 : Rq) (A0 : Option Addr) (n0 c0 : Nat) (B0 : Option Addr) (m0 d0 : Nat) (C0 : Option Addr) (o0 e0 : Nat) (a1 : Int) (a2 : ByteArray) (k0 : RqAt w y0 A0 n0 c0 B0 m0 d0 C0 o0 e0) (w1 : (Lit.int .i64 a1).wf = true) (w2 : a2.size ≤ maxLen) (hs : shortQ y0 = false) :
    Calls Try.prog 7 #[y0.agg A0 n0 c0 B0 m0 d0 C0 o0 e0, .int .i64 a1, .string a2] w fun e w' => e = .returned (.bool true) ∧ Below w.heap.size w w' := by
  have HS := Lib.hid hs; clear hs w1 w2
  have K_0 := Lib.hid (k0.keep (new1 w (.cells #[.int .i64 y0.kind, .int .i64 y0.who, .int .i64 y0.seq, .bool y0.once, .string y0.key, .string y0.val, .int .i64 y0.lease, .int .i64 y0.rev, .int .i64 y0.ttl, .int .i64 y0.token, .slice A0 n0 c0, .slice B0 m0 d0, .slice C0 o0 e0] 27)))
  have O_0 := Lib.hid (own_new w #[.int .i64 y0.kind, .int .i64 y0.who, .int .i64 y0.seq, .bool y0.once, .string y0.key, .string y0.val, .int .i64 y0.lease, .int .i64 y0.rev, .int .i64 y0.ttl, .int .i64 y0.token, .slice A0 n0 c0, .slice B0 m0 d0, .slice C0 o0 e0] 27)
  have B_0 := Lib.hid (new1 w (.cells #[.int .i64 y0.kind, .int .i64 y0.who, .int .i64 y0.seq, .bool y0.once, .string y0.key, .string y0.val, .int .i64 y0.lease, .int .i64 y0.rev, .int .i64 y0.ttl, .int .i64 y0.token, .slice A0 n0 c0, .slice B0 m0 d0, .slice C0 o0 e0] 27))
  clear k0
  go_enter Try.func7, Try.ntmps7
  go_wp2_with fail
  refine (short_any y0 A0 n0 c0 B0 m0 d0 C0 o0 e0 _ K_0.out).mono ?_; rintro e w1 ⟨rfl, hb⟩
  rw [HS.out]
  have S_1 := Lib.hid hb; clear hb
  have K_2 := Lib.hid (K_0.out.keep S_1.out)
  have O_3 := Lib.hid (O_0.out.below S_1.out)
  have B_4 := Lib.hid (then_ B_0.out S_1.out)
  clear K_0 O_0 B_0
  clear S_1
  go_wp2_with fail
  refine (live_any _).mono ?_; rintro e w2 ⟨rfl, hb⟩
  have S_5 := Lib.hid hb; clear hb
  have K_6 := Lib.hid (K_2.out.keep S_5.out)
  have O_7 := Lib.hid (O_3.out.below S_5.out)
  have B_8 := Lib.hid (then_ B_4.out S_5.out)
  clear K_2 O_3 B_4
  clear S_5
  go_wp2
  go_ret
  exact ⟨rfl, B_8.out⟩

theorem wide (w : World) (y0 : Rq) (A0 : Option Addr) (n0 c0 : Nat) (B0 : Option Addr) (m0 d0 : Nat) (C0 : Option Addr) (o0 e0 : Nat) (a1 : Int) (a2 : ByteArray) (k0 : RqAt w y0 A0 n0 c0 B0 m0 d0 C0 o0 e0) (w1 : (Lit.int .i64 a1).wf = true) (w2 : a2.size ≤ maxLen) (hs : shortQ y0 = true) (hz : ¬ a2.size ≤ 100) :
    Calls Try.prog 7 #[y0.agg A0 n0 c0 B0 m0 d0 C0 o0 e0, .int .i64 a1, .string a2] w fun e w' => e = .returned (.bool true) ∧ Below w.heap.size w w' := by
  have HS := Lib.hid hs; clear hs w1; unfold maxLen at w2
  have K_0 := Lib.hid (k0.keep (new1 w (.cells #[.int .i64 y0.kind, .int .i64 y0.who, .int .i64 y0.seq, .bool y0.once, .string y0.key, .string y0.val, .int .i64 y0.lease, .int .i64 y0.rev, .int .i64 y0.ttl, .int .i64 y0.token, .slice A0 n0 c0, .slice B0 m0 d0, .slice C0 o0 e0] 27)))
  have O_0 := Lib.hid (own_new w #[.int .i64 y0.kind, .int .i64 y0.who, .int .i64 y0.seq, .bool y0.once, .string y0.key, .string y0.val, .int .i64 y0.lease, .int .i64 y0.rev, .int .i64 y0.ttl, .int .i64 y0.token, .slice A0 n0 c0, .slice B0 m0 d0, .slice C0 o0 e0] 27)
  have B_0 := Lib.hid (new1 w (.cells #[.int .i64 y0.kind, .int .i64 y0.who, .int .i64 y0.seq, .bool y0.once, .string y0.key, .string y0.val, .int .i64 y0.lease, .int .i64 y0.rev, .int .i64 y0.ttl, .int .i64 y0.token, .slice A0 n0 c0, .slice B0 m0 d0, .slice C0 o0 e0] 27))
  clear k0
  go_enter Try.func7, Try.ntmps7
  go_wp2_with fail
  refine (short_any y0 A0 n0 c0 B0 m0 d0 C0 o0 e0 _ K_0.out).mono ?_; rintro e w1 ⟨rfl, hb⟩
  rw [HS.out]
  have S_1 := Lib.hid hb; clear hb
  have K_2 := Lib.hid (K_0.out.keep S_1.out)
  have O_3 := Lib.hid (O_0.out.below S_1.out)
  have B_4 := Lib.hid (then_ B_0.out S_1.out)
  clear K_0 O_0 B_0
  clear S_1
  go_wp2_with fail
  refine (live_any _).mono ?_; rintro e w2 ⟨rfl, hb⟩
  have S_5 := Lib.hid hb; clear hb
  have K_6 := Lib.hid (K_2.out.keep S_5.out)
  have O_7 := Lib.hid (O_3.out.below S_5.out)
  have B_8 := Lib.hid (then_ B_4.out S_5.out)
  clear K_2 O_3 B_4
  clear S_5
  go_wp2
  go_ret
  exact ⟨rfl, B_8.out⟩

theorem nope (w : World) (y0 : Rq) (A0 : Option Addr) (n0 c0 : Nat) (B0 : Option Addr) (m0 d0 : Nat) (C0 : Option Addr) (o0 e0 : Nat) (a1 : Int) (a2 : ByteArray) (k0 : RqAt w y0 A0 n0 c0 B0 m0 d0 C0 o0 e0) (w1 : (Lit.int .i64 a1).wf = true) (w2 : a2.size ≤ maxLen) (hs : shortQ y0 = true) (hz : a2.size ≤ 100) (hm : mayAskB y0 = false) :
    Calls Try.prog 7 #[y0.agg A0 n0 c0 B0 m0 d0 C0 o0 e0, .int .i64 a1, .string a2] w fun e w' => e = .returned (.bool true) ∧ Below w.heap.size w w' := by
  have HS := Lib.hid hs; have HM := Lib.hid hm; clear hs hm w1 w2
  have K_0 := Lib.hid (k0.keep (new1 w (.cells #[.int .i64 y0.kind, .int .i64 y0.who, .int .i64 y0.seq, .bool y0.once, .string y0.key, .string y0.val, .int .i64 y0.lease, .int .i64 y0.rev, .int .i64 y0.ttl, .int .i64 y0.token, .slice A0 n0 c0, .slice B0 m0 d0, .slice C0 o0 e0] 27)))
  have O_0 := Lib.hid (own_new w #[.int .i64 y0.kind, .int .i64 y0.who, .int .i64 y0.seq, .bool y0.once, .string y0.key, .string y0.val, .int .i64 y0.lease, .int .i64 y0.rev, .int .i64 y0.ttl, .int .i64 y0.token, .slice A0 n0 c0, .slice B0 m0 d0, .slice C0 o0 e0] 27)
  have B_0 := Lib.hid (new1 w (.cells #[.int .i64 y0.kind, .int .i64 y0.who, .int .i64 y0.seq, .bool y0.once, .string y0.key, .string y0.val, .int .i64 y0.lease, .int .i64 y0.rev, .int .i64 y0.ttl, .int .i64 y0.token, .slice A0 n0 c0, .slice B0 m0 d0, .slice C0 o0 e0] 27))
  clear k0
  go_enter Try.func7, Try.ntmps7
  go_wp2_with fail
  refine (short_any y0 A0 n0 c0 B0 m0 d0 C0 o0 e0 _ K_0.out).mono ?_; rintro e w1 ⟨rfl, hb⟩
  rw [HS.out]
  have S_1 := Lib.hid hb; clear hb
  have K_2 := Lib.hid (K_0.out.keep S_1.out)
  have O_3 := Lib.hid (O_0.out.below S_1.out)
  have B_4 := Lib.hid (then_ B_0.out S_1.out)
  clear K_0 O_0 B_0
  clear S_1
  have f0 := O_3.out.cell 0 _ rfl
  have f1 := O_3.out.cell 1 _ rfl
  have f2 := O_3.out.cell 2 _ rfl
  have f3 := O_3.out.cell 3 _ rfl
  have f4 := O_3.out.cell 4 _ rfl
  have f5 := O_3.out.cell 5 _ rfl
  have f6 := O_3.out.cell 6 _ rfl
  have f7 := O_3.out.cell 7 _ rfl
  have f8 := O_3.out.cell 8 _ rfl
  have f9 := O_3.out.cell 9 _ rfl
  have f10 := O_3.out.cell 10 _ rfl
  have f11 := O_3.out.cell 11 _ rfl
  have f12 := O_3.out.cell 12 _ rfl
  go_wp2_with fail
  refine (ask_any y0 A0 n0 c0 B0 m0 d0 C0 o0 e0 _ K_2.out).mono ?_; rintro e w2 ⟨rfl, hb⟩
  rw [askB_no HM.out, HM.out]
  have S_5 := Lib.hid hb; clear hb
  have K_6 := Lib.hid (K_2.out.keep S_5.out)
  have O_7 := Lib.hid (O_3.out.below S_5.out)
  have B_8 := Lib.hid (then_ B_4.out S_5.out)
  clear K_2 O_3 B_4
  clear S_5
  clear f0 f1 f2 f3 f4 f5 f6 f7 f8 f9 f10 f11 f12
  clear K_6
  clear O_7
  go_wp2_with fail
  refine (live_any _).mono ?_; rintro e w3 ⟨rfl, hb⟩
  have S_9 := Lib.hid hb; clear hb
  have B_10 := Lib.hid (then_ B_8.out S_9.out)
  clear B_8
  clear S_9
  go_wp2
  go_ret
  exact ⟨rfl, B_10.out⟩

theorem neg1 (w : World) (y0 : Rq) (A0 : Option Addr) (n0 c0 : Nat) (B0 : Option Addr) (m0 d0 : Nat) (C0 : Option Addr) (o0 e0 : Nat) (a1 : Int) (k0 : RqAt w y0 A0 n0 c0 B0 m0 d0 C0 o0 e0) (hc : a1 < 0) (hs : shortQ y0 = true) (hm : mayAskB y0 = true) :
    Calls Try.prog 7 #[y0.agg A0 n0 c0 B0 m0 d0 C0 o0 e0, .int .i64 a1, .string ⟨#[]⟩] w fun e w' => e = .returned (.bool true) ∧ Below w.heap.size w w' := by
  have HS := Lib.hid hs; have HM := Lib.hid hm; clear hs hm
  have hsz := askB_len y0
  have HSZ := Lib.hid hsz
  have K_0 := Lib.hid (k0.keep (new1 w (.cells #[.int .i64 y0.kind, .int .i64 y0.who, .int .i64 y0.seq, .bool y0.once, .string y0.key, .string y0.val, .int .i64 y0.lease, .int .i64 y0.rev, .int .i64 y0.ttl, .int .i64 y0.token, .slice A0 n0 c0, .slice B0 m0 d0, .slice C0 o0 e0] 27)))
  have O_0 := Lib.hid (own_new w #[.int .i64 y0.kind, .int .i64 y0.who, .int .i64 y0.seq, .bool y0.once, .string y0.key, .string y0.val, .int .i64 y0.lease, .int .i64 y0.rev, .int .i64 y0.ttl, .int .i64 y0.token, .slice A0 n0 c0, .slice B0 m0 d0, .slice C0 o0 e0] 27)
  have B_0 := Lib.hid (new1 w (.cells #[.int .i64 y0.kind, .int .i64 y0.who, .int .i64 y0.seq, .bool y0.once, .string y0.key, .string y0.val, .int .i64 y0.lease, .int .i64 y0.rev, .int .i64 y0.ttl, .int .i64 y0.token, .slice A0 n0 c0, .slice B0 m0 d0, .slice C0 o0 e0] 27))
  clear k0
  go_enter Try.func7, Try.ntmps7
  go_wp2_with fail
  refine (short_any y0 A0 n0 c0 B0 m0 d0 C0 o0 e0 _ K_0.out).mono ?_; rintro e w1 ⟨rfl, hb⟩
  rw [HS.out]
  have S_1 := Lib.hid hb; clear hb
  have K_2 := Lib.hid (K_0.out.keep S_1.out)
  have O_3 := Lib.hid (O_0.out.below S_1.out)
  have B_4 := Lib.hid (then_ B_0.out S_1.out)
  clear K_0 O_0 B_0
  clear S_1
  have f0 := O_3.out.cell 0 _ rfl
  have f1 := O_3.out.cell 1 _ rfl
  have f2 := O_3.out.cell 2 _ rfl
  have f3 := O_3.out.cell 3 _ rfl
  have f4 := O_3.out.cell 4 _ rfl
  have f5 := O_3.out.cell 5 _ rfl
  have f6 := O_3.out.cell 6 _ rfl
  have f7 := O_3.out.cell 7 _ rfl
  have f8 := O_3.out.cell 8 _ rfl
  have f9 := O_3.out.cell 9 _ rfl
  have f10 := O_3.out.cell 10 _ rfl
  have f11 := O_3.out.cell 11 _ rfl
  have f12 := O_3.out.cell 12 _ rfl
  go_wp2_with fail
  refine (ask_any y0 A0 n0 c0 B0 m0 d0 C0 o0 e0 _ K_2.out).mono ?_; rintro e w2 ⟨rfl, hb⟩
  rw [HM.out]
  have S_5 := Lib.hid hb; clear hb
  have K_6 := Lib.hid (K_2.out.keep S_5.out)
  have O_7 := Lib.hid (O_3.out.below S_5.out)
  have B_8 := Lib.hid (then_ B_4.out S_5.out)
  clear K_2 O_3 B_4
  clear S_5
  clear f0 f1 f2 f3 f4 f5 f6 f7 f8 f9 f10 f11 f12
  clear K_6
  clear O_7
  go_wp2_with fail
  refine (told__no _ (askB_le y0) (apart_told HM.out)).mono ?_; rintro e w3 ⟨As0, ns0, cs0, As1, ns1, cs1, rfl, hat, hb⟩
  clear hat
  have S_9 := Lib.hid hb; clear hb
  have B_10 := Lib.hid (then_ B_8.out S_9.out)
  clear B_8
  clear S_9
  have B_11 := Lib.hid (then_ B_10.out (new1 w3 (.cells #[.int .i64 zeroRp.code, .int .i64 zeroRp.who, .int .i64 zeroRp.seq, .int .i64 zeroRp.rev, .int .i64 zeroRp.lease, .int .i64 zeroRp.ttl, .bool zeroRp.yes, .slice As0 ns0 cs0, .slice As1 ns1 cs1] 40)))
  clear B_10
  go_wp2_with fail
  refine (asked_yes _ (app_size (by decide) HSZ.out) (more_some HM.out)).mono ?_; rintro e w4 ⟨Am0, nm0, cm0, Am1, nm1, cm1, Am2, nm2, cm2, rfl, hat, hb⟩
  clear hat
  have S_12 := Lib.hid hb; clear hb
  have B_13 := Lib.hid (then_ B_11.out S_12.out)
  clear B_11
  clear S_12
  have B_14 := Lib.hid (then_ B_13.out (new1 w4 (.cells #[.int .i64 y0.kind, .int .i64 y0.who, .int .i64 y0.seq, .bool y0.once, .string y0.key, .string y0.val, .int .i64 y0.lease, .int .i64 y0.rev, .int .i64 y0.ttl, .int .i64 y0.token, .slice Am0 nm0 cm0, .slice Am1 nm1 cm1, .slice Am2 nm2 cm2] 27)))
  clear B_13
  go_wp2_with fail
  refine (live_any _).mono ?_; rintro e w5 ⟨rfl, hb⟩
  have S_15 := Lib.hid hb; clear hb
  have B_16 := Lib.hid (then_ B_14.out S_15.out)
  clear B_14
  clear S_15
  go_wp2
  go_ret
  exact ⟨rfl, B_16.out⟩

theorem ge1 (w : World) (y0 : Rq) (A0 : Option Addr) (n0 c0 : Nat) (B0 : Option Addr) (m0 d0 : Nat) (C0 : Option Addr) (o0 e0 : Nat) (a1 : Int) (k0 : RqAt w y0 A0 n0 c0 B0 m0 d0 C0 o0 e0) (hc0 : 0 ≤ a1) (hc : ((askB y0).size : Int) ≤ a1) (hs : shortQ y0 = true) (hm : mayAskB y0 = true) :
    Calls Try.prog 7 #[y0.agg A0 n0 c0 B0 m0 d0 C0 o0 e0, .int .i64 a1, .string ⟨#[]⟩] w fun e w' => e = .returned (.bool true) ∧ Below w.heap.size w w' := by
  have HS := Lib.hid hs; have HM := Lib.hid hm; clear hs hm
  have hsz := askB_len y0
  have HSZ := Lib.hid hsz
  have K_0 := Lib.hid (k0.keep (new1 w (.cells #[.int .i64 y0.kind, .int .i64 y0.who, .int .i64 y0.seq, .bool y0.once, .string y0.key, .string y0.val, .int .i64 y0.lease, .int .i64 y0.rev, .int .i64 y0.ttl, .int .i64 y0.token, .slice A0 n0 c0, .slice B0 m0 d0, .slice C0 o0 e0] 27)))
  have O_0 := Lib.hid (own_new w #[.int .i64 y0.kind, .int .i64 y0.who, .int .i64 y0.seq, .bool y0.once, .string y0.key, .string y0.val, .int .i64 y0.lease, .int .i64 y0.rev, .int .i64 y0.ttl, .int .i64 y0.token, .slice A0 n0 c0, .slice B0 m0 d0, .slice C0 o0 e0] 27)
  have B_0 := Lib.hid (new1 w (.cells #[.int .i64 y0.kind, .int .i64 y0.who, .int .i64 y0.seq, .bool y0.once, .string y0.key, .string y0.val, .int .i64 y0.lease, .int .i64 y0.rev, .int .i64 y0.ttl, .int .i64 y0.token, .slice A0 n0 c0, .slice B0 m0 d0, .slice C0 o0 e0] 27))
  clear k0
  go_enter Try.func7, Try.ntmps7
  go_wp2_with fail
  refine (short_any y0 A0 n0 c0 B0 m0 d0 C0 o0 e0 _ K_0.out).mono ?_; rintro e w1 ⟨rfl, hb⟩
  rw [HS.out]
  have S_1 := Lib.hid hb; clear hb
  have K_2 := Lib.hid (K_0.out.keep S_1.out)
  have O_3 := Lib.hid (O_0.out.below S_1.out)
  have B_4 := Lib.hid (then_ B_0.out S_1.out)
  clear K_0 O_0 B_0
  clear S_1
  have f0 := O_3.out.cell 0 _ rfl
  have f1 := O_3.out.cell 1 _ rfl
  have f2 := O_3.out.cell 2 _ rfl
  have f3 := O_3.out.cell 3 _ rfl
  have f4 := O_3.out.cell 4 _ rfl
  have f5 := O_3.out.cell 5 _ rfl
  have f6 := O_3.out.cell 6 _ rfl
  have f7 := O_3.out.cell 7 _ rfl
  have f8 := O_3.out.cell 8 _ rfl
  have f9 := O_3.out.cell 9 _ rfl
  have f10 := O_3.out.cell 10 _ rfl
  have f11 := O_3.out.cell 11 _ rfl
  have f12 := O_3.out.cell 12 _ rfl
  go_wp2_with fail
  refine (ask_any y0 A0 n0 c0 B0 m0 d0 C0 o0 e0 _ K_2.out).mono ?_; rintro e w2 ⟨rfl, hb⟩
  rw [HM.out]
  have S_5 := Lib.hid hb; clear hb
  have K_6 := Lib.hid (K_2.out.keep S_5.out)
  have O_7 := Lib.hid (O_3.out.below S_5.out)
  have B_8 := Lib.hid (then_ B_4.out S_5.out)
  clear K_2 O_3 B_4
  clear S_5
  clear f0 f1 f2 f3 f4 f5 f6 f7 f8 f9 f10 f11 f12
  clear K_6
  clear O_7
  go_wp2_with fail
  refine (told__no _ (askB_le y0) (apart_told HM.out)).mono ?_; rintro e w3 ⟨As0, ns0, cs0, As1, ns1, cs1, rfl, hat, hb⟩
  clear hat
  have S_9 := Lib.hid hb; clear hb
  have B_10 := Lib.hid (then_ B_8.out S_9.out)
  clear B_8
  clear S_9
  have B_11 := Lib.hid (then_ B_10.out (new1 w3 (.cells #[.int .i64 zeroRp.code, .int .i64 zeroRp.who, .int .i64 zeroRp.seq, .int .i64 zeroRp.rev, .int .i64 zeroRp.lease, .int .i64 zeroRp.ttl, .bool zeroRp.yes, .slice As0 ns0 cs0, .slice As1 ns1 cs1] 40)))
  clear B_10
  go_wp2_with fail
  refine (asked_yes _ (app_size (by decide) HSZ.out) (more_some HM.out)).mono ?_; rintro e w4 ⟨Am0, nm0, cm0, Am1, nm1, cm1, Am2, nm2, cm2, rfl, hat, hb⟩
  clear hat
  have S_12 := Lib.hid hb; clear hb
  have B_13 := Lib.hid (then_ B_11.out S_12.out)
  clear B_11
  clear S_12
  have B_14 := Lib.hid (then_ B_13.out (new1 w4 (.cells #[.int .i64 y0.kind, .int .i64 y0.who, .int .i64 y0.seq, .bool y0.once, .string y0.key, .string y0.val, .int .i64 y0.lease, .int .i64 y0.rev, .int .i64 y0.ttl, .int .i64 y0.token, .slice Am0 nm0 cm0, .slice Am1 nm1 cm1, .slice Am2 nm2 cm2] 27)))
  clear B_13
  go_wp2_with fail
  refine (live_any _).mono ?_; rintro e w5 ⟨rfl, hb⟩
  have S_15 := Lib.hid hb; clear hb
  have B_16 := Lib.hid (then_ B_14.out S_15.out)
  clear B_14
  clear S_15
  go_wp2
  go_ret
  exact ⟨rfl, B_16.out⟩

theorem mid1 (w : World) (y0 : Rq) (A0 : Option Addr) (n0 c0 : Nat) (B0 : Option Addr) (m0 d0 : Nat) (C0 : Option Addr) (o0 e0 : Nat) (k : Nat) (k0 : RqAt w y0 A0 n0 c0 B0 m0 d0 C0 o0 e0) (hc : k < (askB y0).size) (hs : shortQ y0 = true) (hm : mayAskB y0 = true) :
    Calls Try.prog 7 #[y0.agg A0 n0 c0 B0 m0 d0 C0 o0 e0, .int .i64 (k : Int), .string ⟨#[]⟩] w fun e w' => e = .returned (.bool true) ∧ Below w.heap.size w w' := by
  have HS := Lib.hid hs; have HM := Lib.hid hm; clear hs hm
  have hsz := askB_len y0
  have HSZ := Lib.hid hsz
  have hsl := cut_slice (askB y0) k (by omega)
  have HK := Lib.hid hc
  have K_0 := Lib.hid (k0.keep (new1 w (.cells #[.int .i64 y0.kind, .int .i64 y0.who, .int .i64 y0.seq, .bool y0.once, .string y0.key, .string y0.val, .int .i64 y0.lease, .int .i64 y0.rev, .int .i64 y0.ttl, .int .i64 y0.token, .slice A0 n0 c0, .slice B0 m0 d0, .slice C0 o0 e0] 27)))
  have O_0 := Lib.hid (own_new w #[.int .i64 y0.kind, .int .i64 y0.who, .int .i64 y0.seq, .bool y0.once, .string y0.key, .string y0.val, .int .i64 y0.lease, .int .i64 y0.rev, .int .i64 y0.ttl, .int .i64 y0.token, .slice A0 n0 c0, .slice B0 m0 d0, .slice C0 o0 e0] 27)
  have B_0 := Lib.hid (new1 w (.cells #[.int .i64 y0.kind, .int .i64 y0.who, .int .i64 y0.seq, .bool y0.once, .string y0.key, .string y0.val, .int .i64 y0.lease, .int .i64 y0.rev, .int .i64 y0.ttl, .int .i64 y0.token, .slice A0 n0 c0, .slice B0 m0 d0, .slice C0 o0 e0] 27))
  clear k0
  go_enter Try.func7, Try.ntmps7
  go_wp2_with fail
  refine (short_any y0 A0 n0 c0 B0 m0 d0 C0 o0 e0 _ K_0.out).mono ?_; rintro e w1 ⟨rfl, hb⟩
  rw [HS.out]
  have S_1 := Lib.hid hb; clear hb
  have K_2 := Lib.hid (K_0.out.keep S_1.out)
  have O_3 := Lib.hid (O_0.out.below S_1.out)
  have B_4 := Lib.hid (then_ B_0.out S_1.out)
  clear K_0 O_0 B_0
  clear S_1
  have f0 := O_3.out.cell 0 _ rfl
  have f1 := O_3.out.cell 1 _ rfl
  have f2 := O_3.out.cell 2 _ rfl
  have f3 := O_3.out.cell 3 _ rfl
  have f4 := O_3.out.cell 4 _ rfl
  have f5 := O_3.out.cell 5 _ rfl
  have f6 := O_3.out.cell 6 _ rfl
  have f7 := O_3.out.cell 7 _ rfl
  have f8 := O_3.out.cell 8 _ rfl
  have f9 := O_3.out.cell 9 _ rfl
  have f10 := O_3.out.cell 10 _ rfl
  have f11 := O_3.out.cell 11 _ rfl
  have f12 := O_3.out.cell 12 _ rfl
  go_wp2_with fail
  refine (ask_any y0 A0 n0 c0 B0 m0 d0 C0 o0 e0 _ K_2.out).mono ?_; rintro e w2 ⟨rfl, hb⟩
  rw [HM.out]
  have S_5 := Lib.hid hb; clear hb
  have K_6 := Lib.hid (K_2.out.keep S_5.out)
  have O_7 := Lib.hid (O_3.out.below S_5.out)
  have B_8 := Lib.hid (then_ B_4.out S_5.out)
  clear K_2 O_3 B_4
  clear S_5
  clear f0 f1 f2 f3 f4 f5 f6 f7 f8 f9 f10 f11 f12
  clear K_6
  clear O_7
  go_wp2_with fail
  refine (told__no _ (askB_le y0) (apart_told HM.out)).mono ?_; rintro e w3 ⟨As0, ns0, cs0, As1, ns1, cs1, rfl, hat, hb⟩
  clear hat
  have S_9 := Lib.hid hb; clear hb
  have B_10 := Lib.hid (then_ B_8.out S_9.out)
  clear B_8
  clear S_9
  have B_11 := Lib.hid (then_ B_10.out (new1 w3 (.cells #[.int .i64 zeroRp.code, .int .i64 zeroRp.who, .int .i64 zeroRp.seq, .int .i64 zeroRp.rev, .int .i64 zeroRp.lease, .int .i64 zeroRp.ttl, .bool zeroRp.yes, .slice As0 ns0 cs0, .slice As1 ns1 cs1] 40)))
  clear B_10
  go_wp2_with fail
  refine (asked_yes _ (app_size (by decide) HSZ.out) (more_some HM.out)).mono ?_; rintro e w4 ⟨Am0, nm0, cm0, Am1, nm1, cm1, Am2, nm2, cm2, rfl, hat, hb⟩
  clear hat
  have S_12 := Lib.hid hb; clear hb
  have B_13 := Lib.hid (then_ B_11.out S_12.out)
  clear B_11
  clear S_12
  have B_14 := Lib.hid (then_ B_13.out (new1 w4 (.cells #[.int .i64 y0.kind, .int .i64 y0.who, .int .i64 y0.seq, .bool y0.once, .string y0.key, .string y0.val, .int .i64 y0.lease, .int .i64 y0.rev, .int .i64 y0.ttl, .int .i64 y0.token, .slice Am0 nm0 cm0, .slice Am1 nm1 cm1, .slice Am2 nm2 cm2] 27)))
  clear B_13
  go_wp2_with fail
  refine (asked_no _ (ext_size HSZ.out) (cut_asked HM.out HK.out)).mono ?_; rintro e w5 ⟨Au0, nu0, cu0, Au1, nu1, cu1, Au2, nu2, cu2, rfl, hat, hb⟩
  clear hat
  have S_15 := Lib.hid hb; clear hb
  have B_16 := Lib.hid (then_ B_14.out S_15.out)
  clear B_14
  clear S_15
  have B_17 := Lib.hid (then_ B_16.out (new1 w5 (.cells #[.int .i64 zeroRq.kind, .int .i64 zeroRq.who, .int .i64 zeroRq.seq, .bool zeroRq.once, .string zeroRq.key, .string zeroRq.val, .int .i64 zeroRq.lease, .int .i64 zeroRq.rev, .int .i64 zeroRq.ttl, .int .i64 zeroRq.token, .slice Au0 nu0 cu0, .slice Au1 nu1 cu1, .slice Au2 nu2 cu2] 27)))
  clear B_16
  go_wp2_with fail
  refine (told__no _ (ext_size HSZ.out) (cut_told HM.out)).mono ?_; rintro e w6 ⟨Av0, nv0, cv0, Av1, nv1, cv1, rfl, hat, hb⟩
  clear hat
  have S_18 := Lib.hid hb; clear hb
  have B_19 := Lib.hid (then_ B_17.out S_18.out)
  clear B_17
  clear S_18
  have B_20 := Lib.hid (then_ B_19.out (new1 w6 (.cells #[.int .i64 zeroRp.code, .int .i64 zeroRp.who, .int .i64 zeroRp.seq, .int .i64 zeroRp.rev, .int .i64 zeroRp.lease, .int .i64 zeroRp.ttl, .bool zeroRp.yes, .slice Av0 nv0 cv0, .slice Av1 nv1 cv1] 40)))
  clear B_19
  go_wp2_with fail
  refine (live_any _).mono ?_; rintro e w7 ⟨rfl, hb⟩
  have S_21 := Lib.hid hb; clear hb
  have B_22 := Lib.hid (then_ B_20.out S_21.out)
  clear B_20
  clear S_21
  go_wp2
  go_ret
  exact ⟨rfl, B_22.out⟩

theorem neg0 (w : World) (y0 : Rq) (A0 : Option Addr) (n0 c0 : Nat) (B0 : Option Addr) (m0 d0 : Nat) (C0 : Option Addr) (o0 e0 : Nat) (a1 : Int) (a2 : ByteArray) (k0 : RqAt w y0 A0 n0 c0 B0 m0 d0 C0 o0 e0) (hc : a1 < 0) (hs : shortQ y0 = true) (hm : mayAskB y0 = true) (hz : a2.size ≤ 100) (he : a2.size ≠ 0) :
    Calls Try.prog 7 #[y0.agg A0 n0 c0 B0 m0 d0 C0 o0 e0, .int .i64 a1, .string a2] w fun e w' => e = .returned (.bool true) ∧ Below w.heap.size w w' := by
  have HS := Lib.hid hs; have HM := Lib.hid hm; clear hs hm
  have hsz := askB_len y0
  have HSZ := Lib.hid hsz
  have HZ := Lib.hid (app_size hz hsz)
  have h1 := str_full he; have h2 := str_ne he
  have HE := Lib.hid he
  have K_0 := Lib.hid (k0.keep (new1 w (.cells #[.int .i64 y0.kind, .int .i64 y0.who, .int .i64 y0.seq, .bool y0.once, .string y0.key, .string y0.val, .int .i64 y0.lease, .int .i64 y0.rev, .int .i64 y0.ttl, .int .i64 y0.token, .slice A0 n0 c0, .slice B0 m0 d0, .slice C0 o0 e0] 27)))
  have O_0 := Lib.hid (own_new w #[.int .i64 y0.kind, .int .i64 y0.who, .int .i64 y0.seq, .bool y0.once, .string y0.key, .string y0.val, .int .i64 y0.lease, .int .i64 y0.rev, .int .i64 y0.ttl, .int .i64 y0.token, .slice A0 n0 c0, .slice B0 m0 d0, .slice C0 o0 e0] 27)
  have B_0 := Lib.hid (new1 w (.cells #[.int .i64 y0.kind, .int .i64 y0.who, .int .i64 y0.seq, .bool y0.once, .string y0.key, .string y0.val, .int .i64 y0.lease, .int .i64 y0.rev, .int .i64 y0.ttl, .int .i64 y0.token, .slice A0 n0 c0, .slice B0 m0 d0, .slice C0 o0 e0] 27))
  clear k0
  go_enter Try.func7, Try.ntmps7
  go_wp2_with fail
  refine (short_any y0 A0 n0 c0 B0 m0 d0 C0 o0 e0 _ K_0.out).mono ?_; rintro e w1 ⟨rfl, hb⟩
  rw [HS.out]
  have S_1 := Lib.hid hb; clear hb
  have K_2 := Lib.hid (K_0.out.keep S_1.out)
  have O_3 := Lib.hid (O_0.out.below S_1.out)
  have B_4 := Lib.hid (then_ B_0.out S_1.out)
  clear K_0 O_0 B_0
  clear S_1
  have f0 := O_3.out.cell 0 _ rfl
  have f1 := O_3.out.cell 1 _ rfl
  have f2 := O_3.out.cell 2 _ rfl
  have f3 := O_3.out.cell 3 _ rfl
  have f4 := O_3.out.cell 4 _ rfl
  have f5 := O_3.out.cell 5 _ rfl
  have f6 := O_3.out.cell 6 _ rfl
  have f7 := O_3.out.cell 7 _ rfl
  have f8 := O_3.out.cell 8 _ rfl
  have f9 := O_3.out.cell 9 _ rfl
  have f10 := O_3.out.cell 10 _ rfl
  have f11 := O_3.out.cell 11 _ rfl
  have f12 := O_3.out.cell 12 _ rfl
  go_wp2_with fail
  refine (ask_any y0 A0 n0 c0 B0 m0 d0 C0 o0 e0 _ K_2.out).mono ?_; rintro e w2 ⟨rfl, hb⟩
  rw [HM.out]
  have S_5 := Lib.hid hb; clear hb
  have K_6 := Lib.hid (K_2.out.keep S_5.out)
  have O_7 := Lib.hid (O_3.out.below S_5.out)
  have B_8 := Lib.hid (then_ B_4.out S_5.out)
  clear K_2 O_3 B_4
  clear S_5
  clear f0 f1 f2 f3 f4 f5 f6 f7 f8 f9 f10 f11 f12
  clear K_6
  clear O_7
  go_wp2_with fail
  refine (told__no _ (askB_le y0) (apart_told HM.out)).mono ?_; rintro e w3 ⟨As0, ns0, cs0, As1, ns1, cs1, rfl, hat, hb⟩
  clear hat
  have S_9 := Lib.hid hb; clear hb
  have B_10 := Lib.hid (then_ B_8.out S_9.out)
  clear B_8
  clear S_9
  have B_11 := Lib.hid (then_ B_10.out (new1 w3 (.cells #[.int .i64 zeroRp.code, .int .i64 zeroRp.who, .int .i64 zeroRp.seq, .int .i64 zeroRp.rev, .int .i64 zeroRp.lease, .int .i64 zeroRp.ttl, .bool zeroRp.yes, .slice As0 ns0 cs0, .slice As1 ns1 cs1] 40)))
  clear B_10
  go_wp2_with fail
  refine (asked_no _ HZ.out (more_none HM.out HE.out)).mono ?_; rintro e w4 ⟨Am0, nm0, cm0, Am1, nm1, cm1, Am2, nm2, cm2, rfl, hat, hb⟩
  clear hat
  have S_12 := Lib.hid hb; clear hb
  have B_13 := Lib.hid (then_ B_11.out S_12.out)
  clear B_11
  clear S_12
  have B_14 := Lib.hid (then_ B_13.out (new1 w4 (.cells #[.int .i64 zeroRq.kind, .int .i64 zeroRq.who, .int .i64 zeroRq.seq, .bool zeroRq.once, .string zeroRq.key, .string zeroRq.val, .int .i64 zeroRq.lease, .int .i64 zeroRq.rev, .int .i64 zeroRq.ttl, .int .i64 zeroRq.token, .slice Am0 nm0 cm0, .slice Am1 nm1 cm1, .slice Am2 nm2 cm2] 27)))
  clear B_13
  go_wp2_with fail
  refine (live_any _).mono ?_; rintro e w5 ⟨rfl, hb⟩
  have S_15 := Lib.hid hb; clear hb
  have B_16 := Lib.hid (then_ B_14.out S_15.out)
  clear B_14
  clear S_15
  go_wp2
  go_ret
  exact ⟨rfl, B_16.out⟩

theorem ge0 (w : World) (y0 : Rq) (A0 : Option Addr) (n0 c0 : Nat) (B0 : Option Addr) (m0 d0 : Nat) (C0 : Option Addr) (o0 e0 : Nat) (a1 : Int) (a2 : ByteArray) (k0 : RqAt w y0 A0 n0 c0 B0 m0 d0 C0 o0 e0) (hc0 : 0 ≤ a1) (hc : ((askB y0).size : Int) ≤ a1) (hs : shortQ y0 = true) (hm : mayAskB y0 = true) (hz : a2.size ≤ 100) (he : a2.size ≠ 0) :
    Calls Try.prog 7 #[y0.agg A0 n0 c0 B0 m0 d0 C0 o0 e0, .int .i64 a1, .string a2] w fun e w' => e = .returned (.bool true) ∧ Below w.heap.size w w' := by
  have HS := Lib.hid hs; have HM := Lib.hid hm; clear hs hm
  have hsz := askB_len y0
  have HSZ := Lib.hid hsz
  have HZ := Lib.hid (app_size hz hsz)
  have h1 := str_full he; have h2 := str_ne he
  have HE := Lib.hid he
  have K_0 := Lib.hid (k0.keep (new1 w (.cells #[.int .i64 y0.kind, .int .i64 y0.who, .int .i64 y0.seq, .bool y0.once, .string y0.key, .string y0.val, .int .i64 y0.lease, .int .i64 y0.rev, .int .i64 y0.ttl, .int .i64 y0.token, .slice A0 n0 c0, .slice B0 m0 d0, .slice C0 o0 e0] 27)))
  have O_0 := Lib.hid (own_new w #[.int .i64 y0.kind, .int .i64 y0.who, .int .i64 y0.seq, .bool y0.once, .string y0.key, .string y0.val, .int .i64 y0.lease, .int .i64 y0.rev, .int .i64 y0.ttl, .int .i64 y0.token, .slice A0 n0 c0, .slice B0 m0 d0, .slice C0 o0 e0] 27)
  have B_0 := Lib.hid (new1 w (.cells #[.int .i64 y0.kind, .int .i64 y0.who, .int .i64 y0.seq, .bool y0.once, .string y0.key, .string y0.val, .int .i64 y0.lease, .int .i64 y0.rev, .int .i64 y0.ttl, .int .i64 y0.token, .slice A0 n0 c0, .slice B0 m0 d0, .slice C0 o0 e0] 27))
  clear k0
  go_enter Try.func7, Try.ntmps7
  go_wp2_with fail
  refine (short_any y0 A0 n0 c0 B0 m0 d0 C0 o0 e0 _ K_0.out).mono ?_; rintro e w1 ⟨rfl, hb⟩
  rw [HS.out]
  have S_1 := Lib.hid hb; clear hb
  have K_2 := Lib.hid (K_0.out.keep S_1.out)
  have O_3 := Lib.hid (O_0.out.below S_1.out)
  have B_4 := Lib.hid (then_ B_0.out S_1.out)
  clear K_0 O_0 B_0
  clear S_1
  have f0 := O_3.out.cell 0 _ rfl
  have f1 := O_3.out.cell 1 _ rfl
  have f2 := O_3.out.cell 2 _ rfl
  have f3 := O_3.out.cell 3 _ rfl
  have f4 := O_3.out.cell 4 _ rfl
  have f5 := O_3.out.cell 5 _ rfl
  have f6 := O_3.out.cell 6 _ rfl
  have f7 := O_3.out.cell 7 _ rfl
  have f8 := O_3.out.cell 8 _ rfl
  have f9 := O_3.out.cell 9 _ rfl
  have f10 := O_3.out.cell 10 _ rfl
  have f11 := O_3.out.cell 11 _ rfl
  have f12 := O_3.out.cell 12 _ rfl
  go_wp2_with fail
  refine (ask_any y0 A0 n0 c0 B0 m0 d0 C0 o0 e0 _ K_2.out).mono ?_; rintro e w2 ⟨rfl, hb⟩
  rw [HM.out]
  have S_5 := Lib.hid hb; clear hb
  have K_6 := Lib.hid (K_2.out.keep S_5.out)
  have O_7 := Lib.hid (O_3.out.below S_5.out)
  have B_8 := Lib.hid (then_ B_4.out S_5.out)
  clear K_2 O_3 B_4
  clear S_5
  clear f0 f1 f2 f3 f4 f5 f6 f7 f8 f9 f10 f11 f12
  clear K_6
  clear O_7
  go_wp2_with fail
  refine (told__no _ (askB_le y0) (apart_told HM.out)).mono ?_; rintro e w3 ⟨As0, ns0, cs0, As1, ns1, cs1, rfl, hat, hb⟩
  clear hat
  have S_9 := Lib.hid hb; clear hb
  have B_10 := Lib.hid (then_ B_8.out S_9.out)
  clear B_8
  clear S_9
  have B_11 := Lib.hid (then_ B_10.out (new1 w3 (.cells #[.int .i64 zeroRp.code, .int .i64 zeroRp.who, .int .i64 zeroRp.seq, .int .i64 zeroRp.rev, .int .i64 zeroRp.lease, .int .i64 zeroRp.ttl, .bool zeroRp.yes, .slice As0 ns0 cs0, .slice As1 ns1 cs1] 40)))
  clear B_10
  go_wp2_with fail
  refine (asked_no _ HZ.out (more_none HM.out HE.out)).mono ?_; rintro e w4 ⟨Am0, nm0, cm0, Am1, nm1, cm1, Am2, nm2, cm2, rfl, hat, hb⟩
  clear hat
  have S_12 := Lib.hid hb; clear hb
  have B_13 := Lib.hid (then_ B_11.out S_12.out)
  clear B_11
  clear S_12
  have B_14 := Lib.hid (then_ B_13.out (new1 w4 (.cells #[.int .i64 zeroRq.kind, .int .i64 zeroRq.who, .int .i64 zeroRq.seq, .bool zeroRq.once, .string zeroRq.key, .string zeroRq.val, .int .i64 zeroRq.lease, .int .i64 zeroRq.rev, .int .i64 zeroRq.ttl, .int .i64 zeroRq.token, .slice Am0 nm0 cm0, .slice Am1 nm1 cm1, .slice Am2 nm2 cm2] 27)))
  clear B_13
  go_wp2_with fail
  refine (live_any _).mono ?_; rintro e w5 ⟨rfl, hb⟩
  have S_15 := Lib.hid hb; clear hb
  have B_16 := Lib.hid (then_ B_14.out S_15.out)
  clear B_14
  clear S_15
  go_wp2
  go_ret
  exact ⟨rfl, B_16.out⟩

theorem mid0 (w : World) (y0 : Rq) (A0 : Option Addr) (n0 c0 : Nat) (B0 : Option Addr) (m0 d0 : Nat) (C0 : Option Addr) (o0 e0 : Nat) (k : Nat) (a2 : ByteArray) (k0 : RqAt w y0 A0 n0 c0 B0 m0 d0 C0 o0 e0) (hc : k < (askB y0).size) (hs : shortQ y0 = true) (hm : mayAskB y0 = true) (hz : a2.size ≤ 100) (he : a2.size ≠ 0) :
    Calls Try.prog 7 #[y0.agg A0 n0 c0 B0 m0 d0 C0 o0 e0, .int .i64 (k : Int), .string a2] w fun e w' => e = .returned (.bool true) ∧ Below w.heap.size w w' := by
  have HS := Lib.hid hs; have HM := Lib.hid hm; clear hs hm
  have hsz := askB_len y0
  have HSZ := Lib.hid hsz
  have HZ := Lib.hid (app_size hz hsz)
  have h1 := str_full he; have h2 := str_ne he
  have HE := Lib.hid he
  have hsl := cut_slice (askB y0) k (by omega)
  have HK := Lib.hid hc
  have K_0 := Lib.hid (k0.keep (new1 w (.cells #[.int .i64 y0.kind, .int .i64 y0.who, .int .i64 y0.seq, .bool y0.once, .string y0.key, .string y0.val, .int .i64 y0.lease, .int .i64 y0.rev, .int .i64 y0.ttl, .int .i64 y0.token, .slice A0 n0 c0, .slice B0 m0 d0, .slice C0 o0 e0] 27)))
  have O_0 := Lib.hid (own_new w #[.int .i64 y0.kind, .int .i64 y0.who, .int .i64 y0.seq, .bool y0.once, .string y0.key, .string y0.val, .int .i64 y0.lease, .int .i64 y0.rev, .int .i64 y0.ttl, .int .i64 y0.token, .slice A0 n0 c0, .slice B0 m0 d0, .slice C0 o0 e0] 27)
  have B_0 := Lib.hid (new1 w (.cells #[.int .i64 y0.kind, .int .i64 y0.who, .int .i64 y0.seq, .bool y0.once, .string y0.key, .string y0.val, .int .i64 y0.lease, .int .i64 y0.rev, .int .i64 y0.ttl, .int .i64 y0.token, .slice A0 n0 c0, .slice B0 m0 d0, .slice C0 o0 e0] 27))
  clear k0
  go_enter Try.func7, Try.ntmps7
  go_wp2_with fail
  refine (short_any y0 A0 n0 c0 B0 m0 d0 C0 o0 e0 _ K_0.out).mono ?_; rintro e w1 ⟨rfl, hb⟩
  rw [HS.out]
  have S_1 := Lib.hid hb; clear hb
  have K_2 := Lib.hid (K_0.out.keep S_1.out)
  have O_3 := Lib.hid (O_0.out.below S_1.out)
  have B_4 := Lib.hid (then_ B_0.out S_1.out)
  clear K_0 O_0 B_0
  clear S_1
  have f0 := O_3.out.cell 0 _ rfl
  have f1 := O_3.out.cell 1 _ rfl
  have f2 := O_3.out.cell 2 _ rfl
  have f3 := O_3.out.cell 3 _ rfl
  have f4 := O_3.out.cell 4 _ rfl
  have f5 := O_3.out.cell 5 _ rfl
  have f6 := O_3.out.cell 6 _ rfl
  have f7 := O_3.out.cell 7 _ rfl
  have f8 := O_3.out.cell 8 _ rfl
  have f9 := O_3.out.cell 9 _ rfl
  have f10 := O_3.out.cell 10 _ rfl
  have f11 := O_3.out.cell 11 _ rfl
  have f12 := O_3.out.cell 12 _ rfl
  go_wp2_with fail
  refine (ask_any y0 A0 n0 c0 B0 m0 d0 C0 o0 e0 _ K_2.out).mono ?_; rintro e w2 ⟨rfl, hb⟩
  rw [HM.out]
  have S_5 := Lib.hid hb; clear hb
  have K_6 := Lib.hid (K_2.out.keep S_5.out)
  have O_7 := Lib.hid (O_3.out.below S_5.out)
  have B_8 := Lib.hid (then_ B_4.out S_5.out)
  clear K_2 O_3 B_4
  clear S_5
  clear f0 f1 f2 f3 f4 f5 f6 f7 f8 f9 f10 f11 f12
  clear K_6
  clear O_7
  go_wp2_with fail
  refine (told__no _ (askB_le y0) (apart_told HM.out)).mono ?_; rintro e w3 ⟨As0, ns0, cs0, As1, ns1, cs1, rfl, hat, hb⟩
  clear hat
  have S_9 := Lib.hid hb; clear hb
  have B_10 := Lib.hid (then_ B_8.out S_9.out)
  clear B_8
  clear S_9
  have B_11 := Lib.hid (then_ B_10.out (new1 w3 (.cells #[.int .i64 zeroRp.code, .int .i64 zeroRp.who, .int .i64 zeroRp.seq, .int .i64 zeroRp.rev, .int .i64 zeroRp.lease, .int .i64 zeroRp.ttl, .bool zeroRp.yes, .slice As0 ns0 cs0, .slice As1 ns1 cs1] 40)))
  clear B_10
  go_wp2_with fail
  refine (asked_no _ HZ.out (more_none HM.out HE.out)).mono ?_; rintro e w4 ⟨Am0, nm0, cm0, Am1, nm1, cm1, Am2, nm2, cm2, rfl, hat, hb⟩
  clear hat
  have S_12 := Lib.hid hb; clear hb
  have B_13 := Lib.hid (then_ B_11.out S_12.out)
  clear B_11
  clear S_12
  have B_14 := Lib.hid (then_ B_13.out (new1 w4 (.cells #[.int .i64 zeroRq.kind, .int .i64 zeroRq.who, .int .i64 zeroRq.seq, .bool zeroRq.once, .string zeroRq.key, .string zeroRq.val, .int .i64 zeroRq.lease, .int .i64 zeroRq.rev, .int .i64 zeroRq.ttl, .int .i64 zeroRq.token, .slice Am0 nm0 cm0, .slice Am1 nm1 cm1, .slice Am2 nm2 cm2] 27)))
  clear B_13
  go_wp2_with fail
  refine (asked_no _ (ext_size HSZ.out) (cut_asked HM.out HK.out)).mono ?_; rintro e w5 ⟨Au0, nu0, cu0, Au1, nu1, cu1, Au2, nu2, cu2, rfl, hat, hb⟩
  clear hat
  have S_15 := Lib.hid hb; clear hb
  have B_16 := Lib.hid (then_ B_14.out S_15.out)
  clear B_14
  clear S_15
  have B_17 := Lib.hid (then_ B_16.out (new1 w5 (.cells #[.int .i64 zeroRq.kind, .int .i64 zeroRq.who, .int .i64 zeroRq.seq, .bool zeroRq.once, .string zeroRq.key, .string zeroRq.val, .int .i64 zeroRq.lease, .int .i64 zeroRq.rev, .int .i64 zeroRq.ttl, .int .i64 zeroRq.token, .slice Au0 nu0 cu0, .slice Au1 nu1 cu1, .slice Au2 nu2 cu2] 27)))
  clear B_16
  go_wp2_with fail
  refine (told__no _ (ext_size HSZ.out) (cut_told HM.out)).mono ?_; rintro e w6 ⟨Av0, nv0, cv0, Av1, nv1, cv1, rfl, hat, hb⟩
  clear hat
  have S_18 := Lib.hid hb; clear hb
  have B_19 := Lib.hid (then_ B_17.out S_18.out)
  clear B_17
  clear S_18
  have B_20 := Lib.hid (then_ B_19.out (new1 w6 (.cells #[.int .i64 zeroRp.code, .int .i64 zeroRp.who, .int .i64 zeroRp.seq, .int .i64 zeroRp.rev, .int .i64 zeroRp.lease, .int .i64 zeroRp.ttl, .bool zeroRp.yes, .slice Av0 nv0 cv0, .slice Av1 nv1 cv1] 40)))
  clear B_19
  go_wp2_with fail
  refine (live_any _).mono ?_; rintro e w7 ⟨rfl, hb⟩
  have S_21 := Lib.hid hb; clear hb
  have B_22 := Lib.hid (then_ B_20.out S_21.out)
  clear B_20
  clear S_21
  go_wp2
  go_ret
  exact ⟨rfl, B_22.out⟩

theorem empty_of {s : ByteArray} (h : s.size = 0) : s = ⟨#[]⟩ := by
  apply list_inj
  exact List.eq_nil_of_length_eq_zero (by rw [list_size]; exact h)
theorem walk (w : World) (y0 : Rq) (A0 : Option Addr) (n0 c0 : Nat) (B0 : Option Addr) (m0 d0 : Nat) (C0 : Option Addr) (o0 e0 : Nat) (a1 : Int) (a2 : ByteArray) (k0 : RqAt w y0 A0 n0 c0 B0 m0 d0 C0 o0 e0) (w1 : (Lit.int .i64 a1).wf = true) (w2 : a2.size ≤ maxLen) :
    Calls Try.prog 7 #[y0.agg A0 n0 c0 B0 m0 d0 C0 o0 e0, .int .i64 a1, .string a2] w fun e w' => e = .returned (.bool true) ∧ Below w.heap.size w w' := by
  cases hs : shortQ y0 with
  | false => exact long0 w y0 A0 n0 c0 B0 m0 d0 C0 o0 e0 a1 a2 k0 w1 w2 hs
  | true =>
    by_cases hz : a2.size ≤ 100
    · cases hm : mayAskB y0 with
      | false => exact nope w y0 A0 n0 c0 B0 m0 d0 C0 o0 e0 a1 a2 k0 w1 w2 hs hz hm
      | true =>
        by_cases he : a2.size = 0
        · obtain rfl := empty_of he
          by_cases h0 : a1 < 0
          · exact neg1 w y0 A0 n0 c0 B0 m0 d0 C0 o0 e0 a1 k0 h0 hs hm
          · by_cases h1 : ((askB y0).size : Int) ≤ a1
            · exact ge1 w y0 A0 n0 c0 B0 m0 d0 C0 o0 e0 a1 k0 (by omega) h1 hs hm
            · obtain ⟨k, rfl⟩ : ∃ k : Nat, a1 = (k : Int) := ⟨a1.toNat, by omega⟩
              exact mid1 w y0 A0 n0 c0 B0 m0 d0 C0 o0 e0 k k0 (by omega) hs hm
        · have _ := hz
          by_cases h0 : a1 < 0
          · exact neg0 w y0 A0 n0 c0 B0 m0 d0 C0 o0 e0 a1 a2 k0 h0 hs hm hz he
          · by_cases h1 : ((askB y0).size : Int) ≤ a1
            · exact ge0 w y0 A0 n0 c0 B0 m0 d0 C0 o0 e0 a1 a2 k0 (by omega) h1 hs hm hz he
            · obtain ⟨k, rfl⟩ : ∃ k : Nat, a1 = (k : Int) := ⟨a1.toNat, by omega⟩
              exact mid0 w y0 A0 n0 c0 B0 m0 d0 C0 o0 e0 k a2 k0 (by omega) hs hm hz he
    · exact wide w y0 A0 n0 c0 B0 m0 d0 C0 o0 e0 a1 a2 k0 w1 w2 hs hz

theorem own : ownKnob Try.prog.godebug = none := by kernel_rfl
theorem laidOut : laidOutB Try.prog = true := by kernel_rfl

set_option maxRecDepth 100000 in
theorem lifted (os : Os) (started : os.Started) (H : Type) (enc : TypeId × Value → H) :
    ReturnsInHanded {} Try.checked os 7 .any (Rows.wireApartSpec.pre6 enc Try.prog Try.f7 Rows.wireApartRow.domain false) (Rows.wireApartSpec.post enc Try.prog Try.f7 false true false false) := by
  refine returnsInHanded_of_change (C := Try.checked) own started (by kernel_rfl) Try.func7
    (ChangeSpec.witness6 (enc := enc) (C := Try.checked) false ⟨#[], #[.agg #[.int .i64 0, .int .i64 0, .int .i64 0, .bool false, .string ByteArray.empty, .string ByteArray.empty, .int .i64 0, .int .i64 0, .int .i64 0, .int .i64 0, .slice none 0 0, .slice none 0 0, .slice none 0 0], (.int .i64 0), .string ByteArray.empty], []⟩ 8 (by kernel_rfl) (by kernel_rfl) (by kernel_rfl) (by kernel_rfl)) ?_
  intro W base args ds gs before hval0 hW hcnd _
  have hval : ∀ (j : Nat) t v, Try.f7.params[j]? = some t → args[j]? = some v → Value.okWide Try.prog W .any base t v := hval0
  have hW' := hW
  obtain ⟨p, q, hA0, hV, rfl, hfz, hnd⟩ := hW
  have hA : DataW.TrodAll enc Try.prog W 0 (fun _ => true) true Try.f7.params.toList args.toList ds p := hA0
  rw [Try.params7] at hA hval
  obtain ⟨v0, vs0, d0, ds0, p0, q0, hargs, rfl, rfl, h0, r0⟩ := trodAll_cons hA
  obtain ⟨v1, vs1, d1, ds1, p1, q1, rfl, rfl, rfl, h1, r1⟩ := trodAll_cons r0
  obtain ⟨v2, vs2, d2, ds2, p2, q2, rfl, rfl, rfl, h2, r2⟩ := trodAll_cons r1
  obtain ⟨rfl, rfl, rfl⟩ := trodAll_nil r2
  obtain rfl : args = #[v0, v1, v2] := by cases args; simp_all
  obtain ⟨rfl, rfl⟩ := trodVars_none hV
  obtain ⟨y0, A0, n0, c0, B0, m0, d0, C0, o0, e0, rfl, k0⟩ := open_rq (hval 0 27 v0 rfl rfl) h0
  obtain ⟨a1, rfl, rfl, rfl, w1⟩ := open_int Try.underlying3 (hval 1 3 v1 rfl rfl) h1
  obtain ⟨a2, rfl, rfl, rfl, w2⟩ := open_string Try.underlying9 (hval 2 9 v2 rfl rfl) h2
  clear hA0 hval0
  refine (walk W y0 A0 n0 c0 B0 m0 d0 C0 o0 e0 a1 a2 k0 w1 w2).mono fun e W' ⟨he, bel⟩ => ?_
  subst he
  exact ⟨_, rfl, _, _, _, [], _, [], hW', trodAll_mk1 (shut_bool Try.underlying4 _), (trodAll_cons_mk (Below.trod laidOut (by kernel_rfl) (of_decide_eq_true (by kernel_rfl)) h0 bel (fun x hx => hW'.lt x (by simp [hx]))) (trodAll_cons_mk (shut_int Try.underlying3 w1) (trodAll_cons_mk (shut_string Try.underlying9 w2) trodAll_mk0))), rfl, bel.frame _, fun h => by cases h⟩

theorem over : Rows.wireApartRow.holds Try.pinned (OpenSpec.ofChange Rows.wireApartSpec) :=
  OpenClaim.holds_of_wide 7 Try.f7 rfl rfl rfl rfl rfl rfl rfl ⟨rfl, rfl, rfl, rfl, rfl⟩ rfl rfl rfl rfl rfl (by kernel_rfl) Try.func7 (by kernel_rfl)
    (of_decide_eq_true (by kernel_rfl)) (by unfold Func.isWrapper; first | (rw [if_pos (by decide +kernel)]; kernel_rfl) | (rw [if_neg (by decide +kernel)]; exact ⟨rfl, rfl⟩))
    (fun os started H enc _ => lifted os started H enc)

theorem proved : Rows.WireApartSaid := over
#print axioms proved
end Go.Proofs.Ytlmjkidppffpcab.wireApart
