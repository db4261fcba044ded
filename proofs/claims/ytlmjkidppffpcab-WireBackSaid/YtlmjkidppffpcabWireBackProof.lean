/- For every request and every text the law WireBack answers true: what is written is read as it was, and what is read is what is written. No condition. -/
import Derived.Test.YtlmjkidppffpcabWireLive
import Derived.Test.YtlmjkidppffpcabRows
namespace Go.Proofs.Ytlmjkidppffpcab.wireBack
open Go.ChangeShapes Go.WideShapes Go.ChangeAt Go.RowKit Go.Lib Go.Proofs.Ytlmjkidppffpcab.P
open Go.ChangeMaps (open_string shut_string)
set_option linter.unusedVariables false
set_option linter.unusedSimpArgs false
set_option maxHeartbeats 1000000
set_option maxRecDepth 100000

theorem long0 (w : World) (y0 : Rq) (A0 : Option Addr) (n0 c0 : Nat) (B0 : Option Addr) (m0 d0 : Nat) (C0 : Option Addr) (o0 e0 : Nat) (a1 : ByteArray) (k0 : RqAt w y0 A0 n0 c0 B0 m0 d0 C0 o0 e0) (w1 : a1.size ≤ maxLen) (hs : shortQ y0 = false) :
    Calls Try.prog 5 #[y0.agg A0 n0 c0 B0 m0 d0 C0 o0 e0, .string a1] w fun e w' => e = .returned (.bool true) ∧ Below w.heap.size w w' := by
  have HS := Lib.hid hs; clear hs
  have K_0 := Lib.hid (k0.keep (new1 w (.cells #[.int .i64 y0.kind, .int .i64 y0.who, .int .i64 y0.seq, .bool y0.once, .string y0.key, .string y0.val, .int .i64 y0.lease, .int .i64 y0.rev, .int .i64 y0.ttl, .int .i64 y0.token, .slice A0 n0 c0, .slice B0 m0 d0, .slice C0 o0 e0] 27)))
  have O_0 := Lib.hid (own_new w #[.int .i64 y0.kind, .int .i64 y0.who, .int .i64 y0.seq, .bool y0.once, .string y0.key, .string y0.val, .int .i64 y0.lease, .int .i64 y0.rev, .int .i64 y0.ttl, .int .i64 y0.token, .slice A0 n0 c0, .slice B0 m0 d0, .slice C0 o0 e0] 27)
  have B_0 := Lib.hid (new1 w (.cells #[.int .i64 y0.kind, .int .i64 y0.who, .int .i64 y0.seq, .bool y0.once, .string y0.key, .string y0.val, .int .i64 y0.lease, .int .i64 y0.rev, .int .i64 y0.ttl, .int .i64 y0.token, .slice A0 n0 c0, .slice B0 m0 d0, .slice C0 o0 e0] 27))
  clear k0
  go_enter Try.func5, Try.ntmps5
  go_wp2_with fail
  refine (short_any y0 A0 n0 c0 B0 m0 d0 C0 o0 e0 _ K_0.out).mono ?_; rintro e w1 ⟨rfl, hb⟩
  rw [HS.out]
  have S_1 := Lib.hid hb; clear hb
  have K_2 := Lib.hid (K_0.out.keep S_1.out)
  have O_3 := Lib.hid (O_0.out.below S_1.out)
  have B_4 := Lib.hid (then_ B_0.out S_1.out)
  clear K_0 O_0 B_0
  clear S_1
  go_wp2_with fail
  refine (live_any _).mono ?_; rintro e w2 ⟨rfl, hb⟩
  have S_5 := Lib.hid hb; clear hb
  have K_6 := Lib.hid (K_2.out.keep S_5.out)
  have O_7 := Lib.hid (O_3.out.below S_5.out)
  have B_8 := Lib.hid (then_ B_4.out S_5.out)
  clear K_2 O_3 B_4
  clear S_5
  go_wp2
  go_ret
  exact ⟨rfl, B_8.out⟩

theorem wide (w : World) (y0 : Rq) (A0 : Option Addr) (n0 c0 : Nat) (B0 : Option Addr) (m0 d0 : Nat) (C0 : Option Addr) (o0 e0 : Nat) (a1 : ByteArray) (k0 : RqAt w y0 A0 n0 c0 B0 m0 d0 C0 o0 e0) (w1 : a1.size ≤ maxLen) (hs : shortQ y0 = true) (hz : ¬ a1.size ≤ 600) :
    Calls Try.prog 5 #[y0.agg A0 n0 c0 B0 m0 d0 C0 o0 e0, .string a1] w fun e w' => e = .returned (.bool true) ∧ Below w.heap.size w w' := by
  have HS := Lib.hid hs; clear hs
  unfold maxLen at w1
  have K_0 := Lib.hid (k0.keep (new1 w (.cells #[.int .i64 y0.kind, .int .i64 y0.who, .int .i64 y0.seq, .bool y0.once, .string y0.key, .string y0.val, .int .i64 y0.lease, .int .i64 y0.rev, .int .i64 y0.ttl, .int .i64 y0.token, .slice A0 n0 c0, .slice B0 m0 d0, .slice C0 o0 e0] 27)))
  have O_0 := Lib.hid (own_new w #[.int .i64 y0.kind, .int .i64 y0.who, .int .i64 y0.seq, .bool y0.once, .string y0.key, .string y0.val, .int .i64 y0.lease, .int .i64 y0.rev, .int .i64 y0.ttl, .int .i64 y0.token, .slice A0 n0 c0, .slice B0 m0 d0, .slice C0 o0 e0] 27)
  have B_0 := Lib.hid (new1 w (.cells #[.int .i64 y0.kind, .int .i64 y0.who, .int .i64 y0.seq, .bool y0.once, .string y0.key, .string y0.val, .int .i64 y0.lease, .int .i64 y0.rev, .int .i64 y0.ttl, .int .i64 y0.token, .slice A0 n0 c0, .slice B0 m0 d0, .slice C0 o0 e0] 27))
  clear k0
  go_enter Try.func5, Try.ntmps5
  go_wp2_with fail
  refine (short_any y0 A0 n0 c0 B0 m0 d0 C0 o0 e0 _ K_0.out).mono ?_; rintro e w1 ⟨rfl, hb⟩
  rw [HS.out]
  have S_1 := Lib.hid hb; clear hb
  have K_2 := Lib.hid (K_0.out.keep S_1.out)
  have O_3 := Lib.hid (O_0.out.below S_1.out)
  have B_4 := Lib.hid (then_ B_0.out S_1.out)
  clear K_0 O_0 B_0
  clear S_1
  go_wp2_with fail
  refine (live_any _).mono ?_; rintro e w2 ⟨rfl, hb⟩
  have S_5 := Lib.hid hb; clear hb
  have K_6 := Lib.hid (K_2.out.keep S_5.out)
  have O_7 := Lib.hid (O_3.out.below S_5.out)
  have B_8 := Lib.hid (then_ B_4.out S_5.out)
  clear K_2 O_3 B_4
  clear S_5
  go_wp2
  go_ret
  exact ⟨rfl, B_8.out⟩

theorem go_11 (w : World) (y0 : Rq) (A0 : Option Addr) (n0 c0 : Nat) (B0 : Option Addr) (m0 d0 : Nat) (C0 : Option Addr) (o0 e0 : Nat) (a1 : ByteArray) (k0 : RqAt w y0 A0 n0 c0 B0 m0 d0 C0 o0 e0) (w1 : a1.size ≤ maxLen) (hs : shortQ y0 = true) (hz : a1.size ≤ 600) (hm : mayAskB y0 = true) (z : Rq) (ha : askedB a1 = some z) :
    Calls Try.prog 5 #[y0.agg A0 n0 c0 B0 m0 d0 C0 o0 e0, .string a1] w fun e w' => e = .returned (.bool true) ∧ Below w.heap.size w w' := by
  have HS := Lib.hid hs; clear hs
  have HM := Lib.hid hm; clear hm
  have HZ := Lib.hid (show a1.size ≤ 1000000 by omega); clear w1
  have HE := Lib.hid (ask_asked ha).1; have HB := Lib.hid (ask_asked ha).2
  have HA : AskedIs a1 (some z) := ⟨ha⟩; clear ha
  have K_0 := Lib.hid (k0.keep (new1 w (.cells #[.int .i64 y0.kind, .int .i64 y0.who, .int .i64 y0.seq, .bool y0.once, .string y0.key, .string y0.val, .int .i64 y0.lease, .int .i64 y0.rev, .int .i64 y0.ttl, .int .i64 y0.token, .slice A0 n0 c0, .slice B0 m0 d0, .slice C0 o0 e0] 27)))
  have O_0 := Lib.hid (own_new w #[.int .i64 y0.kind, .int .i64 y0.who, .int .i64 y0.seq, .bool y0.once, .string y0.key, .string y0.val, .int .i64 y0.lease, .int .i64 y0.rev, .int .i64 y0.ttl, .int .i64 y0.token, .slice A0 n0 c0, .slice B0 m0 d0, .slice C0 o0 e0] 27)
  have B_0 := Lib.hid (new1 w (.cells #[.int .i64 y0.kind, .int .i64 y0.who, .int .i64 y0.seq, .bool y0.once, .string y0.key, .string y0.val, .int .i64 y0.lease, .int .i64 y0.rev, .int .i64 y0.ttl, .int .i64 y0.token, .slice A0 n0 c0, .slice B0 m0 d0, .slice C0 o0 e0] 27))
  clear k0
  go_enter Try.func5, Try.ntmps5
  go_wp2_with fail
  refine (short_any y0 A0 n0 c0 B0 m0 d0 C0 o0 e0 _ K_0.out).mono ?_; rintro e w1 ⟨rfl, hb⟩
  rw [HS.out]
  have S_1 := Lib.hid hb; clear hb
  have K_2 := Lib.hid (K_0.out.keep S_1.out)
  have O_3 := Lib.hid (O_0.out.below S_1.out)
  have B_4 := Lib.hid (then_ B_0.out S_1.out)
  clear K_0 O_0 B_0
  clear S_1
  have f0 := O_3.out.cell 0 _ rfl
  have f1 := O_3.out.cell 1 _ rfl
  have f2 := O_3.out.cell 2 _ rfl
  have f3 := O_3.out.cell 3 _ rfl
  have f4 := O_3.out.cell 4 _ rfl
  have f5 := O_3.out.cell 5 _ rfl
  have f6 := O_3.out.cell 6 _ rfl
  have f7 := O_3.out.cell 7 _ rfl
  have f8 := O_3.out.cell 8 _ rfl
  have f9 := O_3.out.cell 9 _ rfl
  have f10 := O_3.out.cell 10 _ rfl
  have f11 := O_3.out.cell 11 _ rfl
  have f12 := O_3.out.cell 12 _ rfl
  go_wp2_with fail
  refine (ask_any y0 A0 n0 c0 B0 m0 d0 C0 o0 e0 _ K_2.out).mono ?_; rintro e w2 ⟨rfl, hb⟩
  rw [HM.out]
  have S_5 := Lib.hid hb; clear hb
  have K_6 := Lib.hid (K_2.out.keep S_5.out)
  have O_7 := Lib.hid (O_3.out.below S_5.out)
  have B_8 := Lib.hid (then_ B_4.out S_5.out)
  clear K_2 O_3 B_4
  clear S_5
  clear f0 f1 f2 f3 f4 f5 f6 f7 f8 f9 f10 f11 f12
  go_wp2_with fail
  refine (asked_yes _ (askB_le y0) (asked_ask HM.out)).mono ?_; rintro e w3 ⟨Aq0, nq0, cq0, Aq1, nq1, cq1, Aq2, nq2, cq2, rfl, hat, hb⟩
  have S_9 := Lib.hid hb; clear hb
  have K_10 := Lib.hid (K_6.out.keep S_9.out)
  have O_11 := Lib.hid (O_7.out.below S_9.out)
  have B_12 := Lib.hid (then_ B_8.out S_9.out)
  clear K_6 O_7 B_8
  clear S_9
  have Kq_13 := Lib.hid (hat)
  clear hat
  have K_14 := Lib.hid (K_10.out.keep (new1 w3 (.cells #[.int .i64 y0.kind, .int .i64 y0.who, .int .i64 y0.seq, .bool y0.once, .string y0.key, .string y0.val, .int .i64 y0.lease, .int .i64 y0.rev, .int .i64 y0.ttl, .int .i64 y0.token, .slice Aq0 nq0 cq0, .slice Aq1 nq1 cq1, .slice Aq2 nq2 cq2] 27)))
  have O_15 := Lib.hid (O_11.out.below (new1 w3 (.cells #[.int .i64 y0.kind, .int .i64 y0.who, .int .i64 y0.seq, .bool y0.once, .string y0.key, .string y0.val, .int .i64 y0.lease, .int .i64 y0.rev, .int .i64 y0.ttl, .int .i64 y0.token, .slice Aq0 nq0 cq0, .slice Aq1 nq1 cq1, .slice Aq2 nq2 cq2] 27)))
  have Kq_16 := Lib.hid (Kq_13.out.keep (new1 w3 (.cells #[.int .i64 y0.kind, .int .i64 y0.who, .int .i64 y0.seq, .bool y0.once, .string y0.key, .string y0.val, .int .i64 y0.lease, .int .i64 y0.rev, .int .i64 y0.ttl, .int .i64 y0.token, .slice Aq0 nq0 cq0, .slice Aq1 nq1 cq1, .slice Aq2 nq2 cq2] 27)))
  have B_17 := Lib.hid (then_ B_12.out (new1 w3 (.cells #[.int .i64 y0.kind, .int .i64 y0.who, .int .i64 y0.seq, .bool y0.once, .string y0.key, .string y0.val, .int .i64 y0.lease, .int .i64 y0.rev, .int .i64 y0.ttl, .int .i64 y0.token, .slice Aq0 nq0 cq0, .slice Aq1 nq1 cq1, .slice Aq2 nq2 cq2] 27)))
  clear K_10 O_11 Kq_13 B_12
  have Oq_18 := Lib.hid (own_new w3 #[.int .i64 y0.kind, .int .i64 y0.who, .int .i64 y0.seq, .bool y0.once, .string y0.key, .string y0.val, .int .i64 y0.lease, .int .i64 y0.rev, .int .i64 y0.ttl, .int .i64 y0.token, .slice Aq0 nq0 cq0, .slice Aq1 nq1 cq1, .slice Aq2 nq2 cq2] 27)
  have g0 := Oq_18.out.cell 0 _ rfl
  have g1 := Oq_18.out.cell 1 _ rfl
  have g2 := Oq_18.out.cell 2 _ rfl
  have g3 := Oq_18.out.cell 3 _ rfl
  have g4 := Oq_18.out.cell 4 _ rfl
  have g5 := Oq_18.out.cell 5 _ rfl
  have g6 := Oq_18.out.cell 6 _ rfl
  have g7 := Oq_18.out.cell 7 _ rfl
  have g8 := Oq_18.out.cell 8 _ rfl
  have g9 := Oq_18.out.cell 9 _ rfl
  have g10 := Oq_18.out.cell 10 _ rfl
  have g11 := Oq_18.out.cell 11 _ rfl
  have g12 := Oq_18.out.cell 12 _ rfl
  have f0 := O_15.out.cell 0 _ rfl
  have f1 := O_15.out.cell 1 _ rfl
  have f2 := O_15.out.cell 2 _ rfl
  have f3 := O_15.out.cell 3 _ rfl
  have f4 := O_15.out.cell 4 _ rfl
  have f5 := O_15.out.cell 5 _ rfl
  have f6 := O_15.out.cell 6 _ rfl
  have f7 := O_15.out.cell 7 _ rfl
  have f8 := O_15.out.cell 8 _ rfl
  have f9 := O_15.out.cell 9 _ rfl
  have f10 := O_15.out.cell 10 _ rfl
  have f11 := O_15.out.cell 11 _ rfl
  have f12 := O_15.out.cell 12 _ rfl
  go_wp2_with fail
  refine (same_same y0 Aq0 nq0 cq0 Aq1 nq1 cq1 Aq2 nq2 cq2 A0 n0 c0 B0 m0 d0 C0 o0 e0 _ Kq_16.out K_14.out).mono ?_; rintro e w4 ⟨rfl, hb⟩
  have S_19 := Lib.hid hb; clear hb
  have K_20 := Lib.hid (K_14.out.keep S_19.out)
  have O_21 := Lib.hid (O_15.out.below S_19.out)
  have Kq_22 := Lib.hid (Kq_16.out.keep S_19.out)
  have Oq_23 := Lib.hid (Oq_18.out.below S_19.out)
  have B_24 := Lib.hid (then_ B_17.out S_19.out)
  clear K_14 O_15 Kq_16 Oq_18 B_17
  clear S_19
  clear g0 g1 g2 g3 g4 g5 g6 g7 g8 g9 g10 g11 g12
  clear f0 f1 f2 f3 f4 f5 f6 f7 f8 f9 f10 f11 f12
  have f0 := O_21.out.cell 0 _ rfl
  have f1 := O_21.out.cell 1 _ rfl
  have f2 := O_21.out.cell 2 _ rfl
  have f3 := O_21.out.cell 3 _ rfl
  have f4 := O_21.out.cell 4 _ rfl
  have f5 := O_21.out.cell 5 _ rfl
  have f6 := O_21.out.cell 6 _ rfl
  have f7 := O_21.out.cell 7 _ rfl
  have f8 := O_21.out.cell 8 _ rfl
  have f9 := O_21.out.cell 9 _ rfl
  have f10 := O_21.out.cell 10 _ rfl
  have f11 := O_21.out.cell 11 _ rfl
  have f12 := O_21.out.cell 12 _ rfl
  go_wp2_with fail
  refine (mayAsk_any y0 A0 n0 c0 B0 m0 d0 C0 o0 e0 _ K_20.out).mono ?_; rintro e w5 ⟨rfl, hb⟩
  rw [HM.out]
  have S_25 := Lib.hid hb; clear hb
  have K_26 := Lib.hid (K_20.out.keep S_25.out)
  have O_27 := Lib.hid (O_21.out.below S_25.out)
  have Kq_28 := Lib.hid (Kq_22.out.keep S_25.out)
  have Oq_29 := Lib.hid (Oq_23.out.below S_25.out)
  have B_30 := Lib.hid (then_ B_24.out S_25.out)
  clear K_20 O_21 Kq_22 Oq_23 B_24
  clear S_25
  clear f0 f1 f2 f3 f4 f5 f6 f7 f8 f9 f10 f11 f12
  clear Kq_28
  clear Oq_29
  clear K_26
  clear O_27
  go_wp2_with fail
  refine (asked_yes _ HZ.out HA.eq).mono ?_; rintro e w6 ⟨Ap0, np0, cp0, Ap1, np1, cp1, Ap2, np2, cp2, rfl, hat, hb⟩
  have S_31 := Lib.hid hb; clear hb
  have B_32 := Lib.hid (then_ B_30.out S_31.out)
  clear B_30
  clear S_31
  have Kp_33 := Lib.hid (hat)
  clear hat
  have Kp_34 := Lib.hid (Kp_33.out.keep (new1 w6 (.cells #[.int .i64 z.kind, .int .i64 z.who, .int .i64 z.seq, .bool z.once, .string z.key, .string z.val, .int .i64 z.lease, .int .i64 z.rev, .int .i64 z.ttl, .int .i64 z.token, .slice Ap0 np0 cp0, .slice Ap1 np1 cp1, .slice Ap2 np2 cp2] 27)))
  have B_35 := Lib.hid (then_ B_32.out (new1 w6 (.cells #[.int .i64 z.kind, .int .i64 z.who, .int .i64 z.seq, .bool z.once, .string z.key, .string z.val, .int .i64 z.lease, .int .i64 z.rev, .int .i64 z.ttl, .int .i64 z.token, .slice Ap0 np0 cp0, .slice Ap1 np1 cp1, .slice Ap2 np2 cp2] 27)))
  clear Kp_33 B_32
  go_wp2_with fail
  refine (ask_any z Ap0 np0 cp0 Ap1 np1 cp1 Ap2 np2 cp2 _ Kp_34.out).mono ?_; rintro e w7 ⟨rfl, hb⟩
  rw [HE.out, HB.out]
  have S_36 := Lib.hid hb; clear hb
  have Kp_37 := Lib.hid (Kp_34.out.keep S_36.out)
  have B_38 := Lib.hid (then_ B_35.out S_36.out)
  clear Kp_34 B_35
  clear S_36
  go_wp2_with fail
  refine (live_any _).mono ?_; rintro e w8 ⟨rfl, hb⟩
  have S_39 := Lib.hid hb; clear hb
  have Kp_40 := Lib.hid (Kp_37.out.keep S_39.out)
  have B_41 := Lib.hid (then_ B_38.out S_39.out)
  clear Kp_37 B_38
  clear S_39
  go_wp2
  go_ret
  exact ⟨rfl, B_41.out⟩

theorem go_10 (w : World) (y0 : Rq) (A0 : Option Addr) (n0 c0 : Nat) (B0 : Option Addr) (m0 d0 : Nat) (C0 : Option Addr) (o0 e0 : Nat) (a1 : ByteArray) (k0 : RqAt w y0 A0 n0 c0 B0 m0 d0 C0 o0 e0) (w1 : a1.size ≤ maxLen) (hs : shortQ y0 = true) (hz : a1.size ≤ 600) (hm : mayAskB y0 = true) (ha : askedB a1 = none) :
    Calls Try.prog 5 #[y0.agg A0 n0 c0 B0 m0 d0 C0 o0 e0, .string a1] w fun e w' => e = .returned (.bool true) ∧ Below w.heap.size w w' := by
  have HS := Lib.hid hs; clear hs
  have HM := Lib.hid hm; clear hm
  have HZ := Lib.hid (show a1.size ≤ 1000000 by omega); clear w1
  have HA : AskedIs a1 none := ⟨ha⟩; clear ha
  have K_0 := Lib.hid (k0.keep (new1 w (.cells #[.int .i64 y0.kind, .int .i64 y0.who, .int .i64 y0.seq, .bool y0.once, .string y0.key, .string y0.val, .int .i64 y0.lease, .int .i64 y0.rev, .int .i64 y0.ttl, .int .i64 y0.token, .slice A0 n0 c0, .slice B0 m0 d0, .slice C0 o0 e0] 27)))
  have O_0 := Lib.hid (own_new w #[.int .i64 y0.kind, .int .i64 y0.who, .int .i64 y0.seq, .bool y0.once, .string y0.key, .string y0.val, .int .i64 y0.lease, .int .i64 y0.rev, .int .i64 y0.ttl, .int .i64 y0.token, .slice A0 n0 c0, .slice B0 m0 d0, .slice C0 o0 e0] 27)
  have B_0 := Lib.hid (new1 w (.cells #[.int .i64 y0.kind, .int .i64 y0.who, .int .i64 y0.seq, .bool y0.once, .string y0.key, .string y0.val, .int .i64 y0.lease, .int .i64 y0.rev, .int .i64 y0.ttl, .int .i64 y0.token, .slice A0 n0 c0, .slice B0 m0 d0, .slice C0 o0 e0] 27))
  clear k0
  go_enter Try.func5, Try.ntmps5
  go_wp2_with fail
  refine (short_any y0 A0 n0 c0 B0 m0 d0 C0 o0 e0 _ K_0.out).mono ?_; rintro e w1 ⟨rfl, hb⟩
  rw [HS.out]
  have S_1 := Lib.hid hb; clear hb
  have K_2 := Lib.hid (K_0.out.keep S_1.out)
  have O_3 := Lib.hid (O_0.out.below S_1.out)
  have B_4 := Lib.hid (then_ B_0.out S_1.out)
  clear K_0 O_0 B_0
  clear S_1
  have f0 := O_3.out.cell 0 _ rfl
  have f1 := O_3.out.cell 1 _ rfl
  have f2 := O_3.out.cell 2 _ rfl
  have f3 := O_3.out.cell 3 _ rfl
  have f4 := O_3.out.cell 4 _ rfl
  have f5 := O_3.out.cell 5 _ rfl
  have f6 := O_3.out.cell 6 _ rfl
  have f7 := O_3.out.cell 7 _ rfl
  have f8 := O_3.out.cell 8 _ rfl
  have f9 := O_3.out.cell 9 _ rfl
  have f10 := O_3.out.cell 10 _ rfl
  have f11 := O_3.out.cell 11 _ rfl
  have f12 := O_3.out.cell 12 _ rfl
  go_wp2_with fail
  refine (ask_any y0 A0 n0 c0 B0 m0 d0 C0 o0 e0 _ K_2.out).mono ?_; rintro e w2 ⟨rfl, hb⟩
  rw [HM.out]
  have S_5 := Lib.hid hb; clear hb
  have K_6 := Lib.hid (K_2.out.keep S_5.out)
  have O_7 := Lib.hid (O_3.out.below S_5.out)
  have B_8 := Lib.hid (then_ B_4.out S_5.out)
  clear K_2 O_3 B_4
  clear S_5
  clear f0 f1 f2 f3 f4 f5 f6 f7 f8 f9 f10 f11 f12
  go_wp2_with fail
  refine (asked_yes _ (askB_le y0) (asked_ask HM.out)).mono ?_; rintro e w3 ⟨Aq0, nq0, cq0, Aq1, nq1, cq1, Aq2, nq2, cq2, rfl, hat, hb⟩
  have S_9 := Lib.hid hb; clear hb
  have K_10 := Lib.hid (K_6.out.keep S_9.out)
  have O_11 := Lib.hid (O_7.out.below S_9.out)
  have B_12 := Lib.hid (then_ B_8.out S_9.out)
  clear K_6 O_7 B_8
  clear S_9
  have Kq_13 := Lib.hid (hat)
  clear hat
  have K_14 := Lib.hid (K_10.out.keep (new1 w3 (.cells #[.int .i64 y0.kind, .int .i64 y0.who, .int .i64 y0.seq, .bool y0.once, .string y0.key, .string y0.val, .int .i64 y0.lease, .int .i64 y0.rev, .int .i64 y0.ttl, .int .i64 y0.token, .slice Aq0 nq0 cq0, .slice Aq1 nq1 cq1, .slice Aq2 nq2 cq2] 27)))
  have O_15 := Lib.hid (O_11.out.below (new1 w3 (.cells #[.int .i64 y0.kind, .int .i64 y0.who, .int .i64 y0.seq, .bool y0.once, .string y0.key, .string y0.val, .int .i64 y0.lease, .int .i64 y0.rev, .int .i64 y0.ttl, .int .i64 y0.token, .slice Aq0 nq0 cq0, .slice Aq1 nq1 cq1, .slice Aq2 nq2 cq2] 27)))
  have Kq_16 := Lib.hid (Kq_13.out.keep (new1 w3 (.cells #[.int .i64 y0.kind, .int .i64 y0.who, .int .i64 y0.seq, .bool y0.once, .string y0.key, .string y0.val, .int .i64 y0.lease, .int .i64 y0.rev, .int .i64 y0.ttl, .int .i64 y0.token, .slice Aq0 nq0 cq0, .slice Aq1 nq1 cq1, .slice Aq2 nq2 cq2] 27)))
  have B_17 := Lib.hid (then_ B_12.out (new1 w3 (.cells #[.int .i64 y0.kind, .int .i64 y0.who, .int .i64 y0.seq, .bool y0.once, .string y0.key, .string y0.val, .int .i64 y0.lease, .int .i64 y0.rev, .int .i64 y0.ttl, .int .i64 y0.token, .slice Aq0 nq0 cq0, .slice Aq1 nq1 cq1, .slice Aq2 nq2 cq2] 27)))
  clear K_10 O_11 Kq_13 B_12
  have Oq_18 := Lib.hid (own_new w3 #[.int .i64 y0.kind, .int .i64 y0.who, .int .i64 y0.seq, .bool y0.once, .string y0.key, .string y0.val, .int .i64 y0.lease, .int .i64 y0.rev, .int .i64 y0.ttl, .int .i64 y0.token, .slice Aq0 nq0 cq0, .slice Aq1 nq1 cq1, .slice Aq2 nq2 cq2] 27)
  have g0 := Oq_18.out.cell 0 _ rfl
  have g1 := Oq_18.out.cell 1 _ rfl
  have g2 := Oq_18.out.cell 2 _ rfl
  have g3 := Oq_18.out.cell 3 _ rfl
  have g4 := Oq_18.out.cell 4 _ rfl
  have g5 := Oq_18.out.cell 5 _ rfl
  have g6 := Oq_18.out.cell 6 _ rfl
  have g7 := Oq_18.out.cell 7 _ rfl
  have g8 := Oq_18.out.cell 8 _ rfl
  have g9 := Oq_18.out.cell 9 _ rfl
  have g10 := Oq_18.out.cell 10 _ rfl
  have g11 := Oq_18.out.cell 11 _ rfl
  have g12 := Oq_18.out.cell 12 _ rfl
  have f0 := O_15.out.cell 0 _ rfl
  have f1 := O_15.out.cell 1 _ rfl
  have f2 := O_15.out.cell 2 _ rfl
  have f3 := O_15.out.cell 3 _ rfl
  have f4 := O_15.out.cell 4 _ rfl
  have f5 := O_15.out.cell 5 _ rfl
  have f6 := O_15.out.cell 6 _ rfl
  have f7 := O_15.out.cell 7 _ rfl
  have f8 := O_15.out.cell 8 _ rfl
  have f9 := O_15.out.cell 9 _ rfl
  have f10 := O_15.out.cell 10 _ rfl
  have f11 := O_15.out.cell 11 _ rfl
  have f12 := O_15.out.cell 12 _ rfl
  go_wp2_with fail
  refine (same_same y0 Aq0 nq0 cq0 Aq1 nq1 cq1 Aq2 nq2 cq2 A0 n0 c0 B0 m0 d0 C0 o0 e0 _ Kq_16.out K_14.out).mono ?_; rintro e w4 ⟨rfl, hb⟩
  have S_19 := Lib.hid hb; clear hb
  have K_20 := Lib.hid (K_14.out.keep S_19.out)
  have O_21 := Lib.hid (O_15.out.below S_19.out)
  have Kq_22 := Lib.hid (Kq_16.out.keep S_19.out)
  have Oq_23 := Lib.hid (Oq_18.out.below S_19.out)
  have B_24 := Lib.hid (then_ B_17.out S_19.out)
  clear K_14 O_15 Kq_16 Oq_18 B_17
  clear S_19
  clear g0 g1 g2 g3 g4 g5 g6 g7 g8 g9 g10 g11 g12
  clear f0 f1 f2 f3 f4 f5 f6 f7 f8 f9 f10 f11 f12
  have f0 := O_21.out.cell 0 _ rfl
  have f1 := O_21.out.cell 1 _ rfl
  have f2 := O_21.out.cell 2 _ rfl
  have f3 := O_21.out.cell 3 _ rfl
  have f4 := O_21.out.cell 4 _ rfl
  have f5 := O_21.out.cell 5 _ rfl
  have f6 := O_21.out.cell 6 _ rfl
  have f7 := O_21.out.cell 7 _ rfl
  have f8 := O_21.out.cell 8 _ rfl
  have f9 := O_21.out.cell 9 _ rfl
  have f10 := O_21.out.cell 10 _ rfl
  have f11 := O_21.out.cell 11 _ rfl
  have f12 := O_21.out.cell 12 _ rfl
  go_wp2_with fail
  refine (mayAsk_any y0 A0 n0 c0 B0 m0 d0 C0 o0 e0 _ K_20.out).mono ?_; rintro e w5 ⟨rfl, hb⟩
  rw [HM.out]
  have S_25 := Lib.hid hb; clear hb
  have K_26 := Lib.hid (K_20.out.keep S_25.out)
  have O_27 := Lib.hid (O_21.out.below S_25.out)
  have Kq_28 := Lib.hid (Kq_22.out.keep S_25.out)
  have Oq_29 := Lib.hid (Oq_23.out.below S_25.out)
  have B_30 := Lib.hid (then_ B_24.out S_25.out)
  clear K_20 O_21 Kq_22 Oq_23 B_24
  clear S_25
  clear f0 f1 f2 f3 f4 f5 f6 f7 f8 f9 f10 f11 f12
  clear Kq_28
  clear Oq_29
  clear K_26
  clear O_27
  go_wp2_with fail
  refine (asked_no _ HZ.out HA.eq).mono ?_; rintro e w6 ⟨Ap0, np0, cp0, Ap1, np1, cp1, Ap2, np2, cp2, rfl, hat, hb⟩
  have S_31 := Lib.hid hb; clear hb
  have B_32 := Lib.hid (then_ B_30.out S_31.out)
  clear B_30
  clear S_31
  have Kp_33 := Lib.hid (hat)
  clear hat
  have Kp_34 := Lib.hid (Kp_33.out.keep (new1 w6 (.cells #[.int .i64 zeroRq.kind, .int .i64 zeroRq.who, .int .i64 zeroRq.seq, .bool zeroRq.once, .string zeroRq.key, .string zeroRq.val, .int .i64 zeroRq.lease, .int .i64 zeroRq.rev, .int .i64 zeroRq.ttl, .int .i64 zeroRq.token, .slice Ap0 np0 cp0, .slice Ap1 np1 cp1, .slice Ap2 np2 cp2] 27)))
  have B_35 := Lib.hid (then_ B_32.out (new1 w6 (.cells #[.int .i64 zeroRq.kind, .int .i64 zeroRq.who, .int .i64 zeroRq.seq, .bool zeroRq.once, .string zeroRq.key, .string zeroRq.val, .int .i64 zeroRq.lease, .int .i64 zeroRq.rev, .int .i64 zeroRq.ttl, .int .i64 zeroRq.token, .slice Ap0 np0 cp0, .slice Ap1 np1 cp1, .slice Ap2 np2 cp2] 27)))
  clear Kp_33 B_32
  go_wp2_with fail
  refine (ask_any zeroRq Ap0 np0 cp0 Ap1 np1 cp1 Ap2 np2 cp2 _ Kp_34.out).mono ?_; rintro e w7 ⟨rfl, hb⟩
  rw [askB_no qz_may, qz_may]
  have S_36 := Lib.hid hb; clear hb
  have Kp_37 := Lib.hid (Kp_34.out.keep S_36.out)
  have B_38 := Lib.hid (then_ B_35.out S_36.out)
  clear Kp_34 B_35
  clear S_36
  go_wp2_with fail
  refine (live_any _).mono ?_; rintro e w8 ⟨rfl, hb⟩
  have S_39 := Lib.hid hb; clear hb
  have Kp_40 := Lib.hid (Kp_37.out.keep S_39.out)
  have B_41 := Lib.hid (then_ B_38.out S_39.out)
  clear Kp_37 B_38
  clear S_39
  go_wp2
  go_ret
  exact ⟨rfl, B_41.out⟩

theorem go_01 (w : World) (y0 : Rq) (A0 : Option Addr) (n0 c0 : Nat) (B0 : Option Addr) (m0 d0 : Nat) (C0 : Option Addr) (o0 e0 : Nat) (a1 : ByteArray) (k0 : RqAt w y0 A0 n0 c0 B0 m0 d0 C0 o0 e0) (w1 : a1.size ≤ maxLen) (hs : shortQ y0 = true) (hz : a1.size ≤ 600) (hm : mayAskB y0 = false) (z : Rq) (ha : askedB a1 = some z) :
    Calls Try.prog 5 #[y0.agg A0 n0 c0 B0 m0 d0 C0 o0 e0, .string a1] w fun e w' => e = .returned (.bool true) ∧ Below w.heap.size w w' := by
  have HS := Lib.hid hs; clear hs
  have HM := Lib.hid hm; clear hm
  have HZ := Lib.hid (show a1.size ≤ 1000000 by omega); clear w1
  have HE := Lib.hid (ask_asked ha).1; have HB := Lib.hid (ask_asked ha).2
  have HA : AskedIs a1 (some z) := ⟨ha⟩; clear ha
  have K_0 := Lib.hid (k0.keep (new1 w (.cells #[.int .i64 y0.kind, .int .i64 y0.who, .int .i64 y0.seq, .bool y0.once, .string y0.key, .string y0.val, .int .i64 y0.lease, .int .i64 y0.rev, .int .i64 y0.ttl, .int .i64 y0.token, .slice A0 n0 c0, .slice B0 m0 d0, .slice C0 o0 e0] 27)))
  have O_0 := Lib.hid (own_new w #[.int .i64 y0.kind, .int .i64 y0.who, .int .i64 y0.seq, .bool y0.once, .string y0.key, .string y0.val, .int .i64 y0.lease, .int .i64 y0.rev, .int .i64 y0.ttl, .int .i64 y0.token, .slice A0 n0 c0, .slice B0 m0 d0, .slice C0 o0 e0] 27)
  have B_0 := Lib.hid (new1 w (.cells #[.int .i64 y0.kind, .int .i64 y0.who, .int .i64 y0.seq, .bool y0.once, .string y0.key, .string y0.val, .int .i64 y0.lease, .int .i64 y0.rev, .int .i64 y0.ttl, .int .i64 y0.token, .slice A0 n0 c0, .slice B0 m0 d0, .slice C0 o0 e0] 27))
  clear k0
  go_enter Try.func5, Try.ntmps5
  go_wp2_with fail
  refine (short_any y0 A0 n0 c0 B0 m0 d0 C0 o0 e0 _ K_0.out).mono ?_; rintro e w1 ⟨rfl, hb⟩
  rw [HS.out]
  have S_1 := Lib.hid hb; clear hb
  have K_2 := Lib.hid (K_0.out.keep S_1.out)
  have O_3 := Lib.hid (O_0.out.below S_1.out)
  have B_4 := Lib.hid (then_ B_0.out S_1.out)
  clear K_0 O_0 B_0
  clear S_1
  have f0 := O_3.out.cell 0 _ rfl
  have f1 := O_3.out.cell 1 _ rfl
  have f2 := O_3.out.cell 2 _ rfl
  have f3 := O_3.out.cell 3 _ rfl
  have f4 := O_3.out.cell 4 _ rfl
  have f5 := O_3.out.cell 5 _ rfl
  have f6 := O_3.out.cell 6 _ rfl
  have f7 := O_3.out.cell 7 _ rfl
  have f8 := O_3.out.cell 8 _ rfl
  have f9 := O_3.out.cell 9 _ rfl
  have f10 := O_3.out.cell 10 _ rfl
  have f11 := O_3.out.cell 11 _ rfl
  have f12 := O_3.out.cell 12 _ rfl
  go_wp2_with fail
  refine (ask_any y0 A0 n0 c0 B0 m0 d0 C0 o0 e0 _ K_2.out).mono ?_; rintro e w2 ⟨rfl, hb⟩
  rw [askB_no HM.out, HM.out]
  have S_5 := Lib.hid hb; clear hb
  have K_6 := Lib.hid (K_2.out.keep S_5.out)
  have O_7 := Lib.hid (O_3.out.below S_5.out)
  have B_8 := Lib.hid (then_ B_4.out S_5.out)
  clear K_2 O_3 B_4
  clear S_5
  clear f0 f1 f2 f3 f4 f5 f6 f7 f8 f9 f10 f11 f12
  go_wp2_with fail
  refine (asked_no _ (by decide) asked_nil).mono ?_; rintro e w3 ⟨Aq0, nq0, cq0, Aq1, nq1, cq1, Aq2, nq2, cq2, rfl, hat, hb⟩
  have S_9 := Lib.hid hb; clear hb
  have K_10 := Lib.hid (K_6.out.keep S_9.out)
  have O_11 := Lib.hid (O_7.out.below S_9.out)
  have B_12 := Lib.hid (then_ B_8.out S_9.out)
  clear K_6 O_7 B_8
  clear S_9
  clear hat
  have K_13 := Lib.hid (K_10.out.keep (new1 w3 (.cells #[.int .i64 zeroRq.kind, .int .i64 zeroRq.who, .int .i64 zeroRq.seq, .bool zeroRq.once, .string zeroRq.key, .string zeroRq.val, .int .i64 zeroRq.lease, .int .i64 zeroRq.rev, .int .i64 zeroRq.ttl, .int .i64 zeroRq.token, .slice Aq0 nq0 cq0, .slice Aq1 nq1 cq1, .slice Aq2 nq2 cq2] 27)))
  have O_14 := Lib.hid (O_11.out.below (new1 w3 (.cells #[.int .i64 zeroRq.kind, .int .i64 zeroRq.who, .int .i64 zeroRq.seq, .bool zeroRq.once, .string zeroRq.key, .string zeroRq.val, .int .i64 zeroRq.lease, .int .i64 zeroRq.rev, .int .i64 zeroRq.ttl, .int .i64 zeroRq.token, .slice Aq0 nq0 cq0, .slice Aq1 nq1 cq1, .slice Aq2 nq2 cq2] 27)))
  have B_15 := Lib.hid (then_ B_12.out (new1 w3 (.cells #[.int .i64 zeroRq.kind, .int .i64 zeroRq.who, .int .i64 zeroRq.seq, .bool zeroRq.once, .string zeroRq.key, .string zeroRq.val, .int .i64 zeroRq.lease, .int .i64 zeroRq.rev, .int .i64 zeroRq.ttl, .int .i64 zeroRq.token, .slice Aq0 nq0 cq0, .slice Aq1 nq1 cq1, .slice Aq2 nq2 cq2] 27)))
  clear K_10 O_11 B_12
  have f0 := O_14.out.cell 0 _ rfl
  have f1 := O_14.out.cell 1 _ rfl
  have f2 := O_14.out.cell 2 _ rfl
  have f3 := O_14.out.cell 3 _ rfl
  have f4 := O_14.out.cell 4 _ rfl
  have f5 := O_14.out.cell 5 _ rfl
  have f6 := O_14.out.cell 6 _ rfl
  have f7 := O_14.out.cell 7 _ rfl
  have f8 := O_14.out.cell 8 _ rfl
  have f9 := O_14.out.cell 9 _ rfl
  have f10 := O_14.out.cell 10 _ rfl
  have f11 := O_14.out.cell 11 _ rfl
  have f12 := O_14.out.cell 12 _ rfl
  go_wp2_with fail
  refine (mayAsk_any y0 A0 n0 c0 B0 m0 d0 C0 o0 e0 _ K_13.out).mono ?_; rintro e w4 ⟨rfl, hb⟩
  rw [HM.out]
  have S_16 := Lib.hid hb; clear hb
  have K_17 := Lib.hid (K_13.out.keep S_16.out)
  have O_18 := Lib.hid (O_14.out.below S_16.out)
  have B_19 := Lib.hid (then_ B_15.out S_16.out)
  clear K_13 O_14 B_15
  clear S_16
  clear f0 f1 f2 f3 f4 f5 f6 f7 f8 f9 f10 f11 f12
  clear K_17
  clear O_18
  go_wp2_with fail
  refine (asked_yes _ HZ.out HA.eq).mono ?_; rintro e w5 ⟨Ap0, np0, cp0, Ap1, np1, cp1, Ap2, np2, cp2, rfl, hat, hb⟩
  have S_20 := Lib.hid hb; clear hb
  have B_21 := Lib.hid (then_ B_19.out S_20.out)
  clear B_19
  clear S_20
  have Kp_22 := Lib.hid (hat)
  clear hat
  have Kp_23 := Lib.hid (Kp_22.out.keep (new1 w5 (.cells #[.int .i64 z.kind, .int .i64 z.who, .int .i64 z.seq, .bool z.once, .string z.key, .string z.val, .int .i64 z.lease, .int .i64 z.rev, .int .i64 z.ttl, .int .i64 z.token, .slice Ap0 np0 cp0, .slice Ap1 np1 cp1, .slice Ap2 np2 cp2] 27)))
  have B_24 := Lib.hid (then_ B_21.out (new1 w5 (.cells #[.int .i64 z.kind, .int .i64 z.who, .int .i64 z.seq, .bool z.once, .string z.key, .string z.val, .int .i64 z.lease, .int .i64 z.rev, .int .i64 z.ttl, .int .i64 z.token, .slice Ap0 np0 cp0, .slice Ap1 np1 cp1, .slice Ap2 np2 cp2] 27)))
  clear Kp_22 B_21
  go_wp2_with fail
  refine (ask_any z Ap0 np0 cp0 Ap1 np1 cp1 Ap2 np2 cp2 _ Kp_23.out).mono ?_; rintro e w6 ⟨rfl, hb⟩
  rw [HE.out, HB.out]
  have S_25 := Lib.hid hb; clear hb
  have Kp_26 := Lib.hid (Kp_23.out.keep S_25.out)
  have B_27 := Lib.hid (then_ B_24.out S_25.out)
  clear Kp_23 B_24
  clear S_25
  go_wp2_with fail
  refine (live_any _).mono ?_; rintro e w7 ⟨rfl, hb⟩
  have S_28 := Lib.hid hb; clear hb
  have Kp_29 := Lib.hid (Kp_26.out.keep S_28.out)
  have B_30 := Lib.hid (then_ B_27.out S_28.out)
  clear Kp_26 B_27
  clear S_28
  go_wp2
  go_ret
  exact ⟨rfl, B_30.out⟩

theorem go_00 (w : World) (y0 : Rq) (A0 : Option Addr) (n0 c0 : Nat) (B0 : Option Addr) (m0 d0 : Nat) (C0 : Option Addr) (o0 e0 : Nat) (a1 : ByteArray) (k0 : RqAt w y0 A0 n0 c0 B0 m0 d0 C0 o0 e0) (w1 : a1.size ≤ maxLen) (hs : shortQ y0 = true) (hz : a1.size ≤ 600) (hm : mayAskB y0 = false) (ha : askedB a1 = none) :
    Calls Try.prog 5 #[y0.agg A0 n0 c0 B0 m0 d0 C0 o0 e0, .string a1] w fun e w' => e = .returned (.bool true) ∧ Below w.heap.size w w' := by
  have HS := Lib.hid hs; clear hs
  have HM := Lib.hid hm; clear hm
  have HZ := Lib.hid (show a1.size ≤ 1000000 by omega); clear w1
  have HA : AskedIs a1 none := ⟨ha⟩; clear ha
  have K_0 := Lib.hid (k0.keep (new1 w (.cells #[.int .i64 y0.kind, .int .i64 y0.who, .int .i64 y0.seq, .bool y0.once, .string y0.key, .string y0.val, .int .i64 y0.lease, .int .i64 y0.rev, .int .i64 y0.ttl, .int .i64 y0.token, .slice A0 n0 c0, .slice B0 m0 d0, .slice C0 o0 e0] 27)))
  have O_0 := Lib.hid (own_new w #[.int .i64 y0.kind, .int .i64 y0.who, .int .i64 y0.seq, .bool y0.once, .string y0.key, .string y0.val, .int .i64 y0.lease, .int .i64 y0.rev, .int .i64 y0.ttl, .int .i64 y0.token, .slice A0 n0 c0, .slice B0 m0 d0, .slice C0 o0 e0] 27)
  have B_0 := Lib.hid (new1 w (.cells #[.int .i64 y0.kind, .int .i64 y0.who, .int .i64 y0.seq, .bool y0.once, .string y0.key, .string y0.val, .int .i64 y0.lease, .int .i64 y0.rev, .int .i64 y0.ttl, .int .i64 y0.token, .slice A0 n0 c0, .slice B0 m0 d0, .slice C0 o0 e0] 27))
  clear k0
  go_enter Try.func5, Try.ntmps5
  go_wp2_with fail
  refine (short_any y0 A0 n0 c0 B0 m0 d0 C0 o0 e0 _ K_0.out).mono ?_; rintro e w1 ⟨rfl, hb⟩
  rw [HS.out]
  have S_1 := Lib.hid hb; clear hb
  have K_2 := Lib.hid (K_0.out.keep S_1.out)
  have O_3 := Lib.hid (O_0.out.below S_1.out)
  have B_4 := Lib.hid (then_ B_0.out S_1.out)
  clear K_0 O_0 B_0
  clear S_1
  have f0 := O_3.out.cell 0 _ rfl
  have f1 := O_3.out.cell 1 _ rfl
  have f2 := O_3.out.cell 2 _ rfl
  have f3 := O_3.out.cell 3 _ rfl
  have f4 := O_3.out.cell 4 _ rfl
  have f5 := O_3.out.cell 5 _ rfl
  have f6 := O_3.out.cell 6 _ rfl
  have f7 := O_3.out.cell 7 _ rfl
  have f8 := O_3.out.cell 8 _ rfl
  have f9 := O_3.out.cell 9 _ rfl
  have f10 := O_3.out.cell 10 _ rfl
  have f11 := O_3.out.cell 11 _ rfl
  have f12 := O_3.out.cell 12 _ rfl
  go_wp2_with fail
  refine (ask_any y0 A0 n0 c0 B0 m0 d0 C0 o0 e0 _ K_2.out).mono ?_; rintro e w2 ⟨rfl, hb⟩
  rw [askB_no HM.out, HM.out]
  have S_5 := Lib.hid hb; clear hb
  have K_6 := Lib.hid (K_2.out.keep S_5.out)
  have O_7 := Lib.hid (O_3.out.below S_5.out)
  have B_8 := Lib.hid (then_ B_4.out S_5.out)
  clear K_2 O_3 B_4
  clear S_5
  clear f0 f1 f2 f3 f4 f5 f6 f7 f8 f9 f10 f11 f12
  go_wp2_with fail
  refine (asked_no _ (by decide) asked_nil).mono ?_; rintro e w3 ⟨Aq0, nq0, cq0, Aq1, nq1, cq1, Aq2, nq2, cq2, rfl, hat, hb⟩
  have S_9 := Lib.hid hb; clear hb
  have K_10 := Lib.hid (K_6.out.keep S_9.out)
  have O_11 := Lib.hid (O_7.out.below S_9.out)
  have B_12 := Lib.hid (then_ B_8.out S_9.out)
  clear K_6 O_7 B_8
  clear S_9
  clear hat
  have K_13 := Lib.hid (K_10.out.keep (new1 w3 (.cells #[.int .i64 zeroRq.kind, .int .i64 zeroRq.who, .int .i64 zeroRq.seq, .bool zeroRq.once, .string zeroRq.key, .string zeroRq.val, .int .i64 zeroRq.lease, .int .i64 zeroRq.rev, .int .i64 zeroRq.ttl, .int .i64 zeroRq.token, .slice Aq0 nq0 cq0, .slice Aq1 nq1 cq1, .slice Aq2 nq2 cq2] 27)))
  have O_14 := Lib.hid (O_11.out.below (new1 w3 (.cells #[.int .i64 zeroRq.kind, .int .i64 zeroRq.who, .int .i64 zeroRq.seq, .bool zeroRq.once, .string zeroRq.key, .string zeroRq.val, .int .i64 zeroRq.lease, .int .i64 zeroRq.rev, .int .i64 zeroRq.ttl, .int .i64 zeroRq.token, .slice Aq0 nq0 cq0, .slice Aq1 nq1 cq1, .slice Aq2 nq2 cq2] 27)))
  have B_15 := Lib.hid (then_ B_12.out (new1 w3 (.cells #[.int .i64 zeroRq.kind, .int .i64 zeroRq.who, .int .i64 zeroRq.seq, .bool zeroRq.once, .string zeroRq.key, .string zeroRq.val, .int .i64 zeroRq.lease, .int .i64 zeroRq.rev, .int .i64 zeroRq.ttl, .int .i64 zeroRq.token, .slice Aq0 nq0 cq0, .slice Aq1 nq1 cq1, .slice Aq2 nq2 cq2] 27)))
  clear K_10 O_11 B_12
  have f0 := O_14.out.cell 0 _ rfl
  have f1 := O_14.out.cell 1 _ rfl
  have f2 := O_14.out.cell 2 _ rfl
  have f3 := O_14.out.cell 3 _ rfl
  have f4 := O_14.out.cell 4 _ rfl
  have f5 := O_14.out.cell 5 _ rfl
  have f6 := O_14.out.cell 6 _ rfl
  have f7 := O_14.out.cell 7 _ rfl
  have f8 := O_14.out.cell 8 _ rfl
  have f9 := O_14.out.cell 9 _ rfl
  have f10 := O_14.out.cell 10 _ rfl
  have f11 := O_14.out.cell 11 _ rfl
  have f12 := O_14.out.cell 12 _ rfl
  go_wp2_with fail
  refine (mayAsk_any y0 A0 n0 c0 B0 m0 d0 C0 o0 e0 _ K_13.out).mono ?_; rintro e w4 ⟨rfl, hb⟩
  rw [HM.out]
  have S_16 := Lib.hid hb; clear hb
  have K_17 := Lib.hid (K_13.out.keep S_16.out)
  have O_18 := Lib.hid (O_14.out.below S_16.out)
  have B_19 := Lib.hid (then_ B_15.out S_16.out)
  clear K_13 O_14 B_15
  clear S_16
  clear f0 f1 f2 f3 f4 f5 f6 f7 f8 f9 f10 f11 f12
  clear K_17
  clear O_18
  go_wp2_with fail
  refine (asked_no _ HZ.out HA.eq).mono ?_; rintro e w5 ⟨Ap0, np0, cp0, Ap1, np1, cp1, Ap2, np2, cp2, rfl, hat, hb⟩
  have S_20 := Lib.hid hb; clear hb
  have B_21 := Lib.hid (then_ B_19.out S_20.out)
  clear B_19
  clear S_20
  have Kp_22 := Lib.hid (hat)
  clear hat
  have Kp_23 := Lib.hid (Kp_22.out.keep (new1 w5 (.cells #[.int .i64 zeroRq.kind, .int .i64 zeroRq.who, .int .i64 zeroRq.seq, .bool zeroRq.once, .string zeroRq.key, .string zeroRq.val, .int .i64 zeroRq.lease, .int .i64 zeroRq.rev, .int .i64 zeroRq.ttl, .int .i64 zeroRq.token, .slice Ap0 np0 cp0, .slice Ap1 np1 cp1, .slice Ap2 np2 cp2] 27)))
  have B_24 := Lib.hid (then_ B_21.out (new1 w5 (.cells #[.int .i64 zeroRq.kind, .int .i64 zeroRq.who, .int .i64 zeroRq.seq, .bool zeroRq.once, .string zeroRq.key, .string zeroRq.val, .int .i64 zeroRq.lease, .int .i64 zeroRq.rev, .int .i64 zeroRq.ttl, .int .i64 zeroRq.token, .slice Ap0 np0 cp0, .slice Ap1 np1 cp1, .slice Ap2 np2 cp2] 27)))
  clear Kp_22 B_21
  go_wp2_with fail
  refine (ask_any zeroRq Ap0 np0 cp0 Ap1 np1 cp1 Ap2 np2 cp2 _ Kp_23.out).mono ?_; rintro e w6 ⟨rfl, hb⟩
  rw [askB_no qz_may, qz_may]
  have S_25 := Lib.hid hb; clear hb
  have Kp_26 := Lib.hid (Kp_23.out.keep S_25.out)
  have B_27 := Lib.hid (then_ B_24.out S_25.out)
  clear Kp_23 B_24
  clear S_25
  go_wp2_with fail
  refine (live_any _).mono ?_; rintro e w7 ⟨rfl, hb⟩
  have S_28 := Lib.hid hb; clear hb
  have Kp_29 := Lib.hid (Kp_26.out.keep S_28.out)
  have B_30 := Lib.hid (then_ B_27.out S_28.out)
  clear Kp_26 B_27
  clear S_28
  go_wp2
  go_ret
  exact ⟨rfl, B_30.out⟩

theorem walk (w : World) (y0 : Rq) (A0 : Option Addr) (n0 c0 : Nat) (B0 : Option Addr) (m0 d0 : Nat) (C0 : Option Addr) (o0 e0 : Nat) (a1 : ByteArray) (k0 : RqAt w y0 A0 n0 c0 B0 m0 d0 C0 o0 e0) (w1 : a1.size ≤ maxLen) :
    Calls Try.prog 5 #[y0.agg A0 n0 c0 B0 m0 d0 C0 o0 e0, .string a1] w fun e w' => e = .returned (.bool true) ∧ Below w.heap.size w w' := by
  cases hs : shortQ y0 with
  | false => exact long0 w y0 A0 n0 c0 B0 m0 d0 C0 o0 e0 a1 k0 w1 hs
  | true =>
    by_cases hz : a1.size ≤ 600
    · cases hm : mayAskB y0 with
      | true =>
        cases ha : askedB a1 with
        | none => exact go_10 w y0 A0 n0 c0 B0 m0 d0 C0 o0 e0 a1 k0 w1 hs hz hm ha
        | some z => exact go_11 w y0 A0 n0 c0 B0 m0 d0 C0 o0 e0 a1 k0 w1 hs hz hm z ha
      | false =>
        cases ha : askedB a1 with
        | none => exact go_00 w y0 A0 n0 c0 B0 m0 d0 C0 o0 e0 a1 k0 w1 hs hz hm ha
        | some z => exact go_01 w y0 A0 n0 c0 B0 m0 d0 C0 o0 e0 a1 k0 w1 hs hz hm z ha
    · exact wide w y0 A0 n0 c0 B0 m0 d0 C0 o0 e0 a1 k0 w1 hs hz

theorem own : ownKnob Try.prog.godebug = none := by kernel_rfl
theorem laidOut : laidOutB Try.prog = true := by kernel_rfl

set_option maxRecDepth 100000 in
theorem lifted (os : Os) (started : os.Started) (H : Type) (enc : TypeId × Value → H) :
    ReturnsInHanded {} Try.checked os 5 .any (Rows.wireBackSpec.pre6 enc Try.prog Try.f5 Rows.wireBackRow.domain false) (Rows.wireBackSpec.post enc Try.prog Try.f5 false true false false) := by
  refine returnsInHanded_of_change (C := Try.checked) own started (by kernel_rfl) Try.func5
    (ChangeSpec.witness6 (enc := enc) (C := Try.checked) false ⟨#[], #[.agg #[.int .i64 0, .int .i64 0, .int .i64 0, .bool false, .string ByteArray.empty, .string ByteArray.empty, .int .i64 0, .int .i64 0, .int .i64 0, .int .i64 0, .slice none 0 0, .slice none 0 0, .slice none 0 0], .string ByteArray.empty], []⟩ 8 (by kernel_rfl) (by kernel_rfl) (by kernel_rfl) (by kernel_rfl)) ?_
  intro W base args ds gs before hval0 hW hcnd _
  have hval : ∀ (j : Nat) t v, Try.f5.params[j]? = some t → args[j]? = some v → Value.okWide Try.prog W .any base t v := hval0
  have hW' := hW
  obtain ⟨p, q, hA0, hV, rfl, hfz, hnd⟩ := hW
  have hA : DataW.TrodAll enc Try.prog W 0 (fun _ => true) true Try.f5.params.toList args.toList ds p := hA0
  rw [Try.params5] at hA hval
  obtain ⟨v0, vs0, d0, ds0, p0, q0, hargs, rfl, rfl, h0, r0⟩ := trodAll_cons hA
  obtain ⟨v1, vs1, d1, ds1, p1, q1, rfl, rfl, rfl, h1, r1⟩ := trodAll_cons r0
  obtain ⟨rfl, rfl, rfl⟩ := trodAll_nil r1
  obtain rfl : args = #[v0, v1] := by cases args; simp_all
  obtain ⟨rfl, rfl⟩ := trodVars_none hV
  obtain ⟨y0, A0, n0, c0, B0, m0, d0, C0, o0, e0, rfl, k0⟩ := open_rq (hval 0 27 v0 rfl rfl) h0
  obtain ⟨a1, rfl, rfl, rfl, w1⟩ := open_string Try.underlying9 (hval 1 9 v1 rfl rfl) h1
  clear hA0 hval0
  refine (walk W y0 A0 n0 c0 B0 m0 d0 C0 o0 e0 a1 k0 w1).mono fun e W' ⟨he, bel⟩ => ?_
  subst he
  exact ⟨_, rfl, _, _, _, [], _, [], hW', trodAll_mk1 (shut_bool Try.underlying4 _), (trodAll_cons_mk (Below.trod laidOut (by kernel_rfl) (of_decide_eq_true (by kernel_rfl)) h0 bel (fun x hx => hW'.lt x (by simp [hx]))) (trodAll_cons_mk (shut_string Try.underlying9 w1) trodAll_mk0)), rfl, bel.frame _, fun h => by cases h⟩

theorem over : Rows.wireBackRow.holds Try.pinned (OpenSpec.ofChange Rows.wireBackSpec) :=
  OpenClaim.holds_of_wide 5 Try.f5 rfl rfl rfl rfl rfl rfl rfl ⟨rfl, rfl, rfl, rfl, rfl⟩ rfl rfl rfl rfl rfl (by kernel_rfl) Try.func5 (by kernel_rfl)
    (of_decide_eq_true (by kernel_rfl)) (by unfold Func.isWrapper; first | (rw [if_pos (by decide +kernel)]; kernel_rfl) | (rw [if_neg (by decide +kernel)]; exact ⟨rfl, rfl⟩))
    (fun os started H enc _ => lifted os started H enc)

theorem proved : Rows.WireBackSaid := over
#print axioms proved
end Go.Proofs.Ytlmjkidppffpcab.wireBack
