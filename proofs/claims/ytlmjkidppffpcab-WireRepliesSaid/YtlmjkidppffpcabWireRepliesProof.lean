/- For every reply and every text the law WireReplies answers true: what is written is read as it was, and what is read is what is written. No condition. -/
import Derived.Test.YtlmjkidppffpcabWireLive
import Derived.Test.YtlmjkidppffpcabRows
namespace Go.Proofs.Ytlmjkidppffpcab.wireReplies
open Go.ChangeShapes Go.WideShapes Go.ChangeAt Go.RowKit Go.Lib Go.Proofs.Ytlmjkidppffpcab.P
open Go.ChangeMaps (open_string shut_string)
set_option linter.unusedVariables false
set_option linter.unusedSimpArgs false
set_option maxHeartbeats 1000000
set_option maxRecDepth 100000

theorem long0 (w : World) (y0 : Rp) (A0 : Option Addr) (n0 c0 : Nat) (B0 : Option Addr) (m0 d0 : Nat) (a1 : ByteArray) (k0 : RpAt w y0 A0 n0 c0 B0 m0 d0) (w1 : a1.size ≤ maxLen) (hs : fewT 40 shKV y0.kvs = false) :
    Calls Try.prog 6 #[y0.agg A0 n0 c0 B0 m0 d0, .string a1] w fun e w' => e = .returned (.bool true) ∧ Below w.heap.size w w' := by
  have HS := Lib.hid hs; clear hs
  have K_0 := Lib.hid (k0.keep (new1 w (.cells #[.int .i64 y0.code, .int .i64 y0.who, .int .i64 y0.seq, .int .i64 y0.rev, .int .i64 y0.lease, .int .i64 y0.ttl, .bool y0.yes, .slice A0 n0 c0, .slice B0 m0 d0] 40)))
  have O_0 := Lib.hid (own_new w #[.int .i64 y0.code, .int .i64 y0.who, .int .i64 y0.seq, .int .i64 y0.rev, .int .i64 y0.lease, .int .i64 y0.ttl, .bool y0.yes, .slice A0 n0 c0, .slice B0 m0 d0] 40)
  have B_0 := Lib.hid (new1 w (.cells #[.int .i64 y0.code, .int .i64 y0.who, .int .i64 y0.seq, .int .i64 y0.rev, .int .i64 y0.lease, .int .i64 y0.ttl, .bool y0.yes, .slice A0 n0 c0, .slice B0 m0 d0] 40))
  clear k0
  go_enter Try.func6, Try.ntmps6
  go_wp2_with fail
  refine (few_rows A0 n0 c0 y0.kvs 40 _ K_0.out.r0 K_0.out.ok.kvs (by omega)).mono ?_; rintro e w' ⟨rfl, rfl⟩
  rw [HS.out]
  go_wp2_with fail
  refine (live_any _).mono ?_; rintro e w1 ⟨rfl, hb⟩
  have S_1 := Lib.hid hb; clear hb
  have K_2 := Lib.hid (K_0.out.keep S_1.out)
  have O_3 := Lib.hid (O_0.out.below S_1.out)
  have B_4 := Lib.hid (then_ B_0.out S_1.out)
  clear K_0 O_0 B_0
  clear S_1
  go_wp2
  go_ret
  exact ⟨rfl, B_4.out⟩

theorem long1 (w : World) (y0 : Rp) (A0 : Option Addr) (n0 c0 : Nat) (B0 : Option Addr) (m0 d0 : Nat) (a1 : ByteArray) (k0 : RpAt w y0 A0 n0 c0 B0 m0 d0) (w1 : a1.size ≤ maxLen) (hs : fewT 40 shKV y0.kvs = true) (hs2 : fewT 40 shEv y0.evs = false) :
    Calls Try.prog 6 #[y0.agg A0 n0 c0 B0 m0 d0, .string a1] w fun e w' => e = .returned (.bool true) ∧ Below w.heap.size w w' := by
  have HS := Lib.hid hs; clear hs
  have HS2 := Lib.hid hs2; clear hs2
  have K_0 := Lib.hid (k0.keep (new1 w (.cells #[.int .i64 y0.code, .int .i64 y0.who, .int .i64 y0.seq, .int .i64 y0.rev, .int .i64 y0.lease, .int .i64 y0.ttl, .bool y0.yes, .slice A0 n0 c0, .slice B0 m0 d0] 40)))
  have O_0 := Lib.hid (own_new w #[.int .i64 y0.code, .int .i64 y0.who, .int .i64 y0.seq, .int .i64 y0.rev, .int .i64 y0.lease, .int .i64 y0.ttl, .bool y0.yes, .slice A0 n0 c0, .slice B0 m0 d0] 40)
  have B_0 := Lib.hid (new1 w (.cells #[.int .i64 y0.code, .int .i64 y0.who, .int .i64 y0.seq, .int .i64 y0.rev, .int .i64 y0.lease, .int .i64 y0.ttl, .bool y0.yes, .slice A0 n0 c0, .slice B0 m0 d0] 40))
  clear k0
  go_enter Try.func6, Try.ntmps6
  go_wp2_with fail
  refine (few_rows A0 n0 c0 y0.kvs 40 _ K_0.out.r0 K_0.out.ok.kvs (by omega)).mono ?_; rintro e w' ⟨rfl, rfl⟩
  rw [HS.out]
  go_wp2_with fail
  refine (fewe_rows B0 m0 d0 y0.evs 40 _ K_0.out.r1 K_0.out.ok.evs (by omega)).mono ?_; rintro e w' ⟨rfl, rfl⟩
  rw [HS2.out]
  go_wp2_with fail
  refine (live_any _).mono ?_; rintro e w1 ⟨rfl, hb⟩
  have S_1 := Lib.hid hb; clear hb
  have K_2 := Lib.hid (K_0.out.keep S_1.out)
  have O_3 := Lib.hid (O_0.out.below S_1.out)
  have B_4 := Lib.hid (then_ B_0.out S_1.out)
  clear K_0 O_0 B_0
  clear S_1
  go_wp2
  go_ret
  exact ⟨rfl, B_4.out⟩

theorem wide (w : World) (y0 : Rp) (A0 : Option Addr) (n0 c0 : Nat) (B0 : Option Addr) (m0 d0 : Nat) (a1 : ByteArray) (k0 : RpAt w y0 A0 n0 c0 B0 m0 d0) (w1 : a1.size ≤ maxLen) (hs : fewT 40 shKV y0.kvs = true) (hs2 : fewT 40 shEv y0.evs = true) (hz : ¬ a1.size ≤ 3000) :
    Calls Try.prog 6 #[y0.agg A0 n0 c0 B0 m0 d0, .string a1] w fun e w' => e = .returned (.bool true) ∧ Below w.heap.size w w' := by
  have HS := Lib.hid hs; clear hs
  have HS2 := Lib.hid hs2; clear hs2
  unfold maxLen at w1
  have K_0 := Lib.hid (k0.keep (new1 w (.cells #[.int .i64 y0.code, .int .i64 y0.who, .int .i64 y0.seq, .int .i64 y0.rev, .int .i64 y0.lease, .int .i64 y0.ttl, .bool y0.yes, .slice A0 n0 c0, .slice B0 m0 d0] 40)))
  have O_0 := Lib.hid (own_new w #[.int .i64 y0.code, .int .i64 y0.who, .int .i64 y0.seq, .int .i64 y0.rev, .int .i64 y0.lease, .int .i64 y0.ttl, .bool y0.yes, .slice A0 n0 c0, .slice B0 m0 d0] 40)
  have B_0 := Lib.hid (new1 w (.cells #[.int .i64 y0.code, .int .i64 y0.who, .int .i64 y0.seq, .int .i64 y0.rev, .int .i64 y0.lease, .int .i64 y0.ttl, .bool y0.yes, .slice A0 n0 c0, .slice B0 m0 d0] 40))
  clear k0
  go_enter Try.func6, Try.ntmps6
  go_wp2_with fail
  refine (few_rows A0 n0 c0 y0.kvs 40 _ K_0.out.r0 K_0.out.ok.kvs (by omega)).mono ?_; rintro e w' ⟨rfl, rfl⟩
  rw [HS.out]
  go_wp2_with fail
  refine (fewe_rows B0 m0 d0 y0.evs 40 _ K_0.out.r1 K_0.out.ok.evs (by omega)).mono ?_; rintro e w' ⟨rfl, rfl⟩
  rw [HS2.out]
  go_wp2_with fail
  refine (live_any _).mono ?_; rintro e w1 ⟨rfl, hb⟩
  have S_1 := Lib.hid hb; clear hb
  have K_2 := Lib.hid (K_0.out.keep S_1.out)
  have O_3 := Lib.hid (O_0.out.below S_1.out)
  have B_4 := Lib.hid (then_ B_0.out S_1.out)
  clear K_0 O_0 B_0
  clear S_1
  go_wp2
  go_ret
  exact ⟨rfl, B_4.out⟩

theorem go_11 (w : World) (y0 : Rp) (A0 : Option Addr) (n0 c0 : Nat) (B0 : Option Addr) (m0 d0 : Nat) (a1 : ByteArray) (k0 : RpAt w y0 A0 n0 c0 B0 m0 d0) (w1 : a1.size ≤ maxLen) (hs : fewT 40 shKV y0.kvs = true) (hs2 : fewT 40 shEv y0.evs = true) (hz : a1.size ≤ 3000) (hm : mayTellB y0 = true) (z : Rp) (ha : toldB a1 = some z) :
    Calls Try.prog 6 #[y0.agg A0 n0 c0 B0 m0 d0, .string a1] w fun e w' => e = .returned (.bool true) ∧ Below w.heap.size w w' := by
  have HS := Lib.hid hs; clear hs
  have HS2 := Lib.hid hs2; clear hs2
  have HM := Lib.hid hm; clear hm
  have HZ := Lib.hid (show a1.size ≤ 1000000 by omega); clear w1
  have HE := Lib.hid (tell_told ha).1; have HB := Lib.hid (tell_told ha).2
  have HA : ToldIs a1 (some z) := ⟨ha⟩; clear ha
  have K_0 := Lib.hid (k0.keep (new1 w (.cells #[.int .i64 y0.code, .int .i64 y0.who, .int .i64 y0.seq, .int .i64 y0.rev, .int .i64 y0.lease, .int .i64 y0.ttl, .bool y0.yes, .slice A0 n0 c0, .slice B0 m0 d0] 40)))
  have O_0 := Lib.hid (own_new w #[.int .i64 y0.code, .int .i64 y0.who, .int .i64 y0.seq, .int .i64 y0.rev, .int .i64 y0.lease, .int .i64 y0.ttl, .bool y0.yes, .slice A0 n0 c0, .slice B0 m0 d0] 40)
  have B_0 := Lib.hid (new1 w (.cells #[.int .i64 y0.code, .int .i64 y0.who, .int .i64 y0.seq, .int .i64 y0.rev, .int .i64 y0.lease, .int .i64 y0.ttl, .bool y0.yes, .slice A0 n0 c0, .slice B0 m0 d0] 40))
  clear k0
  go_enter Try.func6, Try.ntmps6
  go_wp2_with fail
  refine (few_rows A0 n0 c0 y0.kvs 40 _ K_0.out.r0 K_0.out.ok.kvs (by omega)).mono ?_; rintro e w' ⟨rfl, rfl⟩
  rw [HS.out]
  go_wp2_with fail
  refine (fewe_rows B0 m0 d0 y0.evs 40 _ K_0.out.r1 K_0.out.ok.evs (by omega)).mono ?_; rintro e w' ⟨rfl, rfl⟩
  rw [HS2.out]
  go_wp2_with fail
  refine (tell_any y0 A0 n0 c0 B0 m0 d0 _ K_0.out).mono ?_; rintro e w1 ⟨rfl, hb⟩
  rw [HM.out]
  have S_1 := Lib.hid hb; clear hb
  have K_2 := Lib.hid (K_0.out.keep S_1.out)
  have O_3 := Lib.hid (O_0.out.below S_1.out)
  have B_4 := Lib.hid (then_ B_0.out S_1.out)
  clear K_0 O_0 B_0
  clear S_1
  go_wp2_with fail
  refine (told__yes _ (tellB_le y0) (told_tell HM.out)).mono ?_; rintro e w2 ⟨Aq0, nq0, cq0, Aq1, nq1, cq1, rfl, hat, hb⟩
  have S_5 := Lib.hid hb; clear hb
  have K_6 := Lib.hid (K_2.out.keep S_5.out)
  have O_7 := Lib.hid (O_3.out.below S_5.out)
  have B_8 := Lib.hid (then_ B_4.out S_5.out)
  clear K_2 O_3 B_4
  clear S_5
  have Kq_9 := Lib.hid (hat)
  clear hat
  have K_10 := Lib.hid (K_6.out.keep (new1 w2 (.cells #[.int .i64 y0.code, .int .i64 y0.who, .int .i64 y0.seq, .int .i64 y0.rev, .int .i64 y0.lease, .int .i64 y0.ttl, .bool y0.yes, .slice Aq0 nq0 cq0, .slice Aq1 nq1 cq1] 40)))
  have O_11 := Lib.hid (O_7.out.below (new1 w2 (.cells #[.int .i64 y0.code, .int .i64 y0.who, .int .i64 y0.seq, .int .i64 y0.rev, .int .i64 y0.lease, .int .i64 y0.ttl, .bool y0.yes, .slice Aq0 nq0 cq0, .slice Aq1 nq1 cq1] 40)))
  have Kq_12 := Lib.hid (Kq_9.out.keep (new1 w2 (.cells #[.int .i64 y0.code, .int .i64 y0.who, .int .i64 y0.seq, .int .i64 y0.rev, .int .i64 y0.lease, .int .i64 y0.ttl, .bool y0.yes, .slice Aq0 nq0 cq0, .slice Aq1 nq1 cq1] 40)))
  have B_13 := Lib.hid (then_ B_8.out (new1 w2 (.cells #[.int .i64 y0.code, .int .i64 y0.who, .int .i64 y0.seq, .int .i64 y0.rev, .int .i64 y0.lease, .int .i64 y0.ttl, .bool y0.yes, .slice Aq0 nq0 cq0, .slice Aq1 nq1 cq1] 40)))
  clear K_6 O_7 Kq_9 B_8
  have Oq_14 := Lib.hid (own_new w2 #[.int .i64 y0.code, .int .i64 y0.who, .int .i64 y0.seq, .int .i64 y0.rev, .int .i64 y0.lease, .int .i64 y0.ttl, .bool y0.yes, .slice Aq0 nq0 cq0, .slice Aq1 nq1 cq1] 40)
  have g0 := Oq_14.out.cell 0 _ rfl
  have g1 := Oq_14.out.cell 1 _ rfl
  have g2 := Oq_14.out.cell 2 _ rfl
  have g3 := Oq_14.out.cell 3 _ rfl
  have g4 := Oq_14.out.cell 4 _ rfl
  have g5 := Oq_14.out.cell 5 _ rfl
  have g6 := Oq_14.out.cell 6 _ rfl
  have g7 := Oq_14.out.cell 7 _ rfl
  have g8 := Oq_14.out.cell 8 _ rfl
  have f0 := O_11.out.cell 0 _ rfl
  have f1 := O_11.out.cell 1 _ rfl
  have f2 := O_11.out.cell 2 _ rfl
  have f3 := O_11.out.cell 3 _ rfl
  have f4 := O_11.out.cell 4 _ rfl
  have f5 := O_11.out.cell 5 _ rfl
  have f6 := O_11.out.cell 6 _ rfl
  have f7 := O_11.out.cell 7 _ rfl
  have f8 := O_11.out.cell 8 _ rfl
  go_wp2_with fail
  refine (alike_same y0 Aq0 nq0 cq0 Aq1 nq1 cq1 A0 n0 c0 B0 m0 d0 _ Kq_12.out K_10.out).mono ?_; rintro e w3 ⟨rfl, hb⟩
  have S_15 := Lib.hid hb; clear hb
  have K_16 := Lib.hid (K_10.out.keep S_15.out)
  have O_17 := Lib.hid (O_11.out.below S_15.out)
  have Kq_18 := Lib.hid (Kq_12.out.keep S_15.out)
  have Oq_19 := Lib.hid (Oq_14.out.below S_15.out)
  have B_20 := Lib.hid (then_ B_13.out S_15.out)
  clear K_10 O_11 Kq_12 Oq_14 B_13
  clear S_15
  clear g0 g1 g2 g3 g4 g5 g6 g7 g8
  clear f0 f1 f2 f3 f4 f5 f6 f7 f8
  have f0 := O_17.out.cell 0 _ rfl
  have f1 := O_17.out.cell 1 _ rfl
  have f2 := O_17.out.cell 2 _ rfl
  have f3 := O_17.out.cell 3 _ rfl
  have f4 := O_17.out.cell 4 _ rfl
  have f5 := O_17.out.cell 5 _ rfl
  have f6 := O_17.out.cell 6 _ rfl
  have f7 := O_17.out.cell 7 _ rfl
  have f8 := O_17.out.cell 8 _ rfl
  go_wp2_with fail
  refine (mayTell_any y0 A0 n0 c0 B0 m0 d0 _ K_16.out).mono ?_; rintro e w4 ⟨rfl, hb⟩
  rw [HM.out]
  have S_21 := Lib.hid hb; clear hb
  have K_22 := Lib.hid (K_16.out.keep S_21.out)
  have O_23 := Lib.hid (O_17.out.below S_21.out)
  have Kq_24 := Lib.hid (Kq_18.out.keep S_21.out)
  have Oq_25 := Lib.hid (Oq_19.out.below S_21.out)
  have B_26 := Lib.hid (then_ B_20.out S_21.out)
  clear K_16 O_17 Kq_18 Oq_19 B_20
  clear S_21
  clear f0 f1 f2 f3 f4 f5 f6 f7 f8
  clear Kq_24
  clear Oq_25
  clear K_22
  clear O_23
  go_wp2_with fail
  refine (told__yes _ HZ.out HA.eq).mono ?_; rintro e w5 ⟨Ap0, np0, cp0, Ap1, np1, cp1, rfl, hat, hb⟩
  have S_27 := Lib.hid hb; clear hb
  have B_28 := Lib.hid (then_ B_26.out S_27.out)
  clear B_26
  clear S_27
  have Kp_29 := Lib.hid (hat)
  clear hat
  have Kp_30 := Lib.hid (Kp_29.out.keep (new1 w5 (.cells #[.int .i64 z.code, .int .i64 z.who, .int .i64 z.seq, .int .i64 z.rev, .int .i64 z.lease, .int .i64 z.ttl, .bool z.yes, .slice Ap0 np0 cp0, .slice Ap1 np1 cp1] 40)))
  have B_31 := Lib.hid (then_ B_28.out (new1 w5 (.cells #[.int .i64 z.code, .int .i64 z.who, .int .i64 z.seq, .int .i64 z.rev, .int .i64 z.lease, .int .i64 z.ttl, .bool z.yes, .slice Ap0 np0 cp0, .slice Ap1 np1 cp1] 40)))
  clear Kp_29 B_28
  go_wp2_with fail
  refine (tell_any z Ap0 np0 cp0 Ap1 np1 cp1 _ Kp_30.out).mono ?_; rintro e w6 ⟨rfl, hb⟩
  rw [HE.out, HB.out]
  have S_32 := Lib.hid hb; clear hb
  have Kp_33 := Lib.hid (Kp_30.out.keep S_32.out)
  have B_34 := Lib.hid (then_ B_31.out S_32.out)
  clear Kp_30 B_31
  clear S_32
  go_wp2_with fail
  refine (live_any _).mono ?_; rintro e w7 ⟨rfl, hb⟩
  have S_35 := Lib.hid hb; clear hb
  have Kp_36 := Lib.hid (Kp_33.out.keep S_35.out)
  have B_37 := Lib.hid (then_ B_34.out S_35.out)
  clear Kp_33 B_34
  clear S_35
  go_wp2
  go_ret
  exact ⟨rfl, B_37.out⟩

theorem go_10 (w : World) (y0 : Rp) (A0 : Option Addr) (n0 c0 : Nat) (B0 : Option Addr) (m0 d0 : Nat) (a1 : ByteArray) (k0 : RpAt w y0 A0 n0 c0 B0 m0 d0) (w1 : a1.size ≤ maxLen) (hs : fewT 40 shKV y0.kvs = true) (hs2 : fewT 40 shEv y0.evs = true) (hz : a1.size ≤ 3000) (hm : mayTellB y0 = true) (ha : toldB a1 = none) :
    Calls Try.prog 6 #[y0.agg A0 n0 c0 B0 m0 d0, .string a1] w fun e w' => e = .returned (.bool true) ∧ Below w.heap.size w w' := by
  have HS := Lib.hid hs; clear hs
  have HS2 := Lib.hid hs2; clear hs2
  have HM := Lib.hid hm; clear hm
  have HZ := Lib.hid (show a1.size ≤ 1000000 by omega); clear w1
  have HA : ToldIs a1 none := ⟨ha⟩; clear ha
  have K_0 := Lib.hid (k0.keep (new1 w (.cells #[.int .i64 y0.code, .int .i64 y0.who, .int .i64 y0.seq, .int .i64 y0.rev, .int .i64 y0.lease, .int .i64 y0.ttl, .bool y0.yes, .slice A0 n0 c0, .slice B0 m0 d0] 40)))
  have O_0 := Lib.hid (own_new w #[.int .i64 y0.code, .int .i64 y0.who, .int .i64 y0.seq, .int .i64 y0.rev, .int .i64 y0.lease, .int .i64 y0.ttl, .bool y0.yes, .slice A0 n0 c0, .slice B0 m0 d0] 40)
  have B_0 := Lib.hid (new1 w (.cells #[.int .i64 y0.code, .int .i64 y0.who, .int .i64 y0.seq, .int .i64 y0.rev, .int .i64 y0.lease, .int .i64 y0.ttl, .bool y0.yes, .slice A0 n0 c0, .slice B0 m0 d0] 40))
  clear k0
  go_enter Try.func6, Try.ntmps6
  go_wp2_with fail
  refine (few_rows A0 n0 c0 y0.kvs 40 _ K_0.out.r0 K_0.out.ok.kvs (by omega)).mono ?_; rintro e w' ⟨rfl, rfl⟩
  rw [HS.out]
  go_wp2_with fail
  refine (fewe_rows B0 m0 d0 y0.evs 40 _ K_0.out.r1 K_0.out.ok.evs (by omega)).mono ?_; rintro e w' ⟨rfl, rfl⟩
  rw [HS2.out]
  go_wp2_with fail
  refine (tell_any y0 A0 n0 c0 B0 m0 d0 _ K_0.out).mono ?_; rintro e w1 ⟨rfl, hb⟩
  rw [HM.out]
  have S_1 := Lib.hid hb; clear hb
  have K_2 := Lib.hid (K_0.out.keep S_1.out)
  have O_3 := Lib.hid (O_0.out.below S_1.out)
  have B_4 := Lib.hid (then_ B_0.out S_1.out)
  clear K_0 O_0 B_0
  clear S_1
  go_wp2_with fail
  refine (told__yes _ (tellB_le y0) (told_tell HM.out)).mono ?_; rintro e w2 ⟨Aq0, nq0, cq0, Aq1, nq1, cq1, rfl, hat, hb⟩
  have S_5 := Lib.hid hb; clear hb
  have K_6 := Lib.hid (K_2.out.keep S_5.out)
  have O_7 := Lib.hid (O_3.out.below S_5.out)
  have B_8 := Lib.hid (then_ B_4.out S_5.out)
  clear K_2 O_3 B_4
  clear S_5
  have Kq_9 := Lib.hid (hat)
  clear hat
  have K_10 := Lib.hid (K_6.out.keep (new1 w2 (.cells #[.int .i64 y0.code, .int .i64 y0.who, .int .i64 y0.seq, .int .i64 y0.rev, .int .i64 y0.lease, .int .i64 y0.ttl, .bool y0.yes, .slice Aq0 nq0 cq0, .slice Aq1 nq1 cq1] 40)))
  have O_11 := Lib.hid (O_7.out.below (new1 w2 (.cells #[.int .i64 y0.code, .int .i64 y0.who, .int .i64 y0.seq, .int .i64 y0.rev, .int .i64 y0.lease, .int .i64 y0.ttl, .bool y0.yes, .slice Aq0 nq0 cq0, .slice Aq1 nq1 cq1] 40)))
  have Kq_12 := Lib.hid (Kq_9.out.keep (new1 w2 (.cells #[.int .i64 y0.code, .int .i64 y0.who, .int .i64 y0.seq, .int .i64 y0.rev, .int .i64 y0.lease, .int .i64 y0.ttl, .bool y0.yes, .slice Aq0 nq0 cq0, .slice Aq1 nq1 cq1] 40)))
  have B_13 := Lib.hid (then_ B_8.out (new1 w2 (.cells #[.int .i64 y0.code, .int .i64 y0.who, .int .i64 y0.seq, .int .i64 y0.rev, .int .i64 y0.lease, .int .i64 y0.ttl, .bool y0.yes, .slice Aq0 nq0 cq0, .slice Aq1 nq1 cq1] 40)))
  clear K_6 O_7 Kq_9 B_8
  have Oq_14 := Lib.hid (own_new w2 #[.int .i64 y0.code, .int .i64 y0.who, .int .i64 y0.seq, .int .i64 y0.rev, .int .i64 y0.lease, .int .i64 y0.ttl, .bool y0.yes, .slice Aq0 nq0 cq0, .slice Aq1 nq1 cq1] 40)
  have g0 := Oq_14.out.cell 0 _ rfl
  have g1 := Oq_14.out.cell 1 _ rfl
  have g2 := Oq_14.out.cell 2 _ rfl
  have g3 := Oq_14.out.cell 3 _ rfl
  have g4 := Oq_14.out.cell 4 _ rfl
  have g5 := Oq_14.out.cell 5 _ rfl
  have g6 := Oq_14.out.cell 6 _ rfl
  have g7 := Oq_14.out.cell 7 _ rfl
  have g8 := Oq_14.out.cell 8 _ rfl
  have f0 := O_11.out.cell 0 _ rfl
  have f1 := O_11.out.cell 1 _ rfl
  have f2 := O_11.out.cell 2 _ rfl
  have f3 := O_11.out.cell 3 _ rfl
  have f4 := O_11.out.cell 4 _ rfl
  have f5 := O_11.out.cell 5 _ rfl
  have f6 := O_11.out.cell 6 _ rfl
  have f7 := O_11.out.cell 7 _ rfl
  have f8 := O_11.out.cell 8 _ rfl
  go_wp2_with fail
  refine (alike_same y0 Aq0 nq0 cq0 Aq1 nq1 cq1 A0 n0 c0 B0 m0 d0 _ Kq_12.out K_10.out).mono ?_; rintro e w3 ⟨rfl, hb⟩
  have S_15 := Lib.hid hb; clear hb
  have K_16 := Lib.hid (K_10.out.keep S_15.out)
  have O_17 := Lib.hid (O_11.out.below S_15.out)
  have Kq_18 := Lib.hid (Kq_12.out.keep S_15.out)
  have Oq_19 := Lib.hid (Oq_14.out.below S_15.out)
  have B_20 := Lib.hid (then_ B_13.out S_15.out)
  clear K_10 O_11 Kq_12 Oq_14 B_13
  clear S_15
  clear g0 g1 g2 g3 g4 g5 g6 g7 g8
  clear f0 f1 f2 f3 f4 f5 f6 f7 f8
  have f0 := O_17.out.cell 0 _ rfl
  have f1 := O_17.out.cell 1 _ rfl
  have f2 := O_17.out.cell 2 _ rfl
  have f3 := O_17.out.cell 3 _ rfl
  have f4 := O_17.out.cell 4 _ rfl
  have f5 := O_17.out.cell 5 _ rfl
  have f6 := O_17.out.cell 6 _ rfl
  have f7 := O_17.out.cell 7 _ rfl
  have f8 := O_17.out.cell 8 _ rfl
  go_wp2_with fail
  refine (mayTell_any y0 A0 n0 c0 B0 m0 d0 _ K_16.out).mono ?_; rintro e w4 ⟨rfl, hb⟩
  rw [HM.out]
  have S_21 := Lib.hid hb; clear hb
  have K_22 := Lib.hid (K_16.out.keep S_21.out)
  have O_23 := Lib.hid (O_17.out.below S_21.out)
  have Kq_24 := Lib.hid (Kq_18.out.keep S_21.out)
  have Oq_25 := Lib.hid (Oq_19.out.below S_21.out)
  have B_26 := Lib.hid (then_ B_20.out S_21.out)
  clear K_16 O_17 Kq_18 Oq_19 B_20
  clear S_21
  clear f0 f1 f2 f3 f4 f5 f6 f7 f8
  clear Kq_24
  clear Oq_25
  clear K_22
  clear O_23
  go_wp2_with fail
  refine (told__no _ HZ.out HA.eq).mono ?_; rintro e w5 ⟨Ap0, np0, cp0, Ap1, np1, cp1, rfl, hat, hb⟩
  have S_27 := Lib.hid hb; clear hb
  have B_28 := Lib.hid (then_ B_26.out S_27.out)
  clear B_26
  clear S_27
  have Kp_29 := Lib.hid (hat)
  clear hat
  have Kp_30 := Lib.hid (Kp_29.out.keep (new1 w5 (.cells #[.int .i64 zeroRp.code, .int .i64 zeroRp.who, .int .i64 zeroRp.seq, .int .i64 zeroRp.rev, .int .i64 zeroRp.lease, .int .i64 zeroRp.ttl, .bool zeroRp.yes, .slice Ap0 np0 cp0, .slice Ap1 np1 cp1] 40)))
  have B_31 := Lib.hid (then_ B_28.out (new1 w5 (.cells #[.int .i64 zeroRp.code, .int .i64 zeroRp.who, .int .i64 zeroRp.seq, .int .i64 zeroRp.rev, .int .i64 zeroRp.lease, .int .i64 zeroRp.ttl, .bool zeroRp.yes, .slice Ap0 np0 cp0, .slice Ap1 np1 cp1] 40)))
  clear Kp_29 B_28
  go_wp2_with fail
  refine (tell_any zeroRp Ap0 np0 cp0 Ap1 np1 cp1 _ Kp_30.out).mono ?_; rintro e w6 ⟨rfl, hb⟩
  rw [rz_may]
  have S_32 := Lib.hid hb; clear hb
  have Kp_33 := Lib.hid (Kp_30.out.keep S_32.out)
  have B_34 := Lib.hid (then_ B_31.out S_32.out)
  clear Kp_30 B_31
  clear S_32
  go_wp2_with fail
  refine (live_any _).mono ?_; rintro e w7 ⟨rfl, hb⟩
  have S_35 := Lib.hid hb; clear hb
  have Kp_36 := Lib.hid (Kp_33.out.keep S_35.out)
  have B_37 := Lib.hid (then_ B_34.out S_35.out)
  clear Kp_33 B_34
  clear S_35
  go_wp2
  go_ret
  exact ⟨rfl, B_37.out⟩

theorem go_01 (w : World) (y0 : Rp) (A0 : Option Addr) (n0 c0 : Nat) (B0 : Option Addr) (m0 d0 : Nat) (a1 : ByteArray) (k0 : RpAt w y0 A0 n0 c0 B0 m0 d0) (w1 : a1.size ≤ maxLen) (hs : fewT 40 shKV y0.kvs = true) (hs2 : fewT 40 shEv y0.evs = true) (hz : a1.size ≤ 3000) (hm : mayTellB y0 = false) (z : Rp) (ha : toldB a1 = some z) :
    Calls Try.prog 6 #[y0.agg A0 n0 c0 B0 m0 d0, .string a1] w fun e w' => e = .returned (.bool true) ∧ Below w.heap.size w w' := by
  have HS := Lib.hid hs; clear hs
  have HS2 := Lib.hid hs2; clear hs2
  have HM := Lib.hid hm; clear hm
  have HZ := Lib.hid (show a1.size ≤ 1000000 by omega); clear w1
  have HE := Lib.hid (tell_told ha).1; have HB := Lib.hid (tell_told ha).2
  have HA : ToldIs a1 (some z) := ⟨ha⟩; clear ha
  have K_0 := Lib.hid (k0.keep (new1 w (.cells #[.int .i64 y0.code, .int .i64 y0.who, .int .i64 y0.seq, .int .i64 y0.rev, .int .i64 y0.lease, .int .i64 y0.ttl, .bool y0.yes, .slice A0 n0 c0, .slice B0 m0 d0] 40)))
  have O_0 := Lib.hid (own_new w #[.int .i64 y0.code, .int .i64 y0.who, .int .i64 y0.seq, .int .i64 y0.rev, .int .i64 y0.lease, .int .i64 y0.ttl, .bool y0.yes, .slice A0 n0 c0, .slice B0 m0 d0] 40)
  have B_0 := Lib.hid (new1 w (.cells #[.int .i64 y0.code, .int .i64 y0.who, .int .i64 y0.seq, .int .i64 y0.rev, .int .i64 y0.lease, .int .i64 y0.ttl, .bool y0.yes, .slice A0 n0 c0, .slice B0 m0 d0] 40))
  clear k0
  go_enter Try.func6, Try.ntmps6
  go_wp2_with fail
  refine (few_rows A0 n0 c0 y0.kvs 40 _ K_0.out.r0 K_0.out.ok.kvs (by omega)).mono ?_; rintro e w' ⟨rfl, rfl⟩
  rw [HS.out]
  go_wp2_with fail
  refine (fewe_rows B0 m0 d0 y0.evs 40 _ K_0.out.r1 K_0.out.ok.evs (by omega)).mono ?_; rintro e w' ⟨rfl, rfl⟩
  rw [HS2.out]
  go_wp2_with fail
  refine (tell_any y0 A0 n0 c0 B0 m0 d0 _ K_0.out).mono ?_; rintro e w1 ⟨rfl, hb⟩
  rw [tellB_no HM.out, HM.out]
  have S_1 := Lib.hid hb; clear hb
  have K_2 := Lib.hid (K_0.out.keep S_1.out)
  have O_3 := Lib.hid (O_0.out.below S_1.out)
  have B_4 := Lib.hid (then_ B_0.out S_1.out)
  clear K_0 O_0 B_0
  clear S_1
  go_wp2_with fail
  refine (told__no _ (by decide) told_nil).mono ?_; rintro e w2 ⟨Aq0, nq0, cq0, Aq1, nq1, cq1, rfl, hat, hb⟩
  have S_5 := Lib.hid hb; clear hb
  have K_6 := Lib.hid (K_2.out.keep S_5.out)
  have O_7 := Lib.hid (O_3.out.below S_5.out)
  have B_8 := Lib.hid (then_ B_4.out S_5.out)
  clear K_2 O_3 B_4
  clear S_5
  clear hat
  have K_9 := Lib.hid (K_6.out.keep (new1 w2 (.cells #[.int .i64 zeroRp.code, .int .i64 zeroRp.who, .int .i64 zeroRp.seq, .int .i64 zeroRp.rev, .int .i64 zeroRp.lease, .int .i64 zeroRp.ttl, .bool zeroRp.yes, .slice Aq0 nq0 cq0, .slice Aq1 nq1 cq1] 40)))
  have O_10 := Lib.hid (O_7.out.below (new1 w2 (.cells #[.int .i64 zeroRp.code, .int .i64 zeroRp.who, .int .i64 zeroRp.seq, .int .i64 zeroRp.rev, .int .i64 zeroRp.lease, .int .i64 zeroRp.ttl, .bool zeroRp.yes, .slice Aq0 nq0 cq0, .slice Aq1 nq1 cq1] 40)))
  have B_11 := Lib.hid (then_ B_8.out (new1 w2 (.cells #[.int .i64 zeroRp.code, .int .i64 zeroRp.who, .int .i64 zeroRp.seq, .int .i64 zeroRp.rev, .int .i64 zeroRp.lease, .int .i64 zeroRp.ttl, .bool zeroRp.yes, .slice Aq0 nq0 cq0, .slice Aq1 nq1 cq1] 40)))
  clear K_6 O_7 B_8
  have f0 := O_10.out.cell 0 _ rfl
  have f1 := O_10.out.cell 1 _ rfl
  have f2 := O_10.out.cell 2 _ rfl
  have f3 := O_10.out.cell 3 _ rfl
  have f4 := O_10.out.cell 4 _ rfl
  have f5 := O_10.out.cell 5 _ rfl
  have f6 := O_10.out.cell 6 _ rfl
  have f7 := O_10.out.cell 7 _ rfl
  have f8 := O_10.out.cell 8 _ rfl
  go_wp2_with fail
  refine (mayTell_any y0 A0 n0 c0 B0 m0 d0 _ K_9.out).mono ?_; rintro e w3 ⟨rfl, hb⟩
  rw [HM.out]
  have S_12 := Lib.hid hb; clear hb
  have K_13 := Lib.hid (K_9.out.keep S_12.out)
  have O_14 := Lib.hid (O_10.out.below S_12.out)
  have B_15 := Lib.hid (then_ B_11.out S_12.out)
  clear K_9 O_10 B_11
  clear S_12
  clear f0 f1 f2 f3 f4 f5 f6 f7 f8
  clear K_13
  clear O_14
  go_wp2_with fail
  refine (told__yes _ HZ.out HA.eq).mono ?_; rintro e w4 ⟨Ap0, np0, cp0, Ap1, np1, cp1, rfl, hat, hb⟩
  have S_16 := Lib.hid hb; clear hb
  have B_17 := Lib.hid (then_ B_15.out S_16.out)
  clear B_15
  clear S_16
  have Kp_18 := Lib.hid (hat)
  clear hat
  have Kp_19 := Lib.hid (Kp_18.out.keep (new1 w4 (.cells #[.int .i64 z.code, .int .i64 z.who, .int .i64 z.seq, .int .i64 z.rev, .int .i64 z.lease, .int .i64 z.ttl, .bool z.yes, .slice Ap0 np0 cp0, .slice Ap1 np1 cp1] 40)))
  have B_20 := Lib.hid (then_ B_17.out (new1 w4 (.cells #[.int .i64 z.code, .int .i64 z.who, .int .i64 z.seq, .int .i64 z.rev, .int .i64 z.lease, .int .i64 z.ttl, .bool z.yes, .slice Ap0 np0 cp0, .slice Ap1 np1 cp1] 40)))
  clear Kp_18 B_17
  go_wp2_with fail
  refine (tell_any z Ap0 np0 cp0 Ap1 np1 cp1 _ Kp_19.out).mono ?_; rintro e w5 ⟨rfl, hb⟩
  rw [HE.out, HB.out]
  have S_21 := Lib.hid hb; clear hb
  have Kp_22 := Lib.hid (Kp_19.out.keep S_21.out)
  have B_23 := Lib.hid (then_ B_20.out S_21.out)
  clear Kp_19 B_20
  clear S_21
  go_wp2_with fail
  refine (live_any _).mono ?_; rintro e w6 ⟨rfl, hb⟩
  have S_24 := Lib.hid hb; clear hb
  have Kp_25 := Lib.hid (Kp_22.out.keep S_24.out)
  have B_26 := Lib.hid (then_ B_23.out S_24.out)
  clear Kp_22 B_23
  clear S_24
  go_wp2
  go_ret
  exact ⟨rfl, B_26.out⟩

theorem go_00 (w : World) (y0 : Rp) (A0 : Option Addr) (n0 c0 : Nat) (B0 : Option Addr) (m0 d0 : Nat) (a1 : ByteArray) (k0 : RpAt w y0 A0 n0 c0 B0 m0 d0) (w1 : a1.size ≤ maxLen) (hs : fewT 40 shKV y0.kvs = true) (hs2 : fewT 40 shEv y0.evs = true) (hz : a1.size ≤ 3000) (hm : mayTellB y0 = false) (ha : toldB a1 = none) :
    Calls Try.prog 6 #[y0.agg A0 n0 c0 B0 m0 d0, .string a1] w fun e w' => e = .returned (.bool true) ∧ Below w.heap.size w w' := by
  have HS := Lib.hid hs; clear hs
  have HS2 := Lib.hid hs2; clear hs2
  have HM := Lib.hid hm; clear hm
  have HZ := Lib.hid (show a1.size ≤ 1000000 by omega); clear w1
  have HA : ToldIs a1 none := ⟨ha⟩; clear ha
  have K_0 := Lib.hid (k0.keep (new1 w (.cells #[.int .i64 y0.code, .int .i64 y0.who, .int .i64 y0.seq, .int .i64 y0.rev, .int .i64 y0.lease, .int .i64 y0.ttl, .bool y0.yes, .slice A0 n0 c0, .slice B0 m0 d0] 40)))
  have O_0 := Lib.hid (own_new w #[.int .i64 y0.code, .int .i64 y0.who, .int .i64 y0.seq, .int .i64 y0.rev, .int .i64 y0.lease, .int .i64 y0.ttl, .bool y0.yes, .slice A0 n0 c0, .slice B0 m0 d0] 40)
  have B_0 := Lib.hid (new1 w (.cells #[.int .i64 y0.code, .int .i64 y0.who, .int .i64 y0.seq, .int .i64 y0.rev, .int .i64 y0.lease, .int .i64 y0.ttl, .bool y0.yes, .slice A0 n0 c0, .slice B0 m0 d0] 40))
  clear k0
  go_enter Try.func6, Try.ntmps6
  go_wp2_with fail
  refine (few_rows A0 n0 c0 y0.kvs 40 _ K_0.out.r0 K_0.out.ok.kvs (by omega)).mono ?_; rintro e w' ⟨rfl, rfl⟩
  rw [HS.out]
  go_wp2_with fail
  refine (fewe_rows B0 m0 d0 y0.evs 40 _ K_0.out.r1 K_0.out.ok.evs (by omega)).mono ?_; rintro e w' ⟨rfl, rfl⟩
  rw [HS2.out]
  go_wp2_with fail
  refine (tell_any y0 A0 n0 c0 B0 m0 d0 _ K_0.out).mono ?_; rintro e w1 ⟨rfl, hb⟩
  rw [tellB_no HM.out, HM.out]
  have S_1 := Lib.hid hb; clear hb
  have K_2 := Lib.hid (K_0.out.keep S_1.out)
  have O_3 := Lib.hid (O_0.out.below S_1.out)
  have B_4 := Lib.hid (then_ B_0.out S_1.out)
  clear K_0 O_0 B_0
  clear S_1
  go_wp2_with fail
  refine (told__no _ (by decide) told_nil).mono ?_; rintro e w2 ⟨Aq0, nq0, cq0, Aq1, nq1, cq1, rfl, hat, hb⟩
  have S_5 := Lib.hid hb; clear hb
  have K_6 := Lib.hid (K_2.out.keep S_5.out)
  have O_7 := Lib.hid (O_3.out.below S_5.out)
  have B_8 := Lib.hid (then_ B_4.out S_5.out)
  clear K_2 O_3 B_4
  clear S_5
  clear hat
  have K_9 := Lib.hid (K_6.out.keep (new1 w2 (.cells #[.int .i64 zeroRp.code, .int .i64 zeroRp.who, .int .i64 zeroRp.seq, .int .i64 zeroRp.rev, .int .i64 zeroRp.lease, .int .i64 zeroRp.ttl, .bool zeroRp.yes, .slice Aq0 nq0 cq0, .slice Aq1 nq1 cq1] 40)))
  have O_10 := Lib.hid (O_7.out.below (new1 w2 (.cells #[.int .i64 zeroRp.code, .int .i64 zeroRp.who, .int .i64 zeroRp.seq, .int .i64 zeroRp.rev, .int .i64 zeroRp.lease, .int .i64 zeroRp.ttl, .bool zeroRp.yes, .slice Aq0 nq0 cq0, .slice Aq1 nq1 cq1] 40)))
  have B_11 := Lib.hid (then_ B_8.out (new1 w2 (.cells #[.int .i64 zeroRp.code, .int .i64 zeroRp.who, .int .i64 zeroRp.seq, .int .i64 zeroRp.rev, .int .i64 zeroRp.lease, .int .i64 zeroRp.ttl, .bool zeroRp.yes, .slice Aq0 nq0 cq0, .slice Aq1 nq1 cq1] 40)))
  clear K_6 O_7 B_8
  have f0 := O_10.out.cell 0 _ rfl
  have f1 := O_10.out.cell 1 _ rfl
  have f2 := O_10.out.cell 2 _ rfl
  have f3 := O_10.out.cell 3 _ rfl
  have f4 := O_10.out.cell 4 _ rfl
  have f5 := O_10.out.cell 5 _ rfl
  have f6 := O_10.out.cell 6 _ rfl
  have f7 := O_10.out.cell 7 _ rfl
  have f8 := O_10.out.cell 8 _ rfl
  go_wp2_with fail
  refine (mayTell_any y0 A0 n0 c0 B0 m0 d0 _ K_9.out).mono ?_; rintro e w3 ⟨rfl, hb⟩
  rw [HM.out]
  have S_12 := Lib.hid hb; clear hb
  have K_13 := Lib.hid (K_9.out.keep S_12.out)
  have O_14 := Lib.hid (O_10.out.below S_12.out)
  have B_15 := Lib.hid (then_ B_11.out S_12.out)
  clear K_9 O_10 B_11
  clear S_12
  clear f0 f1 f2 f3 f4 f5 f6 f7 f8
  clear K_13
  clear O_14
  go_wp2_with fail
  refine (told__no _ HZ.out HA.eq).mono ?_; rintro e w4 ⟨Ap0, np0, cp0, Ap1, np1, cp1, rfl, hat, hb⟩
  have S_16 := Lib.hid hb; clear hb
  have B_17 := Lib.hid (then_ B_15.out S_16.out)
  clear B_15
  clear S_16
  have Kp_18 := Lib.hid (hat)
  clear hat
  have Kp_19 := Lib.hid (Kp_18.out.keep (new1 w4 (.cells #[.int .i64 zeroRp.code, .int .i64 zeroRp.who, .int .i64 zeroRp.seq, .int .i64 zeroRp.rev, .int .i64 zeroRp.lease, .int .i64 zeroRp.ttl, .bool zeroRp.yes, .slice Ap0 np0 cp0, .slice Ap1 np1 cp1] 40)))
  have B_20 := Lib.hid (then_ B_17.out (new1 w4 (.cells #[.int .i64 zeroRp.code, .int .i64 zeroRp.who, .int .i64 zeroRp.seq, .int .i64 zeroRp.rev, .int .i64 zeroRp.lease, .int .i64 zeroRp.ttl, .bool zeroRp.yes, .slice Ap0 np0 cp0, .slice Ap1 np1 cp1] 40)))
  clear Kp_18 B_17
  go_wp2_with fail
  refine (tell_any zeroRp Ap0 np0 cp0 Ap1 np1 cp1 _ Kp_19.out).mono ?_; rintro e w5 ⟨rfl, hb⟩
  rw [rz_may]
  have S_21 := Lib.hid hb; clear hb
  have Kp_22 := Lib.hid (Kp_19.out.keep S_21.out)
  have B_23 := Lib.hid (then_ B_20.out S_21.out)
  clear Kp_19 B_20
  clear S_21
  go_wp2_with fail
  refine (live_any _).mono ?_; rintro e w6 ⟨rfl, hb⟩
  have S_24 := Lib.hid hb; clear hb
  have Kp_25 := Lib.hid (Kp_22.out.keep S_24.out)
  have B_26 := Lib.hid (then_ B_23.out S_24.out)
  clear Kp_22 B_23
  clear S_24
  go_wp2
  go_ret
  exact ⟨rfl, B_26.out⟩

theorem walk (w : World) (y0 : Rp) (A0 : Option Addr) (n0 c0 : Nat) (B0 : Option Addr) (m0 d0 : Nat) (a1 : ByteArray) (k0 : RpAt w y0 A0 n0 c0 B0 m0 d0) (w1 : a1.size ≤ maxLen) :
    Calls Try.prog 6 #[y0.agg A0 n0 c0 B0 m0 d0, .string a1] w fun e w' => e = .returned (.bool true) ∧ Below w.heap.size w w' := by
  cases hs : fewT 40 shKV y0.kvs with
  | false => exact long0 w y0 A0 n0 c0 B0 m0 d0 a1 k0 w1 hs
  | true =>
    cases hs2 : fewT 40 shEv y0.evs with
    | false => exact long1 w y0 A0 n0 c0 B0 m0 d0 a1 k0 w1 hs hs2
    | true =>
      by_cases hz : a1.size ≤ 3000
      · cases hm : mayTellB y0 with
        | true =>
          cases ha : toldB a1 with
          | none => exact go_10 w y0 A0 n0 c0 B0 m0 d0 a1 k0 w1 hs hs2 hz hm ha
          | some z => exact go_11 w y0 A0 n0 c0 B0 m0 d0 a1 k0 w1 hs hs2 hz hm z ha
        | false =>
          cases ha : toldB a1 with
          | none => exact go_00 w y0 A0 n0 c0 B0 m0 d0 a1 k0 w1 hs hs2 hz hm ha
          | some z => exact go_01 w y0 A0 n0 c0 B0 m0 d0 a1 k0 w1 hs hs2 hz hm z ha
      · exact wide w y0 A0 n0 c0 B0 m0 d0 a1 k0 w1 hs hs2 hz

theorem own : ownKnob Try.prog.godebug = none := by kernel_rfl
theorem laidOut : laidOutB Try.prog = true := by kernel_rfl

set_option maxRecDepth 100000 in
theorem lifted (os : Os) (started : os.Started) (H : Type) (enc : TypeId × Value → H) :
    ReturnsInHanded {} Try.checked os 6 .any (Rows.wireRepliesSpec.pre6 enc Try.prog Try.f6 Rows.wireRepliesRow.domain false) (Rows.wireRepliesSpec.post enc Try.prog Try.f6 false true false false) := by
  refine returnsInHanded_of_change (C := Try.checked) own started (by kernel_rfl) Try.func6
    (ChangeSpec.witness6 (enc := enc) (C := Try.checked) false ⟨#[], #[.agg #[.int .i64 0, .int .i64 0, .int .i64 0, .int .i64 0, .int .i64 0, .int .i64 0, .bool false, .slice none 0 0, .slice none 0 0], .string ByteArray.empty], []⟩ 8 (by kernel_rfl) (by kernel_rfl) (by kernel_rfl) (by kernel_rfl)) ?_
  intro W base args ds gs before hval0 hW hcnd _
  have hval : ∀ (j : Nat) t v, Try.f6.params[j]? = some t → args[j]? = some v → Value.okWide Try.prog W .any base t v := hval0
  have hW' := hW
  obtain ⟨p, q, hA0, hV, rfl, hfz, hnd⟩ := hW
  have hA : DataW.TrodAll enc Try.prog W 0 (fun _ => true) true Try.f6.params.toList args.toList ds p := hA0
  rw [Try.params6] at hA hval
  obtain ⟨v0, vs0, d0, ds0, p0, q0, hargs, rfl, rfl, h0, r0⟩ := trodAll_cons hA
  obtain ⟨v1, vs1, d1, ds1, p1, q1, rfl, rfl, rfl, h1, r1⟩ := trodAll_cons r0
  obtain ⟨rfl, rfl, rfl⟩ := trodAll_nil r1
  obtain rfl : args = #[v0, v1] := by cases args; simp_all
  obtain ⟨rfl, rfl⟩ := trodVars_none hV
  obtain ⟨y0, A0, n0, c0, B0, m0, d0, rfl, k0⟩ := open_rp (hval 0 40 v0 rfl rfl) h0
  obtain ⟨a1, rfl, rfl, rfl, w1⟩ := open_string Try.underlying9 (hval 1 9 v1 rfl rfl) h1
  clear hA0 hval0
  refine (walk W y0 A0 n0 c0 B0 m0 d0 a1 k0 w1).mono fun e W' ⟨he, bel⟩ => ?_
  subst he
  exact ⟨_, rfl, _, _, _, [], _, [], hW', trodAll_mk1 (shut_bool Try.underlying4 _), (trodAll_cons_mk (Below.trod laidOut (by kernel_rfl) (of_decide_eq_true (by kernel_rfl)) h0 bel (fun x hx => hW'.lt x (by simp [hx]))) (trodAll_cons_mk (shut_string Try.underlying9 w1) trodAll_mk0)), rfl, bel.frame _, fun h => by cases h⟩

theorem over : Rows.wireRepliesRow.holds Try.pinned (OpenSpec.ofChange Rows.wireRepliesSpec) :=
  OpenClaim.holds_of_wide 6 Try.f6 rfl rfl rfl rfl rfl rfl rfl ⟨rfl, rfl, rfl, rfl, rfl⟩ rfl rfl rfl rfl rfl (by kernel_rfl) Try.func6 (by kernel_rfl)
    (of_decide_eq_true (by kernel_rfl)) (by unfold Func.isWrapper; first | (rw [if_pos (by decide +kernel)]; kernel_rfl) | (rw [if_neg (by decide +kernel)]; exact ⟨rfl, rfl⟩))
    (fun os started H enc _ => lifted os started H enc)

theorem proved : Rows.WireRepliesSaid := over
#print axioms proved
end Go.Proofs.Ytlmjkidppffpcab.wireReplies
