/- For every resource and every request the law FenceBytes answers true: what comes of its bytes is what comes of the write; other bytes change nothing. -/
import Derived.Test.YtimbklggifbibaaDoorFeLaid
import Derived.Test.YtimbklggifbibaaDoorKeyTwo
import Derived.Test.YtimbklggifbibaaDoorFeOpen
import Derived.Test.YtimbklggifbibaaDoorFeLive
import Derived.Test.YtimbklggifbibaaDoorWireSame
namespace Go.Proofs.YtimbklggifbibaaDoor.fenceBytes
open Go.ChangeShapes Go.WideShapes Go.ChangeAt Go.RowKit Go.Sort Go.Proofs.YtimbklggifbibaaDoor.P
open Go.ChangeMaps (open_string shut_string)
set_option linter.unusedVariables false
set_option linter.unusedSimpArgs false
set_option maxHeartbeats 4000000
set_option maxRecDepth 100000

theorem wof_yes {y : Rq} (h : mayAskB y = true) (hk : y.kind = 8) : wofB (askB y) = some ⟨y.who, y.token, y.val⟩ := by
  have h1 : askedV (askB y) = (y, true) := by unfold askedV; rw [asked_ask h]
  unfold wofB; rw [h1]; exact if_pos ⟨rfl, hk⟩
theorem wof_is {y : Rq} (h : mayAskB y = true) (hk : y.kind = 8) : WofIs (askB y) (some ⟨y.who, y.token, y.val⟩) := ⟨wof_yes h hk⟩
theorem wof_no {y : Rq} (h : ¬ (mayAskB y = true ∧ y.kind = 8)) : wofB (askB y) = none := by
  cases hm : mayAskB y with
  | true =>
    have h1 : askedV (askB y) = (y, true) := by unfold askedV; rw [asked_ask hm]
    unfold wofB; rw [h1]; exact if_neg (fun hh => h ⟨hm, hh.2⟩)
  | false =>
    have h1 : askedV (askB y) = (zeroRq, false) := by unfold askedV; rw [askB_no hm, asked_nil]
    unfold wofB; rw [h1]; exact if_neg (fun hh => by simp at hh)
theorem long (w : World) (r : Rs) (A : Option Addr) (n c : Nat) (y : Rq) (A0 : Option Addr) (n0 c0 : Nat) (A1 : Option Addr) (n1 c1 : Nat) (A2 : Option Addr) (n2 c2 : Nat) (k : RsAt w r A n c) (kq : RqAt w y A0 n0 c0 A1 n1 c1 A2 n2 c2) (s : Nat → Addr) (hS : Sents w s) (hn : n > 60) :
    Calls Tryd.prog 5 #[r.agg A n c, y.agg A0 n0 c0 A1 n1 c1 A2 n2 c2] w fun e w' => e = .returned (.bool true) ∧ Below w.heap.size w w' := by
  have S0 := Lib.hid hS
  clear hS
  have B0 := Lib.hid (then_ (new1 w (.cells #[.int .i64 r.high, .string r.val, .slice A n c] 24)) (new1 (w.alloc (.cells #[.int .i64 r.high, .string r.val, .slice A n c] 24)) (.cells #[.int .i64 y.kind, .int .i64 y.who, .int .i64 y.seq, .bool y.once, .string y.key, .string y.val, .int .i64 y.lease, .int .i64 y.rev, .int .i64 y.ttl, .int .i64 y.token, .slice A0 n0 c0, .slice A1 n1 c1, .slice A2 n2 c2] 43)))
  have X0 := Lib.hid ((own_new w #[.int .i64 r.high, .string r.val, .slice A n c] 24).alloc (.cells #[.int .i64 y.kind, .int .i64 y.who, .int .i64 y.seq, .bool y.once, .string y.key, .string y.val, .int .i64 y.lease, .int .i64 y.rev, .int .i64 y.ttl, .int .i64 y.token, .slice A0 n0 c0, .slice A1 n1 c1, .slice A2 n2 c2] 43))
  have Q0 := Lib.hid (own_nxt w (.cells #[.int .i64 r.high, .string r.val, .slice A n c] 24) #[.int .i64 y.kind, .int .i64 y.who, .int .i64 y.seq, .bool y.once, .string y.key, .string y.val, .int .i64 y.lease, .int .i64 y.rev, .int .i64 y.ttl, .int .i64 y.token, .slice A0 n0 c0, .slice A1 n1 c1, .slice A2 n2 c2] 43)
  have K0 := Lib.hid (k.keep B0.out)
  have KQ0 := Lib.hid (kq.keep B0.out)
  clear k kq
  have h1 : (n : Int) > 60 := by omega
  go_enter Tryd.func5, Tryd.ntmps5
  go_wp2_with fail
  refine (live_any s _ (S0.out.keep B0.out)).mono ?_; rintro e w1 ⟨rfl, hb⟩
  have hz := B0.out.trans (hb.mono B0.out.size)
  have B1 := Lib.hid hz
  have X1 := Lib.hid (X0.out.bel hb)
  have Q1 := Lib.hid (Q0.out.bel hb)
  have K1 := Lib.hid (K0.out.keep hb)
  have KQ1 := Lib.hid (KQ0.out.keep hb)
  clear hb hz X0 Q0 K0 KQ0 B0
  go_wp2
  go_ret
  exact ⟨rfl, B1.out⟩
theorem wide (w : World) (r : Rs) (A : Option Addr) (n c : Nat) (y : Rq) (A0 : Option Addr) (n0 c0 : Nat) (A1 : Option Addr) (n1 c1 : Nat) (A2 : Option Addr) (n2 c2 : Nat) (k : RsAt w r A n c) (kq : RqAt w y A0 n0 c0 A1 n1 c1 A2 n2 c2) (s : Nat → Addr) (hS : Sents w s) (hn : ¬ n > 60) (hs : shortQ y = false) :
    Calls Tryd.prog 5 #[r.agg A n c, y.agg A0 n0 c0 A1 n1 c1 A2 n2 c2] w fun e w' => e = .returned (.bool true) ∧ Below w.heap.size w w' := by
  have S0 := Lib.hid hS
  clear hS
  have B0 := Lib.hid (then_ (new1 w (.cells #[.int .i64 r.high, .string r.val, .slice A n c] 24)) (new1 (w.alloc (.cells #[.int .i64 r.high, .string r.val, .slice A n c] 24)) (.cells #[.int .i64 y.kind, .int .i64 y.who, .int .i64 y.seq, .bool y.once, .string y.key, .string y.val, .int .i64 y.lease, .int .i64 y.rev, .int .i64 y.ttl, .int .i64 y.token, .slice A0 n0 c0, .slice A1 n1 c1, .slice A2 n2 c2] 43)))
  have X0 := Lib.hid ((own_new w #[.int .i64 r.high, .string r.val, .slice A n c] 24).alloc (.cells #[.int .i64 y.kind, .int .i64 y.who, .int .i64 y.seq, .bool y.once, .string y.key, .string y.val, .int .i64 y.lease, .int .i64 y.rev, .int .i64 y.ttl, .int .i64 y.token, .slice A0 n0 c0, .slice A1 n1 c1, .slice A2 n2 c2] 43))
  have Q0 := Lib.hid (own_nxt w (.cells #[.int .i64 r.high, .string r.val, .slice A n c] 24) #[.int .i64 y.kind, .int .i64 y.who, .int .i64 y.seq, .bool y.once, .string y.key, .string y.val, .int .i64 y.lease, .int .i64 y.rev, .int .i64 y.ttl, .int .i64 y.token, .slice A0 n0 c0, .slice A1 n1 c1, .slice A2 n2 c2] 43)
  have K0 := Lib.hid (k.keep B0.out)
  have KQ0 := Lib.hid (kq.keep B0.out)
  clear k kq
  have h1 : ¬ (n : Int) > 60 := by omega
  have q_0 := Q0.out.cell 0 _ rfl
  have q_1 := Q0.out.cell 1 _ rfl
  have q_2 := Q0.out.cell 2 _ rfl
  have q_3 := Q0.out.cell 3 _ rfl
  have q_4 := Q0.out.cell 4 _ rfl
  have q_5 := Q0.out.cell 5 _ rfl
  have q_6 := Q0.out.cell 6 _ rfl
  have q_7 := Q0.out.cell 7 _ rfl
  have q_8 := Q0.out.cell 8 _ rfl
  have q_9 := Q0.out.cell 9 _ rfl
  have q_10 := Q0.out.cell 10 _ rfl
  have q_11 := Q0.out.cell 11 _ rfl
  have q_12 := Q0.out.cell 12 _ rfl
  go_enter Tryd.func5, Tryd.ntmps5
  go_wp2_with fail
  refine (short_any y A0 n0 c0 A1 n1 c1 A2 n2 c2 _ KQ0.out).mono ?_; rintro e w1 ⟨rfl, hb⟩
  rw [hs]
  have hz := B0.out.trans (hb.mono B0.out.size)
  have B1 := Lib.hid hz
  have X1 := Lib.hid (X0.out.bel hb)
  have Q1 := Lib.hid (Q0.out.bel hb)
  have K1 := Lib.hid (K0.out.keep hb)
  have KQ1 := Lib.hid (KQ0.out.keep hb)
  clear hb hz X0 Q0 K0 KQ0 B0 q_0 q_1 q_2 q_3 q_4 q_5 q_6 q_7 q_8 q_9 q_10 q_11 q_12
  go_wp2_with fail
  refine (live_any s _ (S0.out.keep B1.out)).mono ?_; rintro e w2 ⟨rfl, hb⟩
  have hz := B1.out.trans (hb.mono B1.out.size)
  have B2 := Lib.hid hz
  have X2 := Lib.hid (X1.out.bel hb)
  have Q2 := Lib.hid (Q1.out.bel hb)
  have K2 := Lib.hid (K1.out.keep hb)
  have KQ2 := Lib.hid (KQ1.out.keep hb)
  clear hb hz X1 Q1 K1 KQ1 B1
  go_wp2
  go_ret
  exact ⟨rfl, B2.out⟩
theorem writes (w : World) (r : Rs) (A : Option Addr) (n c : Nat) (y : Rq) (A0 : Option Addr) (n0 c0 : Nat) (A1 : Option Addr) (n1 c1 : Nat) (A2 : Option Addr) (n2 c2 : Nat) (k : RsAt w r A n c) (kq : RqAt w y A0 n0 c0 A1 n1 c1 A2 n2 c2) (s : Nat → Addr) (hS : Sents w s) (hn : ¬ n > 60) (hs : shortQ y = true) (hm : mayAskB y = true) (hk : y.kind = 8) :
    Calls Tryd.prog 5 #[r.agg A n c, y.agg A0 n0 c0 A1 n1 c1 A2 n2 c2] w fun e w' => e = .returned (.bool true) ∧ Below w.heap.size w w' := by
  have HK := Lib.hid hk
  have HWY := wof_is hm hk
  clear hk
  have S0 := Lib.hid hS
  clear hS
  have B0 := Lib.hid (then_ (new1 w (.cells #[.int .i64 r.high, .string r.val, .slice A n c] 24)) (new1 (w.alloc (.cells #[.int .i64 r.high, .string r.val, .slice A n c] 24)) (.cells #[.int .i64 y.kind, .int .i64 y.who, .int .i64 y.seq, .bool y.once, .string y.key, .string y.val, .int .i64 y.lease, .int .i64 y.rev, .int .i64 y.ttl, .int .i64 y.token, .slice A0 n0 c0, .slice A1 n1 c1, .slice A2 n2 c2] 43)))
  have X0 := Lib.hid ((own_new w #[.int .i64 r.high, .string r.val, .slice A n c] 24).alloc (.cells #[.int .i64 y.kind, .int .i64 y.who, .int .i64 y.seq, .bool y.once, .string y.key, .string y.val, .int .i64 y.lease, .int .i64 y.rev, .int .i64 y.ttl, .int .i64 y.token, .slice A0 n0 c0, .slice A1 n1 c1, .slice A2 n2 c2] 43))
  have Q0 := Lib.hid (own_nxt w (.cells #[.int .i64 r.high, .string r.val, .slice A n c] 24) #[.int .i64 y.kind, .int .i64 y.who, .int .i64 y.seq, .bool y.once, .string y.key, .string y.val, .int .i64 y.lease, .int .i64 y.rev, .int .i64 y.ttl, .int .i64 y.token, .slice A0 n0 c0, .slice A1 n1 c1, .slice A2 n2 c2] 43)
  have K0 := Lib.hid (k.keep B0.out)
  have KQ0 := Lib.hid (kq.keep B0.out)
  clear k kq
  have h1 : ¬ (n : Int) > 60 := by omega
  have q_0 := Q0.out.cell 0 _ rfl
  have q_1 := Q0.out.cell 1 _ rfl
  have q_2 := Q0.out.cell 2 _ rfl
  have q_3 := Q0.out.cell 3 _ rfl
  have q_4 := Q0.out.cell 4 _ rfl
  have q_5 := Q0.out.cell 5 _ rfl
  have q_6 := Q0.out.cell 6 _ rfl
  have q_7 := Q0.out.cell 7 _ rfl
  have q_8 := Q0.out.cell 8 _ rfl
  have q_9 := Q0.out.cell 9 _ rfl
  have q_10 := Q0.out.cell 10 _ rfl
  have q_11 := Q0.out.cell 11 _ rfl
  have q_12 := Q0.out.cell 12 _ rfl
  go_enter Tryd.func5, Tryd.ntmps5
  go_wp2_with fail
  refine (short_any y A0 n0 c0 A1 n1 c1 A2 n2 c2 _ KQ0.out).mono ?_; rintro e w1 ⟨rfl, hb⟩
  rw [hs]
  have hz := B0.out.trans (hb.mono B0.out.size)
  have B1 := Lib.hid hz
  have X1 := Lib.hid (X0.out.bel hb)
  have Q1 := Lib.hid (Q0.out.bel hb)
  have K1 := Lib.hid (K0.out.keep hb)
  have KQ1 := Lib.hid (KQ0.out.keep hb)
  clear hb hz X0 Q0 K0 KQ0 B0 q_0 q_1 q_2 q_3 q_4 q_5 q_6 q_7 q_8 q_9 q_10 q_11 q_12
  have q_0 := Q1.out.cell 0 _ rfl
  have q_1 := Q1.out.cell 1 _ rfl
  have q_2 := Q1.out.cell 2 _ rfl
  have q_3 := Q1.out.cell 3 _ rfl
  have q_4 := Q1.out.cell 4 _ rfl
  have q_5 := Q1.out.cell 5 _ rfl
  have q_6 := Q1.out.cell 6 _ rfl
  have q_7 := Q1.out.cell 7 _ rfl
  have q_8 := Q1.out.cell 8 _ rfl
  have q_9 := Q1.out.cell 9 _ rfl
  have q_10 := Q1.out.cell 10 _ rfl
  have q_11 := Q1.out.cell 11 _ rfl
  have q_12 := Q1.out.cell 12 _ rfl
  go_wp2_with fail
  refine (ask_any y A0 n0 c0 A1 n1 c1 A2 n2 c2 _ KQ1.out).mono ?_; rintro e w2 ⟨rfl, hb⟩
  have hz := B1.out.trans (hb.mono B1.out.size)
  have B2 := Lib.hid hz
  have X2 := Lib.hid (X1.out.bel hb)
  have Q2 := Lib.hid (Q1.out.bel hb)
  have K2 := Lib.hid (K1.out.keep hb)
  have KQ2 := Lib.hid (KQ1.out.keep hb)
  clear hb hz X1 Q1 K1 KQ1 B1 q_0 q_1 q_2 q_3 q_4 q_5 q_6 q_7 q_8 q_9 q_10 q_11 q_12
  rw [hm]
  have HD : DoIs r (askB y) (wrR r ⟨y.who, y.token, y.val⟩) (wrE r ⟨y.who, y.token, y.val⟩) := ⟨(do_some HWY.eq).2, (do_some HWY.eq).1⟩
  have hsz := ask_le y
  have cD := Lib.hid (do_any r A n c (askB y) s w2 K2.out (S0.out.keep B2.out) hsz)
  rw [HD.st, HD.no] at cD
  have HLEN : Hid ((wrR r ⟨y.who, y.token, y.val⟩).log.length ≤ 61) := Lib.hid (by have := K2.out.len; unfold wrR; split <;> simp <;> omega)
  have VW : Hid (∀ V, RsAt V r A n c → Sents V s → Calls Tryd.prog 8 #[r.agg A n c, .int .i64 y.who, .int .i64 y.token, .string y.val] V (RsEnd (wrR r ⟨y.who, y.token, y.val⟩) (wrE r ⟨y.who, y.token, y.val⟩) A n c V)) := Lib.hid (fun V hV hS => write_any r A n c ⟨y.who, y.token, y.val⟩ s V hV hS)
  clear HD hsz HWY
  generalize askB y = bts at *
  generalize wrR r ⟨y.who, y.token, y.val⟩ = r2 at *
  generalize wrE r ⟨y.who, y.token, y.val⟩ = er at *
  obtain ⟨h9, v9, l9⟩ := r2
  have x_0 := X2.out.cell 0 _ rfl
  have x_1 := X2.out.cell 1 _ rfl
  have x_2 := X2.out.cell 2 _ rfl
  go_wp2_with fail
  refine (cD.out).mono ?_; rintro e w3 ⟨A3, n3, c3, rfl, hat, hb, -⟩
  have bN := new1 w3 (.cells #[.int .i64 h9, .string v9, .slice A3 n3 c3] 24)
  have hz := B2.out.trans (hb.mono B2.out.size)
  have B3 := Lib.hid (hz.trans (bN.mono hz.size))
  have X3 := Lib.hid ((X2.out.bel hb).bel bN)
  have Q3 := Lib.hid ((Q2.out.bel hb).bel bN)
  have K3 := Lib.hid ((K2.out.keep hb).keep bN)
  have KQ3 := Lib.hid ((KQ2.out.keep hb).keep bN)
  have T3 := Lib.hid ((hat).keep bN)
  have P3 := Lib.hid (own_new w3 #[.int .i64 h9, .string v9, .slice A3 n3 c3] 24)
  clear hb hz bN X2 Q2 K2 KQ2 B2 x_0 x_1 x_2
  clear cD hat
  have hk2 : (y.kind != 8) = false := by rw [HK.out]; rfl
  have x_0 := X3.out.cell 0 _ rfl
  have x_1 := X3.out.cell 1 _ rfl
  have x_2 := X3.out.cell 2 _ rfl
  have q_0 := Q3.out.cell 0 _ rfl
  have q_1 := Q3.out.cell 1 _ rfl
  have q_5 := Q3.out.cell 5 _ rfl
  have q_9 := Q3.out.cell 9 _ rfl
  go_wp2_with fail
  refine (VW.out _ K3.out (S0.out.keep B3.out)).mono ?_; rintro e w4 ⟨A4, n4, c4, rfl, hat, hb, -⟩
  have bN := new1 w4 (.cells #[.int .i64 h9, .string v9, .slice A4 n4 c4] 24)
  have hz := B3.out.trans (hb.mono B3.out.size)
  have B4 := Lib.hid (hz.trans (bN.mono hz.size))
  have X4 := Lib.hid ((X3.out.bel hb).bel bN)
  have Q4 := Lib.hid ((Q3.out.bel hb).bel bN)
  have P4 := Lib.hid ((P3.out.bel hb).bel bN)
  have K4 := Lib.hid ((K3.out.keep hb).keep bN)
  have KQ4 := Lib.hid ((KQ3.out.keep hb).keep bN)
  have T4 := Lib.hid ((T3.out.keep hb).keep bN)
  have U4 := Lib.hid ((hat).keep bN)
  have R4 := Lib.hid (own_new w4 #[.int .i64 h9, .string v9, .slice A4 n4 c4] 24)
  clear hb hz bN X3 Q3 P3 K3 KQ3 T3 B3 x_0 x_1 x_2 q_0 q_1 q_5 q_9
  clear hat
  have hn3 : n3 ≤ 1000000 := by have := T4.out.len; have := HLEN.out; simp only at *; omega
  have cS := Lib.hid (samer_any ⟨h9, v9, l9⟩ ⟨h9, v9, l9⟩ A3 A4 n3 c3 n4 c4 _ T4.out U4.out hn3)
  rw [sameR_self] at cS
  have p_0 := P4.out.cell 0 _ rfl
  have p_1 := P4.out.cell 1 _ rfl
  have p_2 := P4.out.cell 2 _ rfl
  have r_0 := R4.out.cell 0 _ rfl
  have r_1 := R4.out.cell 1 _ rfl
  have r_2 := R4.out.cell 2 _ rfl
  go_wp2_with fail
  refine (cS.out).mono ?_; rintro e w5 ⟨rfl, hb⟩
  have hz := B4.out.trans (hb.mono B4.out.size)
  have B5 := Lib.hid hz
  have X5 := Lib.hid (X4.out.bel hb)
  have Q5 := Lib.hid (Q4.out.bel hb)
  have P5 := Lib.hid (P4.out.bel hb)
  have R5 := Lib.hid (R4.out.bel hb)
  have K5 := Lib.hid (K4.out.keep hb)
  have KQ5 := Lib.hid (KQ4.out.keep hb)
  have T5 := Lib.hid (T4.out.keep hb)
  have U5 := Lib.hid (U4.out.keep hb)
  clear hb hz X4 Q4 P4 R4 K4 KQ4 T4 U4 B4 p_0 p_1 p_2 r_0 r_1 r_2
  clear cS
  have hee : (er == er) = true := by simp
  go_wp2_with fail
  refine (live_any s _ (S0.out.keep B5.out)).mono ?_; rintro e w6 ⟨rfl, hb⟩
  have hz := B5.out.trans (hb.mono B5.out.size)
  have B6 := Lib.hid hz
  have X6 := Lib.hid (X5.out.bel hb)
  have Q6 := Lib.hid (Q5.out.bel hb)
  have P6 := Lib.hid (P5.out.bel hb)
  have R6 := Lib.hid (R5.out.bel hb)
  have K6 := Lib.hid (K5.out.keep hb)
  have KQ6 := Lib.hid (KQ5.out.keep hb)
  have T6 := Lib.hid (T5.out.keep hb)
  have U6 := Lib.hid (U5.out.keep hb)
  clear hb hz X5 Q5 P5 R5 K5 KQ5 T5 U5 B5
  go_wp2
  go_ret
  exact ⟨rfl, B6.out⟩
theorem nobody (w : World) (r : Rs) (A : Option Addr) (n c : Nat) (y : Rq) (A0 : Option Addr) (n0 c0 : Nat) (A1 : Option Addr) (n1 c1 : Nat) (A2 : Option Addr) (n2 c2 : Nat) (k : RsAt w r A n c) (kq : RqAt w y A0 n0 c0 A1 n1 c1 A2 n2 c2) (s : Nat → Addr) (hS : Sents w s) (hn : ¬ n > 60) (hs : shortQ y = true) (hm : mayAskB y = false) :
    Calls Tryd.prog 5 #[r.agg A n c, y.agg A0 n0 c0 A1 n1 c1 A2 n2 c2] w fun e w' => e = .returned (.bool true) ∧ Below w.heap.size w w' := by
  have S0 := Lib.hid hS
  clear hS
  have B0 := Lib.hid (then_ (new1 w (.cells #[.int .i64 r.high, .string r.val, .slice A n c] 24)) (new1 (w.alloc (.cells #[.int .i64 r.high, .string r.val, .slice A n c] 24)) (.cells #[.int .i64 y.kind, .int .i64 y.who, .int .i64 y.seq, .bool y.once, .string y.key, .string y.val, .int .i64 y.lease, .int .i64 y.rev, .int .i64 y.ttl, .int .i64 y.token, .slice A0 n0 c0, .slice A1 n1 c1, .slice A2 n2 c2] 43)))
  have X0 := Lib.hid ((own_new w #[.int .i64 r.high, .string r.val, .slice A n c] 24).alloc (.cells #[.int .i64 y.kind, .int .i64 y.who, .int .i64 y.seq, .bool y.once, .string y.key, .string y.val, .int .i64 y.lease, .int .i64 y.rev, .int .i64 y.ttl, .int .i64 y.token, .slice A0 n0 c0, .slice A1 n1 c1, .slice A2 n2 c2] 43))
  have Q0 := Lib.hid (own_nxt w (.cells #[.int .i64 r.high, .string r.val, .slice A n c] 24) #[.int .i64 y.kind, .int .i64 y.who, .int .i64 y.seq, .bool y.once, .string y.key, .string y.val, .int .i64 y.lease, .int .i64 y.rev, .int .i64 y.ttl, .int .i64 y.token, .slice A0 n0 c0, .slice A1 n1 c1, .slice A2 n2 c2] 43)
  have K0 := Lib.hid (k.keep B0.out)
  have KQ0 := Lib.hid (kq.keep B0.out)
  clear k kq
  have h1 : ¬ (n : Int) > 60 := by omega
  have q_0 := Q0.out.cell 0 _ rfl
  have q_1 := Q0.out.cell 1 _ rfl
  have q_2 := Q0.out.cell 2 _ rfl
  have q_3 := Q0.out.cell 3 _ rfl
  have q_4 := Q0.out.cell 4 _ rfl
  have q_5 := Q0.out.cell 5 _ rfl
  have q_6 := Q0.out.cell 6 _ rfl
  have q_7 := Q0.out.cell 7 _ rfl
  have q_8 := Q0.out.cell 8 _ rfl
  have q_9 := Q0.out.cell 9 _ rfl
  have q_10 := Q0.out.cell 10 _ rfl
  have q_11 := Q0.out.cell 11 _ rfl
  have q_12 := Q0.out.cell 12 _ rfl
  go_enter Tryd.func5, Tryd.ntmps5
  go_wp2_with fail
  refine (short_any y A0 n0 c0 A1 n1 c1 A2 n2 c2 _ KQ0.out).mono ?_; rintro e w1 ⟨rfl, hb⟩
  rw [hs]
  have hz := B0.out.trans (hb.mono B0.out.size)
  have B1 := Lib.hid hz
  have X1 := Lib.hid (X0.out.bel hb)
  have Q1 := Lib.hid (Q0.out.bel hb)
  have K1 := Lib.hid (K0.out.keep hb)
  have KQ1 := Lib.hid (KQ0.out.keep hb)
  clear hb hz X0 Q0 K0 KQ0 B0 q_0 q_1 q_2 q_3 q_4 q_5 q_6 q_7 q_8 q_9 q_10 q_11 q_12
  have q_0 := Q1.out.cell 0 _ rfl
  have q_1 := Q1.out.cell 1 _ rfl
  have q_2 := Q1.out.cell 2 _ rfl
  have q_3 := Q1.out.cell 3 _ rfl
  have q_4 := Q1.out.cell 4 _ rfl
  have q_5 := Q1.out.cell 5 _ rfl
  have q_6 := Q1.out.cell 6 _ rfl
  have q_7 := Q1.out.cell 7 _ rfl
  have q_8 := Q1.out.cell 8 _ rfl
  have q_9 := Q1.out.cell 9 _ rfl
  have q_10 := Q1.out.cell 10 _ rfl
  have q_11 := Q1.out.cell 11 _ rfl
  have q_12 := Q1.out.cell 12 _ rfl
  go_wp2_with fail
  refine (ask_any y A0 n0 c0 A1 n1 c1 A2 n2 c2 _ KQ1.out).mono ?_; rintro e w2 ⟨rfl, hb⟩
  have hz := B1.out.trans (hb.mono B1.out.size)
  have B2 := Lib.hid hz
  have X2 := Lib.hid (X1.out.bel hb)
  have Q2 := Lib.hid (Q1.out.bel hb)
  have K2 := Lib.hid (K1.out.keep hb)
  have KQ2 := Lib.hid (KQ1.out.keep hb)
  clear hb hz X1 Q1 K1 KQ1 B1 q_0 q_1 q_2 q_3 q_4 q_5 q_6 q_7 q_8 q_9 q_10 q_11 q_12
  have hno : ¬ (mayAskB y = true ∧ y.kind = 8) := fun h => by rw [hm] at h; cases h.1
  rw [hm]
  have HD : DoIs r (askB y) r 3 := ⟨(do_none (wof_no hno)).2, (do_none (wof_no hno)).1⟩
  have hsz := ask_le y
  have cD := Lib.hid (do_any r A n c (askB y) s w2 K2.out (S0.out.keep B2.out) hsz)
  rw [HD.st, HD.no] at cD
  clear HD hsz hno
  generalize askB y = bts at *
  have x_0 := X2.out.cell 0 _ rfl
  have x_1 := X2.out.cell 1 _ rfl
  have x_2 := X2.out.cell 2 _ rfl
  go_wp2_with fail
  refine (cD.out).mono ?_; rintro e w3 ⟨A3, n3, c3, rfl, hat, hb, -⟩
  have bN := new1 w3 (.cells #[.int .i64 r.high, .string r.val, .slice A3 n3 c3] 24)
  have hz := B2.out.trans (hb.mono B2.out.size)
  have B3 := Lib.hid (hz.trans (bN.mono hz.size))
  have X3 := Lib.hid ((X2.out.bel hb).bel bN)
  have Q3 := Lib.hid ((Q2.out.bel hb).bel bN)
  have K3 := Lib.hid ((K2.out.keep hb).keep bN)
  have KQ3 := Lib.hid ((KQ2.out.keep hb).keep bN)
  have T3 := Lib.hid ((hat).keep bN)
  have P3 := Lib.hid (own_new w3 #[.int .i64 r.high, .string r.val, .slice A3 n3 c3] 24)
  clear hb hz bN X2 Q2 K2 KQ2 B2 x_0 x_1 x_2
  clear cD hat
  have hn3 : n3 ≤ 1000000 := by have h1 := T3.out.len; have h2 := K3.out.len; omega
  have cS := Lib.hid (samer_any r r A3 A n3 c3 n c _ T3.out K3.out hn3)
  rw [sameR_self] at cS
  have p_0 := P3.out.cell 0 _ rfl
  have p_1 := P3.out.cell 1 _ rfl
  have p_2 := P3.out.cell 2 _ rfl
  have x_0 := X3.out.cell 0 _ rfl
  have x_1 := X3.out.cell 1 _ rfl
  have x_2 := X3.out.cell 2 _ rfl
  have q_0 := Q3.out.cell 0 _ rfl
  go_wp2_with fail
  refine (cS.out).mono ?_; rintro e w4 ⟨rfl, hb⟩
  have hz := B3.out.trans (hb.mono B3.out.size)
  have B4 := Lib.hid hz
  have X4 := Lib.hid (X3.out.bel hb)
  have Q4 := Lib.hid (Q3.out.bel hb)
  have P4 := Lib.hid (P3.out.bel hb)
  have K4 := Lib.hid (K3.out.keep hb)
  have KQ4 := Lib.hid (KQ3.out.keep hb)
  have T4 := Lib.hid (T3.out.keep hb)
  clear hb hz X3 Q3 P3 K3 KQ3 T3 B3 p_0 p_1 p_2 x_0 x_1 x_2 q_0
  clear cS
  go_wp2_with fail
  refine (live_any s _ (S0.out.keep B4.out)).mono ?_; rintro e w5 ⟨rfl, hb⟩
  have hz := B4.out.trans (hb.mono B4.out.size)
  have B5 := Lib.hid hz
  have X5 := Lib.hid (X4.out.bel hb)
  have Q5 := Lib.hid (Q4.out.bel hb)
  have P5 := Lib.hid (P4.out.bel hb)
  have K5 := Lib.hid (K4.out.keep hb)
  have KQ5 := Lib.hid (KQ4.out.keep hb)
  have T5 := Lib.hid (T4.out.keep hb)
  clear hb hz X4 Q4 P4 K4 KQ4 T4 B4
  go_wp2
  go_ret
  exact ⟨rfl, B5.out⟩
theorem others (w : World) (r : Rs) (A : Option Addr) (n c : Nat) (y : Rq) (A0 : Option Addr) (n0 c0 : Nat) (A1 : Option Addr) (n1 c1 : Nat) (A2 : Option Addr) (n2 c2 : Nat) (k : RsAt w r A n c) (kq : RqAt w y A0 n0 c0 A1 n1 c1 A2 n2 c2) (s : Nat → Addr) (hS : Sents w s) (hn : ¬ n > 60) (hs : shortQ y = true) (hm : mayAskB y = true) (hk : ¬ y.kind = 8) :
    Calls Tryd.prog 5 #[r.agg A n c, y.agg A0 n0 c0 A1 n1 c1 A2 n2 c2] w fun e w' => e = .returned (.bool true) ∧ Below w.heap.size w w' := by
  have S0 := Lib.hid hS
  clear hS
  have B0 := Lib.hid (then_ (new1 w (.cells #[.int .i64 r.high, .string r.val, .slice A n c] 24)) (new1 (w.alloc (.cells #[.int .i64 r.high, .string r.val, .slice A n c] 24)) (.cells #[.int .i64 y.kind, .int .i64 y.who, .int .i64 y.seq, .bool y.once, .string y.key, .string y.val, .int .i64 y.lease, .int .i64 y.rev, .int .i64 y.ttl, .int .i64 y.token, .slice A0 n0 c0, .slice A1 n1 c1, .slice A2 n2 c2] 43)))
  have X0 := Lib.hid ((own_new w #[.int .i64 r.high, .string r.val, .slice A n c] 24).alloc (.cells #[.int .i64 y.kind, .int .i64 y.who, .int .i64 y.seq, .bool y.once, .string y.key, .string y.val, .int .i64 y.lease, .int .i64 y.rev, .int .i64 y.ttl, .int .i64 y.token, .slice A0 n0 c0, .slice A1 n1 c1, .slice A2 n2 c2] 43))
  have Q0 := Lib.hid (own_nxt w (.cells #[.int .i64 r.high, .string r.val, .slice A n c] 24) #[.int .i64 y.kind, .int .i64 y.who, .int .i64 y.seq, .bool y.once, .string y.key, .string y.val, .int .i64 y.lease, .int .i64 y.rev, .int .i64 y.ttl, .int .i64 y.token, .slice A0 n0 c0, .slice A1 n1 c1, .slice A2 n2 c2] 43)
  have K0 := Lib.hid (k.keep B0.out)
  have KQ0 := Lib.hid (kq.keep B0.out)
  clear k kq
  have h1 : ¬ (n : Int) > 60 := by omega
  have q_0 := Q0.out.cell 0 _ rfl
  have q_1 := Q0.out.cell 1 _ rfl
  have q_2 := Q0.out.cell 2 _ rfl
  have q_3 := Q0.out.cell 3 _ rfl
  have q_4 := Q0.out.cell 4 _ rfl
  have q_5 := Q0.out.cell 5 _ rfl
  have q_6 := Q0.out.cell 6 _ rfl
  have q_7 := Q0.out.cell 7 _ rfl
  have q_8 := Q0.out.cell 8 _ rfl
  have q_9 := Q0.out.cell 9 _ rfl
  have q_10 := Q0.out.cell 10 _ rfl
  have q_11 := Q0.out.cell 11 _ rfl
  have q_12 := Q0.out.cell 12 _ rfl
  go_enter Tryd.func5, Tryd.ntmps5
  go_wp2_with fail
  refine (short_any y A0 n0 c0 A1 n1 c1 A2 n2 c2 _ KQ0.out).mono ?_; rintro e w1 ⟨rfl, hb⟩
  rw [hs]
  have hz := B0.out.trans (hb.mono B0.out.size)
  have B1 := Lib.hid hz
  have X1 := Lib.hid (X0.out.bel hb)
  have Q1 := Lib.hid (Q0.out.bel hb)
  have K1 := Lib.hid (K0.out.keep hb)
  have KQ1 := Lib.hid (KQ0.out.keep hb)
  clear hb hz X0 Q0 K0 KQ0 B0 q_0 q_1 q_2 q_3 q_4 q_5 q_6 q_7 q_8 q_9 q_10 q_11 q_12
  have q_0 := Q1.out.cell 0 _ rfl
  have q_1 := Q1.out.cell 1 _ rfl
  have q_2 := Q1.out.cell 2 _ rfl
  have q_3 := Q1.out.cell 3 _ rfl
  have q_4 := Q1.out.cell 4 _ rfl
  have q_5 := Q1.out.cell 5 _ rfl
  have q_6 := Q1.out.cell 6 _ rfl
  have q_7 := Q1.out.cell 7 _ rfl
  have q_8 := Q1.out.cell 8 _ rfl
  have q_9 := Q1.out.cell 9 _ rfl
  have q_10 := Q1.out.cell 10 _ rfl
  have q_11 := Q1.out.cell 11 _ rfl
  have q_12 := Q1.out.cell 12 _ rfl
  go_wp2_with fail
  refine (ask_any y A0 n0 c0 A1 n1 c1 A2 n2 c2 _ KQ1.out).mono ?_; rintro e w2 ⟨rfl, hb⟩
  have hz := B1.out.trans (hb.mono B1.out.size)
  have B2 := Lib.hid hz
  have X2 := Lib.hid (X1.out.bel hb)
  have Q2 := Lib.hid (Q1.out.bel hb)
  have K2 := Lib.hid (K1.out.keep hb)
  have KQ2 := Lib.hid (KQ1.out.keep hb)
  clear hb hz X1 Q1 K1 KQ1 B1 q_0 q_1 q_2 q_3 q_4 q_5 q_6 q_7 q_8 q_9 q_10 q_11 q_12
  have hno : ¬ (mayAskB y = true ∧ y.kind = 8) := fun h => hk h.2
  rw [hm]
  have HD : DoIs r (askB y) r 3 := ⟨(do_none (wof_no hno)).2, (do_none (wof_no hno)).1⟩
  have hsz := ask_le y
  have cD := Lib.hid (do_any r A n c (askB y) s w2 K2.out (S0.out.keep B2.out) hsz)
  rw [HD.st, HD.no] at cD
  clear HD hsz hno
  generalize askB y = bts at *
  have x_0 := X2.out.cell 0 _ rfl
  have x_1 := X2.out.cell 1 _ rfl
  have x_2 := X2.out.cell 2 _ rfl
  go_wp2_with fail
  refine (cD.out).mono ?_; rintro e w3 ⟨A3, n3, c3, rfl, hat, hb, -⟩
  have bN := new1 w3 (.cells #[.int .i64 r.high, .string r.val, .slice A3 n3 c3] 24)
  have hz := B2.out.trans (hb.mono B2.out.size)
  have B3 := Lib.hid (hz.trans (bN.mono hz.size))
  have X3 := Lib.hid ((X2.out.bel hb).bel bN)
  have Q3 := Lib.hid ((Q2.out.bel hb).bel bN)
  have K3 := Lib.hid ((K2.out.keep hb).keep bN)
  have KQ3 := Lib.hid ((KQ2.out.keep hb).keep bN)
  have T3 := Lib.hid ((hat).keep bN)
  have P3 := Lib.hid (own_new w3 #[.int .i64 r.high, .string r.val, .slice A3 n3 c3] 24)
  clear hb hz bN X2 Q2 K2 KQ2 B2 x_0 x_1 x_2
  clear cD hat
  have hn3 : n3 ≤ 1000000 := by have h1 := T3.out.len; have h2 := K3.out.len; omega
  have cS := Lib.hid (samer_any r r A3 A n3 c3 n c _ T3.out K3.out hn3)
  rw [sameR_self] at cS
  have hk2 : (y.kind != 8) = true := by simp [hk]
  have p_0 := P3.out.cell 0 _ rfl
  have p_1 := P3.out.cell 1 _ rfl
  have p_2 := P3.out.cell 2 _ rfl
  have x_0 := X3.out.cell 0 _ rfl
  have x_1 := X3.out.cell 1 _ rfl
  have x_2 := X3.out.cell 2 _ rfl
  have q_0 := Q3.out.cell 0 _ rfl
  go_wp2_with fail
  refine (cS.out).mono ?_; rintro e w4 ⟨rfl, hb⟩
  have hz := B3.out.trans (hb.mono B3.out.size)
  have B4 := Lib.hid hz
  have X4 := Lib.hid (X3.out.bel hb)
  have Q4 := Lib.hid (Q3.out.bel hb)
  have P4 := Lib.hid (P3.out.bel hb)
  have K4 := Lib.hid (K3.out.keep hb)
  have KQ4 := Lib.hid (KQ3.out.keep hb)
  have T4 := Lib.hid (T3.out.keep hb)
  clear hb hz X3 Q3 P3 K3 KQ3 T3 B3 p_0 p_1 p_2 x_0 x_1 x_2 q_0
  clear cS
  go_wp2_with fail
  refine (live_any s _ (S0.out.keep B4.out)).mono ?_; rintro e w5 ⟨rfl, hb⟩
  have hz := B4.out.trans (hb.mono B4.out.size)
  have B5 := Lib.hid hz
  have X5 := Lib.hid (X4.out.bel hb)
  have Q5 := Lib.hid (Q4.out.bel hb)
  have P5 := Lib.hid (P4.out.bel hb)
  have K5 := Lib.hid (K4.out.keep hb)
  have KQ5 := Lib.hid (KQ4.out.keep hb)
  have T5 := Lib.hid (T4.out.keep hb)
  clear hb hz X4 Q4 P4 K4 KQ4 T4 B4
  go_wp2
  go_ret
  exact ⟨rfl, B5.out⟩
theorem walk (w : World) (r : Rs) (A : Option Addr) (n c : Nat) (y : Rq) (A0 : Option Addr) (n0 c0 : Nat) (A1 : Option Addr) (n1 c1 : Nat) (A2 : Option Addr) (n2 c2 : Nat) (k : RsAt w r A n c) (kq : RqAt w y A0 n0 c0 A1 n1 c1 A2 n2 c2) (hL : Letters w) :
    Calls Tryd.prog 5 #[r.agg A n c, y.agg A0 n0 c0 A1 n1 c1 A2 n2 c2] w fun e w' => e = .returned (.bool true) ∧ Below w.heap.size w w' := by
  obtain ⟨s, hS⟩ := hL
  by_cases h1 : n > 60
  · exact long w r A n c y A0 n0 c0 A1 n1 c1 A2 n2 c2 k kq s hS h1
  · cases hs : shortQ y with
    | false => exact wide w r A n c y A0 n0 c0 A1 n1 c1 A2 n2 c2 k kq s hS h1 hs
    | true =>
      cases hm : mayAskB y with
      | false => exact nobody w r A n c y A0 n0 c0 A1 n1 c1 A2 n2 c2 k kq s hS h1 hs hm
      | true =>
        by_cases hk : y.kind = 8
        · exact writes w r A n c y A0 n0 c0 A1 n1 c1 A2 n2 c2 k kq s hS h1 hs hm hk
        · exact others w r A n c y A0 n0 c0 A1 n1 c1 A2 n2 c2 k kq s hS h1 hs hm hk
theorem laidOut : laidOutB Tryd.prog = true := by kernel_rfl
set_option maxRecDepth 100000 in
theorem lifted (os : Os) (started : os.Started) (H : Type) (enc : TypeId × Value → H) :
    ReturnsInHanded {} Tryd.checked os 5 .any (fun w args => (Rows.fenceBytesSpec.pre enc Tryd.prog Tryd.f5 [] false w args ∧ laidMetH Tryd.prog laidK w) ∧ sizedMet enc Tryd.prog Tryd.f5 (OpenSpec.ofChange Rows.fenceBytesSpec) false w args)
      (Rows.fenceBytesSpec.post enc Tryd.prog Tryd.f5 false true false false) := by
  refine returnsInHanded_of_change_and (C := Tryd.checked) (X := fun w _ => laidMetH Tryd.prog laidK w) (fun _ _ _ hh h => h.of_heap hh) own started (by kernel_rfl) Tryd.func5
    (ChangeSpec.witness_shaped (enc := enc) (C := Tryd.checked) (os := os) (X := fun w _ => laidMetH Tryd.prog laidK w) false (World.doorLaid Tryd.prog 400 os) #[.agg #[.int .i64 0, .string ByteArray.empty, .slice none 0 0], .agg #[.int .i64 0, .int .i64 0, .int .i64 0, .bool false, .string ByteArray.empty, .string ByteArray.empty, .int .i64 0, .int .i64 0, .int .i64 0, .int .i64 0, .slice none 0 0, .slice none 0 0, .slice none 0 0]] 8 rfl (World.shaped_of_RefB (by kernel_rfl) (by kernel_rfl)) (by kernel_rfl) (by kernel_rfl) (by kernel_rfl) (door_met os _)) ?_
  intro W base args ds gs before hval0 hW _ _ hL _
  have hval : ∀ (j : Nat) t v, Tryd.f5.params[j]? = some t → args[j]? = some v → Value.okWide Tryd.prog W .any base t v := hval0
  have hW' := hW
  obtain ⟨p, q, hA0, hV, rfl, hfz, hnd⟩ := hW
  have hA : DataW.TrodAll enc Tryd.prog W 0 (fun _ => true) true Tryd.f5.params.toList args.toList ds p := hA0
  rw [Tryd.params5] at hA hval
  obtain ⟨v0, vs0, d0, ds0, p0, q0, hargs, rfl, rfl, h0, r0⟩ := trodAll_cons hA
  obtain ⟨v1, vs1, d1, ds1, p1, q1, rfl, rfl, rfl, h1, r1⟩ := trodAll_cons r0
  obtain ⟨rfl, rfl, rfl⟩ := trodAll_nil r1
  obtain rfl : args = #[v0, v1] := by cases args; simp_all
  obtain ⟨rfl, rfl⟩ := trodVars_none hV
  obtain ⟨z0, A0, n0, c0, rfl, k0⟩ := open_rs (hval 0 24 v0 rfl rfl) h0
  obtain ⟨y1, A1, n1, c1, B1, m1, d1, C1, o1, e1, rfl, k1⟩ := open_rq (hval 1 43 v1 rfl rfl) h1
  have hlet := letters_of_laid hL
  clear hA0 hval0 hL
  refine (walk W z0 A0 n0 c0 y1 A1 n1 c1 B1 m1 d1 C1 o1 e1 k0 k1 hlet).mono fun e W' ⟨he, bel⟩ => ?_
  subst he
  exact ⟨_, rfl, _, _, _, [], _, [], hW', trodAll_mk1 (shut_bool Tryd.underlying4 _), (trodAll_cons_mk (Below.trod laidOut (by kernel_rfl) (of_decide_eq_true (by kernel_rfl)) h0 bel (fun x hx => hW'.lt x (by simp [hx]))) (trodAll_cons_mk (Below.trod laidOut (by kernel_rfl) (of_decide_eq_true (by kernel_rfl)) h1 bel (fun x hx => hW'.lt x (by simp [hx]))) trodAll_mk0)), rfl, bel.frame _, fun h => by cases h⟩

theorem over : Rows.FenceBytesSaid :=
  OpenClaim.holds_of_wide 5 Tryd.f5 rfl rfl rfl rfl rfl rfl rfl ⟨rfl, rfl, rfl, rfl, rfl⟩ rfl rfl rfl rfl rfl (by kernel_rfl) Tryd.func5 (by kernel_rfl)
    (of_decide_eq_true (by kernel_rfl)) (by unfold Func.isWrapper; first | (rw [if_pos (by decide +kernel)]; kernel_rfl) | (rw [if_neg (by decide +kernel)]; exact ⟨rfl, rfl⟩))
    (fun os started H enc _ => lifted os started H enc)

theorem plain (f : FuncId) (fn : Func) (hf : Tryd.pinned.checked.prog.funcNamed "baton/batonlaw20.FenceBytes" = some f) (hfn : Tryd.pinned.checked.prog.funcs[f]? = some fn) :
    true = Tryd.pinned.checked.prog.looks [] ∧ ∀ (j : Nat) t, fn.params[j]? = some t → Tryd.pinned.checked.prog.wantsStandIn t = false := by
  obtain rfl : f = 5 := Option.some.inj ((show Tryd.prog.funcNamed "baton/batonlaw20.FenceBytes" = some 5 by kernel_rfl).symm.trans hf) |>.symm
  obtain rfl : fn = Tryd.f5 := (Option.some.inj (Tryd.func5.symm.trans hfn)).symm
  refine ⟨by kernel_rfl, fun j t ht => ?_⟩
  rw [Tryd.params5] at ht
  have hm : t ∈ [24, 43] := by simpa using Array.mem_of_getElem? ht
  have hall : ([24, 43].all fun u => !Tryd.prog.wantsStandIn u) = true := by kernel_rfl
  exact (show Tryd.prog.wantsStandIn t = false by simpa using List.all_eq_true.1 hall t hm)

theorem proved : Rows.FenceBytesCardSaid :=
  Claim7.holds_tied_plain_at .later [] _ _ _ _ over (fun _ h => by cases h) (by kernel_rfl) (fun _ h => by cases h) fenceBytes_row_tie rfl ⟨rfl, rfl⟩ (by kernel_rfl) rfl plain (by kernel_rfl)
#print axioms proved
end Go.Proofs.YtimbklggifbibaaDoor.fenceBytes
