/- For every request, every time and every number of tries the law CallRetries answers true: a call that nobody tells is sent at the times that the pauses tell, and at no time in between, each time the same bytes. No condition. -/
import Derived.Test.YtmklafbmelkpmaaClRef
import Derived.Test.YtmklafbmelkpmaaClSame
import Derived.Test.YtmklafbmelkpmaaClLive
import Derived.Test.YtmklafbmelkpmaaWireAsk
import Derived.Test.YtmklafbmelkpmaaKeyTwo
import Derived.Lib.QuietBelow
import Derived.Test.YtmklafbmelkpmaaRows
namespace Go.Proofs.Ytmklafbmelkpmaa.callRetries
open Go.ChangeShapes Go.WideShapes Go.ChangeAt Go.RowKit Go.Sort Go.Proofs.Ytmklafbmelkpmaa.P
open Go.ChangeMaps (open_string shut_string)
set_option maxHeartbeats 4000000
set_option linter.unusedVariables false
set_option linter.unusedSimpArgs false
set_option maxRecDepth 100000

theorem long (w : World) (y : Rq) (A0 : Option Addr) (n0 c0 : Nat) (A1 : Option Addr) (n1 c1 : Nat) (A2 : Option Addr) (n2 c2 : Nat) (now n : Int) (h : RqAt w y A0 n0 c0 A1 n1 c1 A2 n2 c2) (hs : shortQ y = false) :
    Calls Try.prog 5 #[y.agg A0 n0 c0 A1 n1 c1 A2 n2 c2, .int .i64 now, .int .i64 n] w fun e w' => e = .returned (.bool true) ∧ Below w.heap.size w w' := by
  have HS := Lib.hid hs; clear hs
  have KQ := Lib.hid (fun w' (hb : Below w.heap.size w w') => h.keep hb)
  have bbr := new1 w (.cells #[.int .i64 y.kind, .int .i64 y.who, .int .i64 y.seq, .bool y.once, .string y.key, .string y.val, .int .i64 y.lease, .int .i64 y.rev, .int .i64 y.ttl, .int .i64 y.token, .slice A0 n0 c0, .slice A1 n1 c1, .slice A2 n2 c2] 27)
  have W_r := own_new w #[.int .i64 y.kind, .int .i64 y.who, .int .i64 y.seq, .bool y.once, .string y.key, .string y.val, .int .i64 y.lease, .int .i64 y.rev, .int .i64 y.ttl, .int .i64 y.token, .slice A0 n0 c0, .slice A1 n1 c1, .slice A2 n2 c2] 27
  have bb := bbr
  have O_r_0 := Lib.hid W_r
  have B_0 := Lib.hid bb
  clear bb bbr W_r
  clear h
  go_enter Try.func5, Try.ntmps5
  go_wp2_with (first | (refine wpList_load_row rfl 27 _ rfl _ rfl 27 _ (0, 0) _ O_r_0.out.ex Try.underlying27 rfl (by kernel_rfl) ?_))
  refine (short_any y A0 n0 c0 A1 n1 c1 A2 n2 c2 _ (KQ.out _ B_0.out)).mono ?_; rintro e w1 ⟨rfl, hb⟩
  have O_r_1 := Lib.hid (O_r_0.out.below hb)
  have B_1 := Lib.hid (then_ B_0.out hb)
  clear B_0 O_r_0
  clear hb
  rw [HS.out]
  go_wp2_with fail
  refine (clive_any _).mono ?_; rintro e w2 ⟨rfl, hb⟩
  have B_2 := Lib.hid (then_ B_1.out hb)
  clear B_1 
  clear hb
  go_wp2
  go_ret
  exact ⟨rfl, B_2.out⟩
theorem bad (w : World) (y : Rq) (A0 : Option Addr) (n0 c0 : Nat) (A1 : Option Addr) (n1 c1 : Nat) (A2 : Option Addr) (n2 c2 : Nat) (now n : Int) (h : RqAt w y A0 n0 c0 A1 n1 c1 A2 n2 c2) (hs : shortQ y = true) (hm : mayAskB y = false) :
    Calls Try.prog 5 #[y.agg A0 n0 c0 A1 n1 c1 A2 n2 c2, .int .i64 now, .int .i64 n] w fun e w' => e = .returned (.bool true) ∧ Below w.heap.size w w' := by
  have HM := Lib.hid hm; clear hm
  have HS := Lib.hid hs; clear hs
  have KQ := Lib.hid (fun w' (hb : Below w.heap.size w w') => h.keep hb)
  have bbr := new1 w (.cells #[.int .i64 y.kind, .int .i64 y.who, .int .i64 y.seq, .bool y.once, .string y.key, .string y.val, .int .i64 y.lease, .int .i64 y.rev, .int .i64 y.ttl, .int .i64 y.token, .slice A0 n0 c0, .slice A1 n1 c1, .slice A2 n2 c2] 27)
  have W_r := own_new w #[.int .i64 y.kind, .int .i64 y.who, .int .i64 y.seq, .bool y.once, .string y.key, .string y.val, .int .i64 y.lease, .int .i64 y.rev, .int .i64 y.ttl, .int .i64 y.token, .slice A0 n0 c0, .slice A1 n1 c1, .slice A2 n2 c2] 27
  have bb := bbr
  have O_r_0 := Lib.hid W_r
  have B_0 := Lib.hid bb
  clear bb bbr W_r
  clear h
  go_enter Try.func5, Try.ntmps5
  go_wp2_with (first | (refine wpList_load_row rfl 27 _ rfl _ rfl 27 _ (0, 0) _ O_r_0.out.ex Try.underlying27 rfl (by kernel_rfl) ?_))
  refine (short_any y A0 n0 c0 A1 n1 c1 A2 n2 c2 _ (KQ.out _ B_0.out)).mono ?_; rintro e w1 ⟨rfl, hb⟩
  have O_r_1 := Lib.hid (O_r_0.out.below hb)
  have B_1 := Lib.hid (then_ B_0.out hb)
  clear B_0 O_r_0
  clear hb
  rw [HS.out]
  have x_r_0 := O_r_1.out.cell 0 _ rfl
  have x_r_1 := O_r_1.out.cell 1 _ rfl
  have x_r_2 := O_r_1.out.cell 2 _ rfl
  have x_r_3 := O_r_1.out.cell 3 _ rfl
  have x_r_4 := O_r_1.out.cell 4 _ rfl
  have x_r_5 := O_r_1.out.cell 5 _ rfl
  have x_r_6 := O_r_1.out.cell 6 _ rfl
  have x_r_7 := O_r_1.out.cell 7 _ rfl
  have x_r_8 := O_r_1.out.cell 8 _ rfl
  have x_r_9 := O_r_1.out.cell 9 _ rfl
  have x_r_10 := O_r_1.out.cell 10 _ rfl
  have x_r_11 := O_r_1.out.cell 11 _ rfl
  have x_r_12 := O_r_1.out.cell 12 _ rfl
  go_wp2_with (first | (refine wpList_load_row rfl 27 _ rfl _ rfl 27 _ (0, 0) _ O_r_1.out.ex Try.underlying27 rfl (by kernel_rfl) ?_))
  clear x_r_0 x_r_1 x_r_2 x_r_3 x_r_4 x_r_5 x_r_6 x_r_7 x_r_8 x_r_9 x_r_10 x_r_11 x_r_12
  refine (mayAsk_any y A0 n0 c0 A1 n1 c1 A2 n2 c2 _ (KQ.out _ B_1.out)).mono ?_; rintro e w2 ⟨rfl, hb⟩
  have O_r_2 := Lib.hid (O_r_1.out.below hb)
  have B_2 := Lib.hid (then_ B_1.out hb)
  clear B_1 O_r_1
  clear hb
  rw [HM.out]
  go_wp2_with fail
  refine (clive_any _).mono ?_; rintro e w3 ⟨rfl, hb⟩
  have B_3 := Lib.hid (then_ B_2.out hb)
  clear B_2 
  clear hb
  go_wp2
  go_ret
  exact ⟨rfl, B_3.out⟩
theorem o1 (w : World) (y : Rq) (A0 : Option Addr) (n0 c0 : Nat) (A1 : Option Addr) (n1 c1 : Nat) (A2 : Option Addr) (n2 c2 : Nat) (now n : Int) (h : RqAt w y A0 n0 c0 A1 n1 c1 A2 n2 c2) (hs : shortQ y = true) (hm : mayAskB y = true) (kk : now < 0) :
    Calls Try.prog 5 #[y.agg A0 n0 c0 A1 n1 c1 A2 n2 c2, .int .i64 now, .int .i64 n] w fun e w' => e = .returned (.bool true) ∧ Below w.heap.size w w' := by
  have HM := Lib.hid hm; clear hm
  have HS := Lib.hid hs; clear hs
  have KQ := Lib.hid (fun w' (hb : Below w.heap.size w w') => h.keep hb)
  have bbr := new1 w (.cells #[.int .i64 y.kind, .int .i64 y.who, .int .i64 y.seq, .bool y.once, .string y.key, .string y.val, .int .i64 y.lease, .int .i64 y.rev, .int .i64 y.ttl, .int .i64 y.token, .slice A0 n0 c0, .slice A1 n1 c1, .slice A2 n2 c2] 27)
  have W_r := own_new w #[.int .i64 y.kind, .int .i64 y.who, .int .i64 y.seq, .bool y.once, .string y.key, .string y.val, .int .i64 y.lease, .int .i64 y.rev, .int .i64 y.ttl, .int .i64 y.token, .slice A0 n0 c0, .slice A1 n1 c1, .slice A2 n2 c2] 27
  have bb := bbr
  have O_r_0 := Lib.hid W_r
  have B_0 := Lib.hid bb
  clear bb bbr W_r
  clear h
  go_enter Try.func5, Try.ntmps5
  go_wp2_with (first | (refine wpList_load_row rfl 27 _ rfl _ rfl 27 _ (0, 0) _ O_r_0.out.ex Try.underlying27 rfl (by kernel_rfl) ?_))
  refine (short_any y A0 n0 c0 A1 n1 c1 A2 n2 c2 _ (KQ.out _ B_0.out)).mono ?_; rintro e w1 ⟨rfl, hb⟩
  have O_r_1 := Lib.hid (O_r_0.out.below hb)
  have B_1 := Lib.hid (then_ B_0.out hb)
  clear B_0 O_r_0
  clear hb
  rw [HS.out]
  have x_r_0 := O_r_1.out.cell 0 _ rfl
  have x_r_1 := O_r_1.out.cell 1 _ rfl
  have x_r_2 := O_r_1.out.cell 2 _ rfl
  have x_r_3 := O_r_1.out.cell 3 _ rfl
  have x_r_4 := O_r_1.out.cell 4 _ rfl
  have x_r_5 := O_r_1.out.cell 5 _ rfl
  have x_r_6 := O_r_1.out.cell 6 _ rfl
  have x_r_7 := O_r_1.out.cell 7 _ rfl
  have x_r_8 := O_r_1.out.cell 8 _ rfl
  have x_r_9 := O_r_1.out.cell 9 _ rfl
  have x_r_10 := O_r_1.out.cell 10 _ rfl
  have x_r_11 := O_r_1.out.cell 11 _ rfl
  have x_r_12 := O_r_1.out.cell 12 _ rfl
  go_wp2_with (first | (refine wpList_load_row rfl 27 _ rfl _ rfl 27 _ (0, 0) _ O_r_1.out.ex Try.underlying27 rfl (by kernel_rfl) ?_))
  clear x_r_0 x_r_1 x_r_2 x_r_3 x_r_4 x_r_5 x_r_6 x_r_7 x_r_8 x_r_9 x_r_10 x_r_11 x_r_12
  refine (mayAsk_any y A0 n0 c0 A1 n1 c1 A2 n2 c2 _ (KQ.out _ B_1.out)).mono ?_; rintro e w2 ⟨rfl, hb⟩
  have O_r_2 := Lib.hid (O_r_1.out.below hb)
  have B_2 := Lib.hid (then_ B_1.out hb)
  clear B_1 O_r_1
  clear hb
  rw [HM.out]
  go_wp2_with fail
  refine (clive_any _).mono ?_; rintro e w3 ⟨rfl, hb⟩
  have B_3 := Lib.hid (then_ B_2.out hb)
  clear B_2 
  clear hb
  go_wp2
  go_ret
  exact ⟨rfl, B_3.out⟩
theorem o2 (w : World) (y : Rq) (A0 : Option Addr) (n0 c0 : Nat) (A1 : Option Addr) (n1 c1 : Nat) (A2 : Option Addr) (n2 c2 : Nat) (now n : Int) (h : RqAt w y A0 n0 c0 A1 n1 c1 A2 n2 c2) (hs : shortQ y = true) (hm : mayAskB y = true) (k1 : ¬ now < 0) (kk : 549755813888 < now) :
    Calls Try.prog 5 #[y.agg A0 n0 c0 A1 n1 c1 A2 n2 c2, .int .i64 now, .int .i64 n] w fun e w' => e = .returned (.bool true) ∧ Below w.heap.size w w' := by
  have HM := Lib.hid hm; clear hm
  have HS := Lib.hid hs; clear hs
  have KQ := Lib.hid (fun w' (hb : Below w.heap.size w w') => h.keep hb)
  have bbr := new1 w (.cells #[.int .i64 y.kind, .int .i64 y.who, .int .i64 y.seq, .bool y.once, .string y.key, .string y.val, .int .i64 y.lease, .int .i64 y.rev, .int .i64 y.ttl, .int .i64 y.token, .slice A0 n0 c0, .slice A1 n1 c1, .slice A2 n2 c2] 27)
  have W_r := own_new w #[.int .i64 y.kind, .int .i64 y.who, .int .i64 y.seq, .bool y.once, .string y.key, .string y.val, .int .i64 y.lease, .int .i64 y.rev, .int .i64 y.ttl, .int .i64 y.token, .slice A0 n0 c0, .slice A1 n1 c1, .slice A2 n2 c2] 27
  have bb := bbr
  have O_r_0 := Lib.hid W_r
  have B_0 := Lib.hid bb
  clear bb bbr W_r
  clear h
  go_enter Try.func5, Try.ntmps5
  go_wp2_with (first | (refine wpList_load_row rfl 27 _ rfl _ rfl 27 _ (0, 0) _ O_r_0.out.ex Try.underlying27 rfl (by kernel_rfl) ?_))
  refine (short_any y A0 n0 c0 A1 n1 c1 A2 n2 c2 _ (KQ.out _ B_0.out)).mono ?_; rintro e w1 ⟨rfl, hb⟩
  have O_r_1 := Lib.hid (O_r_0.out.below hb)
  have B_1 := Lib.hid (then_ B_0.out hb)
  clear B_0 O_r_0
  clear hb
  rw [HS.out]
  have x_r_0 := O_r_1.out.cell 0 _ rfl
  have x_r_1 := O_r_1.out.cell 1 _ rfl
  have x_r_2 := O_r_1.out.cell 2 _ rfl
  have x_r_3 := O_r_1.out.cell 3 _ rfl
  have x_r_4 := O_r_1.out.cell 4 _ rfl
  have x_r_5 := O_r_1.out.cell 5 _ rfl
  have x_r_6 := O_r_1.out.cell 6 _ rfl
  have x_r_7 := O_r_1.out.cell 7 _ rfl
  have x_r_8 := O_r_1.out.cell 8 _ rfl
  have x_r_9 := O_r_1.out.cell 9 _ rfl
  have x_r_10 := O_r_1.out.cell 10 _ rfl
  have x_r_11 := O_r_1.out.cell 11 _ rfl
  have x_r_12 := O_r_1.out.cell 12 _ rfl
  go_wp2_with (first | (refine wpList_load_row rfl 27 _ rfl _ rfl 27 _ (0, 0) _ O_r_1.out.ex Try.underlying27 rfl (by kernel_rfl) ?_))
  clear x_r_0 x_r_1 x_r_2 x_r_3 x_r_4 x_r_5 x_r_6 x_r_7 x_r_8 x_r_9 x_r_10 x_r_11 x_r_12
  refine (mayAsk_any y A0 n0 c0 A1 n1 c1 A2 n2 c2 _ (KQ.out _ B_1.out)).mono ?_; rintro e w2 ⟨rfl, hb⟩
  have O_r_2 := Lib.hid (O_r_1.out.below hb)
  have B_2 := Lib.hid (then_ B_1.out hb)
  clear B_1 O_r_1
  clear hb
  rw [HM.out]
  go_wp2_with fail
  refine (clive_any _).mono ?_; rintro e w3 ⟨rfl, hb⟩
  have B_3 := Lib.hid (then_ B_2.out hb)
  clear B_2 
  clear hb
  go_wp2
  go_ret
  exact ⟨rfl, B_3.out⟩
theorem o3 (w : World) (y : Rq) (A0 : Option Addr) (n0 c0 : Nat) (A1 : Option Addr) (n1 c1 : Nat) (A2 : Option Addr) (n2 c2 : Nat) (now n : Int) (h : RqAt w y A0 n0 c0 A1 n1 c1 A2 n2 c2) (hs : shortQ y = true) (hm : mayAskB y = true) (k1 : ¬ now < 0) (k2 : ¬ 549755813888 < now) (kk : n < 0) :
    Calls Try.prog 5 #[y.agg A0 n0 c0 A1 n1 c1 A2 n2 c2, .int .i64 now, .int .i64 n] w fun e w' => e = .returned (.bool true) ∧ Below w.heap.size w w' := by
  have HM := Lib.hid hm; clear hm
  have HS := Lib.hid hs; clear hs
  have KQ := Lib.hid (fun w' (hb : Below w.heap.size w w') => h.keep hb)
  have bbr := new1 w (.cells #[.int .i64 y.kind, .int .i64 y.who, .int .i64 y.seq, .bool y.once, .string y.key, .string y.val, .int .i64 y.lease, .int .i64 y.rev, .int .i64 y.ttl, .int .i64 y.token, .slice A0 n0 c0, .slice A1 n1 c1, .slice A2 n2 c2] 27)
  have W_r := own_new w #[.int .i64 y.kind, .int .i64 y.who, .int .i64 y.seq, .bool y.once, .string y.key, .string y.val, .int .i64 y.lease, .int .i64 y.rev, .int .i64 y.ttl, .int .i64 y.token, .slice A0 n0 c0, .slice A1 n1 c1, .slice A2 n2 c2] 27
  have bb := bbr
  have O_r_0 := Lib.hid W_r
  have B_0 := Lib.hid bb
  clear bb bbr W_r
  clear h
  go_enter Try.func5, Try.ntmps5
  go_wp2_with (first | (refine wpList_load_row rfl 27 _ rfl _ rfl 27 _ (0, 0) _ O_r_0.out.ex Try.underlying27 rfl (by kernel_rfl) ?_))
  refine (short_any y A0 n0 c0 A1 n1 c1 A2 n2 c2 _ (KQ.out _ B_0.out)).mono ?_; rintro e w1 ⟨rfl, hb⟩
  have O_r_1 := Lib.hid (O_r_0.out.below hb)
  have B_1 := Lib.hid (then_ B_0.out hb)
  clear B_0 O_r_0
  clear hb
  rw [HS.out]
  have x_r_0 := O_r_1.out.cell 0 _ rfl
  have x_r_1 := O_r_1.out.cell 1 _ rfl
  have x_r_2 := O_r_1.out.cell 2 _ rfl
  have x_r_3 := O_r_1.out.cell 3 _ rfl
  have x_r_4 := O_r_1.out.cell 4 _ rfl
  have x_r_5 := O_r_1.out.cell 5 _ rfl
  have x_r_6 := O_r_1.out.cell 6 _ rfl
  have x_r_7 := O_r_1.out.cell 7 _ rfl
  have x_r_8 := O_r_1.out.cell 8 _ rfl
  have x_r_9 := O_r_1.out.cell 9 _ rfl
  have x_r_10 := O_r_1.out.cell 10 _ rfl
  have x_r_11 := O_r_1.out.cell 11 _ rfl
  have x_r_12 := O_r_1.out.cell 12 _ rfl
  go_wp2_with (first | (refine wpList_load_row rfl 27 _ rfl _ rfl 27 _ (0, 0) _ O_r_1.out.ex Try.underlying27 rfl (by kernel_rfl) ?_))
  clear x_r_0 x_r_1 x_r_2 x_r_3 x_r_4 x_r_5 x_r_6 x_r_7 x_r_8 x_r_9 x_r_10 x_r_11 x_r_12
  refine (mayAsk_any y A0 n0 c0 A1 n1 c1 A2 n2 c2 _ (KQ.out _ B_1.out)).mono ?_; rintro e w2 ⟨rfl, hb⟩
  have O_r_2 := Lib.hid (O_r_1.out.below hb)
  have B_2 := Lib.hid (then_ B_1.out hb)
  clear B_1 O_r_1
  clear hb
  rw [HM.out]
  go_wp2_with fail
  refine (clive_any _).mono ?_; rintro e w3 ⟨rfl, hb⟩
  have B_3 := Lib.hid (then_ B_2.out hb)
  clear B_2 
  clear hb
  go_wp2
  go_ret
  exact ⟨rfl, B_3.out⟩
theorem o4 (w : World) (y : Rq) (A0 : Option Addr) (n0 c0 : Nat) (A1 : Option Addr) (n1 c1 : Nat) (A2 : Option Addr) (n2 c2 : Nat) (now n : Int) (h : RqAt w y A0 n0 c0 A1 n1 c1 A2 n2 c2) (hs : shortQ y = true) (hm : mayAskB y = true) (k1 : ¬ now < 0) (k2 : ¬ 549755813888 < now) (k3 : ¬ n < 0) (kk : 20 < n) :
    Calls Try.prog 5 #[y.agg A0 n0 c0 A1 n1 c1 A2 n2 c2, .int .i64 now, .int .i64 n] w fun e w' => e = .returned (.bool true) ∧ Below w.heap.size w w' := by
  have HM := Lib.hid hm; clear hm
  have HS := Lib.hid hs; clear hs
  have KQ := Lib.hid (fun w' (hb : Below w.heap.size w w') => h.keep hb)
  have bbr := new1 w (.cells #[.int .i64 y.kind, .int .i64 y.who, .int .i64 y.seq, .bool y.once, .string y.key, .string y.val, .int .i64 y.lease, .int .i64 y.rev, .int .i64 y.ttl, .int .i64 y.token, .slice A0 n0 c0, .slice A1 n1 c1, .slice A2 n2 c2] 27)
  have W_r := own_new w #[.int .i64 y.kind, .int .i64 y.who, .int .i64 y.seq, .bool y.once, .string y.key, .string y.val, .int .i64 y.lease, .int .i64 y.rev, .int .i64 y.ttl, .int .i64 y.token, .slice A0 n0 c0, .slice A1 n1 c1, .slice A2 n2 c2] 27
  have bb := bbr
  have O_r_0 := Lib.hid W_r
  have B_0 := Lib.hid bb
  clear bb bbr W_r
  clear h
  go_enter Try.func5, Try.ntmps5
  go_wp2_with (first | (refine wpList_load_row rfl 27 _ rfl _ rfl 27 _ (0, 0) _ O_r_0.out.ex Try.underlying27 rfl (by kernel_rfl) ?_))
  refine (short_any y A0 n0 c0 A1 n1 c1 A2 n2 c2 _ (KQ.out _ B_0.out)).mono ?_; rintro e w1 ⟨rfl, hb⟩
  have O_r_1 := Lib.hid (O_r_0.out.below hb)
  have B_1 := Lib.hid (then_ B_0.out hb)
  clear B_0 O_r_0
  clear hb
  rw [HS.out]
  have x_r_0 := O_r_1.out.cell 0 _ rfl
  have x_r_1 := O_r_1.out.cell 1 _ rfl
  have x_r_2 := O_r_1.out.cell 2 _ rfl
  have x_r_3 := O_r_1.out.cell 3 _ rfl
  have x_r_4 := O_r_1.out.cell 4 _ rfl
  have x_r_5 := O_r_1.out.cell 5 _ rfl
  have x_r_6 := O_r_1.out.cell 6 _ rfl
  have x_r_7 := O_r_1.out.cell 7 _ rfl
  have x_r_8 := O_r_1.out.cell 8 _ rfl
  have x_r_9 := O_r_1.out.cell 9 _ rfl
  have x_r_10 := O_r_1.out.cell 10 _ rfl
  have x_r_11 := O_r_1.out.cell 11 _ rfl
  have x_r_12 := O_r_1.out.cell 12 _ rfl
  go_wp2_with (first | (refine wpList_load_row rfl 27 _ rfl _ rfl 27 _ (0, 0) _ O_r_1.out.ex Try.underlying27 rfl (by kernel_rfl) ?_))
  clear x_r_0 x_r_1 x_r_2 x_r_3 x_r_4 x_r_5 x_r_6 x_r_7 x_r_8 x_r_9 x_r_10 x_r_11 x_r_12
  refine (mayAsk_any y A0 n0 c0 A1 n1 c1 A2 n2 c2 _ (KQ.out _ B_1.out)).mono ?_; rintro e w2 ⟨rfl, hb⟩
  have O_r_2 := Lib.hid (O_r_1.out.below hb)
  have B_2 := Lib.hid (then_ B_1.out hb)
  clear B_1 O_r_1
  clear hb
  rw [HM.out]
  go_wp2_with fail
  refine (clive_any _).mono ?_; rintro e w3 ⟨rfl, hb⟩
  have B_3 := Lib.hid (then_ B_2.out hb)
  clear B_2 
  clear hb
  go_wp2
  go_ret
  exact ⟨rfl, B_3.out⟩
theorem due_not (y : Rq) (now q k : Int) : cdueB (Cl.mk true y now (now + q) k) (now + q - 1) = false := by
  unfold cdueB; simp only [Bool.true_and]; exact decide_eq_false (by omega)
theorem due_now (y : Rq) (now q k : Int) : cdueB (Cl.mk true y now (now + q) k) (now + q) = true := by
  unfold cdueB; simp only [Bool.true_and]; exact decide_eq_true (by omega)
theorem main (w : World) (y : Rq) (A0 : Option Addr) (n0 c0 : Nat) (A1 : Option Addr) (n1 c1 : Nat) (A2 : Option Addr) (n2 c2 : Nat) (now n : Int) (h : RqAt w y A0 n0 c0 A1 n1 c1 A2 n2 c2) (hs : shortQ y = true) (hm : mayAskB y = true) (k1 : ¬ now < 0) (k2 : ¬ 549755813888 < now) (k3 : ¬ n < 0) (k4 : ¬ 20 < n) :
    Calls Try.prog 5 #[y.agg A0 n0 c0 A1 n1 c1 A2 n2 c2, .int .i64 now, .int .i64 n] w fun e w' => e = .returned (.bool true) ∧ Below w.heap.size w w' := by
  have HM := Lib.hid hm
  have QOK := Lib.hid h.ok
  have HS := Lib.hid hs; clear hs
  have KQ := Lib.hid (fun w' (hb : Below w.heap.size w w') => h.keep hb)
  have bbr := new1 w (.cells #[.int .i64 y.kind, .int .i64 y.who, .int .i64 y.seq, .bool y.once, .string y.key, .string y.val, .int .i64 y.lease, .int .i64 y.rev, .int .i64 y.ttl, .int .i64 y.token, .slice A0 n0 c0, .slice A1 n1 c1, .slice A2 n2 c2] 27)
  have W_r := own_new w #[.int .i64 y.kind, .int .i64 y.who, .int .i64 y.seq, .bool y.once, .string y.key, .string y.val, .int .i64 y.lease, .int .i64 y.rev, .int .i64 y.ttl, .int .i64 y.token, .slice A0 n0 c0, .slice A1 n1 c1, .slice A2 n2 c2] 27
  have bb := bbr
  have O_r_0 := Lib.hid W_r
  have B_0 := Lib.hid bb
  clear bb bbr W_r
  clear h
  go_enter Try.func5, Try.ntmps5
  go_wp2_with (first | (refine wpList_load_row rfl 27 _ rfl _ rfl 27 _ (0, 0) _ O_r_0.out.ex Try.underlying27 rfl (by kernel_rfl) ?_))
  refine (short_any y A0 n0 c0 A1 n1 c1 A2 n2 c2 _ (KQ.out _ B_0.out)).mono ?_; rintro e w1 ⟨rfl, hb⟩
  have O_r_1 := Lib.hid (O_r_0.out.below hb)
  have B_1 := Lib.hid (then_ B_0.out hb)
  clear B_0 O_r_0
  clear hb
  rw [HS.out]
  have x_r_0 := O_r_1.out.cell 0 _ rfl
  have x_r_1 := O_r_1.out.cell 1 _ rfl
  have x_r_2 := O_r_1.out.cell 2 _ rfl
  have x_r_3 := O_r_1.out.cell 3 _ rfl
  have x_r_4 := O_r_1.out.cell 4 _ rfl
  have x_r_5 := O_r_1.out.cell 5 _ rfl
  have x_r_6 := O_r_1.out.cell 6 _ rfl
  have x_r_7 := O_r_1.out.cell 7 _ rfl
  have x_r_8 := O_r_1.out.cell 8 _ rfl
  have x_r_9 := O_r_1.out.cell 9 _ rfl
  have x_r_10 := O_r_1.out.cell 10 _ rfl
  have x_r_11 := O_r_1.out.cell 11 _ rfl
  have x_r_12 := O_r_1.out.cell 12 _ rfl
  go_wp2_with (first | (refine wpList_load_row rfl 27 _ rfl _ rfl 27 _ (0, 0) _ O_r_1.out.ex Try.underlying27 rfl (by kernel_rfl) ?_))
  clear x_r_0 x_r_1 x_r_2 x_r_3 x_r_4 x_r_5 x_r_6 x_r_7 x_r_8 x_r_9 x_r_10 x_r_11 x_r_12
  refine (mayAsk_any y A0 n0 c0 A1 n1 c1 A2 n2 c2 _ (KQ.out _ B_1.out)).mono ?_; rintro e w2 ⟨rfl, hb⟩
  have O_r_2 := Lib.hid (O_r_1.out.below hb)
  have B_2 := Lib.hid (then_ B_1.out hb)
  clear B_1 O_r_1
  clear hb
  rw [HM.out]
  go_wp2_with (first | (refine wpList_load_row rfl 27 _ rfl _ rfl 27 _ (0, 0) _ O_r_2.out.ex Try.underlying27 rfl (by kernel_rfl) ?_))
  refine (ask_any y A0 n0 c0 A1 n1 c1 A2 n2 c2 _ (KQ.out _ B_2.out)).mono ?_; rintro e w3 ⟨rfl, hb⟩
  have O_r_3 := Lib.hid (O_r_2.out.below hb)
  have B_3 := Lib.hid (then_ B_2.out hb)
  clear B_2 O_r_2
  clear hb
  go_wp2_with (first | (refine wpList_load_row rfl 27 _ rfl _ rfl 27 _ (0, 0) _ O_r_3.out.ex Try.underlying27 rfl (by kernel_rfl) ?_))
  refine (cbegin_any y A0 n0 c0 A1 n1 c1 A2 n2 c2 now _).mono ?_; rintro e w4 ⟨rfl, hb⟩
  have O_r_4 := Lib.hid (O_r_3.out.below hb)
  have B_4 := Lib.hid (then_ B_3.out hb)
  clear B_3 O_r_3
  clear hb
  have hgc0 := (show w.heap.size ≤ w4.heap.size ∧ w.heap.size ≠ w4.heap.size from ⟨Nat.le_of_lt O_r_4.out.lt, Nat.ne_of_lt O_r_4.out.lt⟩)
  have N := Lib.hid (own_new w4 #[.bool false, .int .i64 0, .int .i64 0, .int .i64 0, .bool false, .string ⟨#[]⟩, .string ⟨#[]⟩, .int .i64 0, .int .i64 0, .int .i64 0, .int .i64 0, .slice none 0 0, .slice none 0 0, .slice none 0 0, .int .i64 0, .int .i64 0, .int .i64 0] 31)
  have bz := below_setRow (new1 w4 (.cells #[.bool false, .int .i64 0, .int .i64 0, .int .i64 0, .bool false, .string ⟨#[]⟩, .string ⟨#[]⟩, .int .i64 0, .int .i64 0, .int .i64 0, .int .i64 0, .slice none 0 0, .slice none 0 0, .slice none 0 0, .int .i64 0, .int .i64 0, .int .i64 0] 31)) (Nat.le_refl _) ((Cl.mk true y now now 0).arr A0 n0 c0 A1 n1 c1 A2 n2 c2)
  have O_r_5 := Lib.hid (O_r_4.out.below bz)
  have O_c_5 := Lib.hid (N.out.row ((Cl.mk true y now now 0).arr A0 n0 c0 A1 n1 c1 A2 n2 c2))
  have B_5 := Lib.hid (then_ B_4.out bz)
  clear bz B_4 O_r_4
  go_wp2_with (first | (refine wpList_store_row rfl 31 _ _ rfl _ _ rfl rfl 31 _ N.out.ex (by kernel_rfl) rfl (by simp [Value.oneCell']) ?_) | (refine wpList_load_row rfl 27 _ rfl _ rfl 27 _ (0, 0) _ O_r_5.out.ex Try.underlying27 rfl (by kernel_rfl) ?_) | (refine wpList_load_row rfl 31 _ rfl _ rfl 31 _ (0, 0) _ O_c_5.out.ex Try.underlying31 rfl (by kernel_rfl) ?_))
  clear N
  generalize (w4.alloc (.cells #[.bool false, .int .i64 0, .int .i64 0, .int .i64 0, .bool false, .string ⟨#[]⟩, .string ⟨#[]⟩, .int .i64 0, .int .i64 0, .int .i64 0, .int .i64 0, .slice none 0 0, .slice none 0 0, .slice none 0 0, .int .i64 0, .int .i64 0, .int .i64 0] 31)).setRow w4.heap.size ((Cl.mk true y now now 0).arr A0 n0 c0 A1 n1 c1 A2 n2 c2) = w5 at *
  have HN : Hid (∃ m : Nat, n = (m : Int) ∧ m ≤ 20) := Lib.hid ⟨n.toNat, by omega, by omega⟩
  obtain ⟨m, rfl, hm20⟩ := HN.out
  clear HN k3 k4 hm
  have hgc : Hid (w.heap.size ≤ w4.heap.size ∧ w.heap.size ≠ w4.heap.size) := Lib.hid hgc0
  go_loopw [10] (fun i wr => ∃ k : Nat, k ≤ m ∧ i = .int .i64 (k : Int) ∧ Own wr w.heap.size 27 #[.int .i64 y.kind, .int .i64 y.who, .int .i64 y.seq, .bool y.once, .string y.key, .string y.val, .int .i64 y.lease, .int .i64 y.rev, .int .i64 y.ttl, .int .i64 y.token, .slice A0 n0 c0, .slice A1 n1 c1, .slice A2 n2 c2] ∧ Own wr w4.heap.size 31 ((Cl.mk true y now (now + waitP (k : Int)) (k : Int)).arr A0 n0 c0 A1 n1 c1 A2 n2 c2) ∧ Below w.heap.size w wr) (fun i _ => m - (intOf i).toNat)
  case atStart => exact ⟨0, Nat.zero_le _, rfl, O_r_5.out, by rw [show waitP ((0 : Nat) : Int) = 0 by decide, Int.add_zero]; exact O_c_5.out, B_5.out⟩
  case round =>
    rename World => w20
    obtain ⟨k, hk, rfl, hr, hc, hb⟩ := hrel
    have O_r_20 := Lib.hid hr
    have O_c_20 := Lib.hid hc
    have B_20 := Lib.hid hb
    clear hr hc hb O_r_5 O_c_5 B_5
    by_cases hlt : k < m
    · have hq := wait_range (k : Int)
      have hp := pause_range (k : Int)
      have HNX : Hid (waitP ((k : Int) + 1) = waitP (k : Int) + pauseP (k : Int)) := Lib.hid (wait_next (by omega) (by omega))
      have HNY : Hid (waitP (((k + 1 : Nat)) : Int) = waitP (k : Int) + pauseP (k : Int)) := Lib.hid (by rw [show ((k + 1 : Nat) : Int) = (k : Int) + 1 by omega]; exact wait_next (by omega) (by omega))
      have C1 := Lib.hid (fun w => wait_any (k : Int) w)
      have C2 := Lib.hid (fun w => wait_any ((k : Int) + 1) w)
      have C3 := Lib.hid (fun w => pause_ref (k : Int) w ⟨by omega, by omega⟩)
      rw [HNX.out] at C2
      have hqp : waitP (k : Int) + pauseP (k : Int) ≤ 268436736 := by omega
      have D0 := Lib.hid (due_not y now (waitP (k : Int)) (k : Int))
      have D1 := Lib.hid (due_now y now (waitP (k : Int)) (k : Int))
      generalize waitP (k : Int) = q at *
      have S0 := Lib.hid (fun w' (hb : Below w.heap.size w w') => sends_0 (Cl.mk true y now (now + q) (k : Int)) A0 n0 c0 A1 n1 c1 A2 n2 c2 (now + q - 1) w' ⟨KQ.out w' hb, ⟨by simp only; omega, by simp only; omega⟩, ⟨by simp only; omega, by simp only; omega⟩, ⟨by simp only; omega, by simp only; omega⟩⟩ D0.out)
      have S1 := Lib.hid (fun w' (hb : Below w.heap.size w w') => sends_4 (Cl.mk true y now (now + q) (k : Int)) A0 n0 c0 A1 n1 c1 A2 n2 c2 (now + q) w' ⟨KQ.out w' hb, ⟨by simp only; omega, by simp only; omega⟩, ⟨by simp only; omega, by simp only; omega⟩, ⟨by simp only; omega, by simp only; omega⟩⟩ D1.out (by omega) (by omega) HM.out (by simp only; omega))
      unfold sentC at S1
      simp only at S1
      generalize pauseP (k : Int) = pz at *
      go_wp2_with (first | (refine wpList_load_row rfl 27 _ rfl _ rfl 27 _ (0, 0) _ O_r_20.out.ex Try.underlying27 rfl (by kernel_rfl) ?_) | (refine wpList_load_row rfl 31 _ rfl _ rfl 31 _ (0, 0) _ O_c_20.out.ex Try.underlying31 rfl (by kernel_rfl) ?_))
      refine (C1.out _).mono ?_; rintro e w' ⟨rfl, rfl⟩
      go_wp2_with (first | (refine wpList_load_row rfl 27 _ rfl _ rfl 27 _ (0, 0) _ O_r_20.out.ex Try.underlying27 rfl (by kernel_rfl) ?_) | (refine wpList_load_row rfl 31 _ rfl _ rfl 31 _ (0, 0) _ O_c_20.out.ex Try.underlying31 rfl (by kernel_rfl) ?_))
      refine (S0.out _ B_20.out).mono ?_; rintro e w21 ⟨rfl, hb⟩
      have O_r_21 := Lib.hid (O_r_20.out.below hb)
      have O_c_21 := Lib.hid (O_c_20.out.below hb)
      have B_21 := Lib.hid (then_ B_20.out hb)
      clear B_20 O_r_20 O_c_20
      clear hb
      have N := Lib.hid (own_new w21 #[.bool false, .int .i64 0, .int .i64 0, .int .i64 0, .bool false, .string ⟨#[]⟩, .string ⟨#[]⟩, .int .i64 0, .int .i64 0, .int .i64 0, .int .i64 0, .slice none 0 0, .slice none 0 0, .slice none 0 0, .int .i64 0, .int .i64 0, .int .i64 0] 31)
      have bz := below_setRow (new1 w21 (.cells #[.bool false, .int .i64 0, .int .i64 0, .int .i64 0, .bool false, .string ⟨#[]⟩, .string ⟨#[]⟩, .int .i64 0, .int .i64 0, .int .i64 0, .int .i64 0, .slice none 0 0, .slice none 0 0, .slice none 0 0, .int .i64 0, .int .i64 0, .int .i64 0] 31)) (Nat.le_refl _) ((Cl.mk true y now (now + q) (k : Int)).arr A0 n0 c0 A1 n1 c1 A2 n2 c2)
      have O_r_22 := Lib.hid (O_r_21.out.below bz)
      have O_c_22 := Lib.hid (O_c_21.out.below bz)
      have O_e_22 := Lib.hid (N.out.row ((Cl.mk true y now (now + q) (k : Int)).arr A0 n0 c0 A1 n1 c1 A2 n2 c2))
      have B_22 := Lib.hid (then_ B_21.out bz)
      clear bz B_21 O_r_21 O_c_21
      go_wp2_with (first | (refine wpList_store_row rfl 31 _ _ rfl _ _ rfl rfl 31 _ N.out.ex (by kernel_rfl) rfl (by simp [Value.oneCell']) ?_) | (refine wpList_load_row rfl 27 _ rfl _ rfl 27 _ (0, 0) _ O_r_22.out.ex Try.underlying27 rfl (by kernel_rfl) ?_) | (refine wpList_load_row rfl 31 _ rfl _ rfl 31 _ (0, 0) _ O_c_22.out.ex Try.underlying31 rfl (by kernel_rfl) ?_) | (refine wpList_load_row rfl 31 _ rfl _ rfl 31 _ (0, 0) _ O_e_22.out.ex Try.underlying31 rfl (by kernel_rfl) ?_))
      clear N
      generalize (w21.alloc (.cells #[.bool false, .int .i64 0, .int .i64 0, .int .i64 0, .bool false, .string ⟨#[]⟩, .string ⟨#[]⟩, .int .i64 0, .int .i64 0, .int .i64 0, .int .i64 0, .slice none 0 0, .slice none 0 0, .slice none 0 0, .int .i64 0, .int .i64 0, .int .i64 0] 31)).setRow w21.heap.size ((Cl.mk true y now (now + q) (k : Int)).arr A0 n0 c0 A1 n1 c1 A2 n2 c2) = w22 at *
      go_wp2_with (first | (refine wpList_load_row rfl 27 _ rfl _ rfl 27 _ (0, 0) _ O_r_22.out.ex Try.underlying27 rfl (by kernel_rfl) ?_) | (refine wpList_load_row rfl 31 _ rfl _ rfl 31 _ (0, 0) _ O_c_22.out.ex Try.underlying31 rfl (by kernel_rfl) ?_) | (refine wpList_load_row rfl 31 _ rfl _ rfl 31 _ (0, 0) _ O_e_22.out.ex Try.underlying31 rfl (by kernel_rfl) ?_))
      refine (S1.out _ B_22.out).mono ?_; rintro e w23 ⟨rfl, hb⟩
      have O_r_23 := Lib.hid (O_r_22.out.below hb)
      have O_c_23 := Lib.hid (O_c_22.out.below hb)
      have O_e_23 := Lib.hid (O_e_22.out.below hb)
      have B_23 := Lib.hid (then_ B_22.out hb)
      clear B_22 O_r_22 O_c_22 O_e_22
      clear hb
      have N := Lib.hid (own_new w23 #[.bool false, .int .i64 0, .int .i64 0, .int .i64 0, .bool false, .string ⟨#[]⟩, .string ⟨#[]⟩, .int .i64 0, .int .i64 0, .int .i64 0, .int .i64 0, .slice none 0 0, .slice none 0 0, .slice none 0 0, .int .i64 0, .int .i64 0, .int .i64 0] 31)
      have bz := below_setRow (new1 w23 (.cells #[.bool false, .int .i64 0, .int .i64 0, .int .i64 0, .bool false, .string ⟨#[]⟩, .string ⟨#[]⟩, .int .i64 0, .int .i64 0, .int .i64 0, .int .i64 0, .slice none 0 0, .slice none 0 0, .slice none 0 0, .int .i64 0, .int .i64 0, .int .i64 0] 31)) (Nat.le_refl _) ((Cl.mk true y now (now + q + pz) ((k : Int) + 1)).arr A0 n0 c0 A1 n1 c1 A2 n2 c2)
      have O_r_24 := Lib.hid (O_r_23.out.below bz)
      have O_c_24 := Lib.hid (O_c_23.out.below bz)
      have O_e_24 := Lib.hid (O_e_23.out.below bz)
      have O_d_24 := Lib.hid (N.out.row ((Cl.mk true y now (now + q + pz) ((k : Int) + 1)).arr A0 n0 c0 A1 n1 c1 A2 n2 c2))
      have B_24 := Lib.hid (then_ B_23.out bz)
      clear bz B_23 O_r_23 O_c_23 O_e_23
      have x_d_1 := O_d_24.out.cell 1 _ rfl
      have x_d_2 := O_d_24.out.cell 2 _ rfl
      have x_d_3 := O_d_24.out.cell 3 _ rfl
      have x_d_4 := O_d_24.out.cell 4 _ rfl
      have x_d_5 := O_d_24.out.cell 5 _ rfl
      have x_d_6 := O_d_24.out.cell 6 _ rfl
      have x_d_7 := O_d_24.out.cell 7 _ rfl
      have x_d_8 := O_d_24.out.cell 8 _ rfl
      have x_d_9 := O_d_24.out.cell 9 _ rfl
      have x_d_10 := O_d_24.out.cell 10 _ rfl
      have x_d_11 := O_d_24.out.cell 11 _ rfl
      have x_d_12 := O_d_24.out.cell 12 _ rfl
      have x_d_13 := O_d_24.out.cell 13 _ rfl
      have x_d_14 := O_d_24.out.cell 14 _ rfl
      have x_d_16 := O_d_24.out.cell 16 _ rfl
      have x_r_0 := O_r_24.out.cell 0 _ rfl
      have x_r_1 := O_r_24.out.cell 1 _ rfl
      have x_r_2 := O_r_24.out.cell 2 _ rfl
      have x_r_3 := O_r_24.out.cell 3 _ rfl
      have x_r_4 := O_r_24.out.cell 4 _ rfl
      have x_r_5 := O_r_24.out.cell 5 _ rfl
      have x_r_6 := O_r_24.out.cell 6 _ rfl
      have x_r_7 := O_r_24.out.cell 7 _ rfl
      have x_r_8 := O_r_24.out.cell 8 _ rfl
      have x_r_9 := O_r_24.out.cell 9 _ rfl
      have x_r_10 := O_r_24.out.cell 10 _ rfl
      have x_r_11 := O_r_24.out.cell 11 _ rfl
      have x_r_12 := O_r_24.out.cell 12 _ rfl
      go_wp2_with (first | (refine wpList_store_row rfl 31 _ _ rfl _ _ rfl rfl 31 _ N.out.ex (by kernel_rfl) rfl (by simp [Value.oneCell']) ?_) | (refine wpList_load_row rfl 27 _ rfl _ rfl 27 _ (0, 0) _ O_r_24.out.ex Try.underlying27 rfl (by kernel_rfl) ?_) | (refine wpList_load_row rfl 31 _ rfl _ rfl 31 _ (0, 0) _ O_c_24.out.ex Try.underlying31 rfl (by kernel_rfl) ?_) | (refine wpList_load_row rfl 31 _ rfl _ rfl 31 _ (0, 0) _ O_e_24.out.ex Try.underlying31 rfl (by kernel_rfl) ?_) | (refine wpList_load_row rfl 31 _ rfl _ rfl 31 _ (0, 0) _ O_d_24.out.ex Try.underlying31 rfl (by kernel_rfl) ?_))
      clear N
      generalize (w23.alloc (.cells #[.bool false, .int .i64 0, .int .i64 0, .int .i64 0, .bool false, .string ⟨#[]⟩, .string ⟨#[]⟩, .int .i64 0, .int .i64 0, .int .i64 0, .int .i64 0, .slice none 0 0, .slice none 0 0, .slice none 0 0, .int .i64 0, .int .i64 0, .int .i64 0] 31)).setRow w23.heap.size ((Cl.mk true y now (now + q + pz) ((k : Int) + 1)).arr A0 n0 c0 A1 n1 c1 A2 n2 c2) = w24 at *
      clear x_d_1 x_d_2 x_d_3 x_d_4 x_d_5 x_d_6 x_d_7 x_d_8 x_d_9 x_d_10 x_d_11 x_d_12 x_d_13 x_d_14 x_d_16 x_r_0 x_r_1 x_r_2 x_r_3 x_r_4 x_r_5 x_r_6 x_r_7 x_r_8 x_r_9 x_r_10 x_r_11 x_r_12
      refine (same_same y A0 n0 c0 A1 n1 c1 A2 n2 c2 A0 n0 c0 A1 n1 c1 A2 n2 c2 _ (KQ.out _ B_24.out) (KQ.out _ B_24.out)).mono ?_; rintro e w25 ⟨rfl, hb⟩
      have O_r_25 := Lib.hid (O_r_24.out.below hb)
      have O_c_25 := Lib.hid (O_c_24.out.below hb)
      have O_e_25 := Lib.hid (O_e_24.out.below hb)
      have O_d_25 := Lib.hid (O_d_24.out.below hb)
      have B_25 := Lib.hid (then_ B_24.out hb)
      clear B_24 O_r_24 O_c_24 O_e_24 O_d_24
      clear hb
      go_wp2_with (first | (refine wpList_load_row rfl 27 _ rfl _ rfl 27 _ (0, 0) _ O_r_25.out.ex Try.underlying27 rfl (by kernel_rfl) ?_) | (refine wpList_load_row rfl 31 _ rfl _ rfl 31 _ (0, 0) _ O_c_25.out.ex Try.underlying31 rfl (by kernel_rfl) ?_) | (refine wpList_load_row rfl 31 _ rfl _ rfl 31 _ (0, 0) _ O_e_25.out.ex Try.underlying31 rfl (by kernel_rfl) ?_) | (refine wpList_load_row rfl 31 _ rfl _ rfl 31 _ (0, 0) _ O_d_25.out.ex Try.underlying31 rfl (by kernel_rfl) ?_))
      refine (C2.out _).mono ?_; rintro e w' ⟨rfl, rfl⟩
      go_wp2_with (first | (refine wpList_load_row rfl 27 _ rfl _ rfl 27 _ (0, 0) _ O_r_25.out.ex Try.underlying27 rfl (by kernel_rfl) ?_) | (refine wpList_load_row rfl 31 _ rfl _ rfl 31 _ (0, 0) _ O_c_25.out.ex Try.underlying31 rfl (by kernel_rfl) ?_) | (refine wpList_load_row rfl 31 _ rfl _ rfl 31 _ (0, 0) _ O_e_25.out.ex Try.underlying31 rfl (by kernel_rfl) ?_) | (refine wpList_load_row rfl 31 _ rfl _ rfl 31 _ (0, 0) _ O_d_25.out.ex Try.underlying31 rfl (by kernel_rfl) ?_))
      refine (C1.out _).mono ?_; rintro e w' ⟨rfl, rfl⟩
      go_wp2_with (first | (refine wpList_load_row rfl 27 _ rfl _ rfl 27 _ (0, 0) _ O_r_25.out.ex Try.underlying27 rfl (by kernel_rfl) ?_) | (refine wpList_load_row rfl 31 _ rfl _ rfl 31 _ (0, 0) _ O_c_25.out.ex Try.underlying31 rfl (by kernel_rfl) ?_) | (refine wpList_load_row rfl 31 _ rfl _ rfl 31 _ (0, 0) _ O_e_25.out.ex Try.underlying31 rfl (by kernel_rfl) ?_) | (refine wpList_load_row rfl 31 _ rfl _ rfl 31 _ (0, 0) _ O_d_25.out.ex Try.underlying31 rfl (by kernel_rfl) ?_))
      refine (C3.out _).mono ?_; rintro e w' ⟨rfl, rfl⟩
      go_wp2_with (first | (refine wpList_load_row rfl 31 _ rfl _ rfl 31 _ (0, 0) _ O_d_25.out.ex Try.underlying31 rfl (by kernel_rfl) ?_) | (refine wpList_store_row rfl 31 _ _ rfl _ _ rfl rfl 31 _ O_c_25.out.ex (by kernel_rfl) rfl (by simp [Value.oneCell']) ?_))
      go_round
      case rel =>
        refine ⟨k + 1, hlt, by go_num, O_r_25.out.row_off (fun e => hgc.out.2 e.symm) _, ?_, below_setRow B_25.out hgc.out.1 _⟩
        rw [HNY.out, show ((k + 1 : Nat) : Int) = (k : Int) + 1 by omega, ← Int.add_assoc]
        exact O_c_25.out.row _
      case measure => simp [intOf]; omega
    · obtain rfl : k = m := by omega
      have xc := O_c_20.out.cell 0 _ rfl
      go_wp2_with fail
      refine (clive_any _).mono ?_; rintro e w21 ⟨rfl, hb⟩
      have B21 := Lib.hid (then_ B_20.out hb); clear hb
      go_wp2
      go_ret
      exact ⟨rfl, B21.out⟩
theorem walk (w : World) (y : Rq) (A0 : Option Addr) (n0 c0 : Nat) (A1 : Option Addr) (n1 c1 : Nat) (A2 : Option Addr) (n2 c2 : Nat) (now n : Int) (h : RqAt w y A0 n0 c0 A1 n1 c1 A2 n2 c2) (w1 : (Lit.int .i64 now).wf = true) (w2 : (Lit.int .i64 n).wf = true) :
    Calls Try.prog 5 #[y.agg A0 n0 c0 A1 n1 c1 A2 n2 c2, .int .i64 now, .int .i64 n] w fun e w' => e = .returned (.bool true) ∧ Below w.heap.size w w' := by
  cases hs : shortQ y with
  | false => exact long w y A0 n0 c0 A1 n1 c1 A2 n2 c2 now n h hs
  | true =>
    cases hm : mayAskB y with
    | false => exact bad w y A0 n0 c0 A1 n1 c1 A2 n2 c2 now n h hs hm
    | true =>
      by_cases k1 : now < 0
      · exact o1 w y A0 n0 c0 A1 n1 c1 A2 n2 c2 now n h hs hm k1
      · by_cases k2 : 549755813888 < now
        · exact o2 w y A0 n0 c0 A1 n1 c1 A2 n2 c2 now n h hs hm k1 k2
        · by_cases k3 : n < 0
          · exact o3 w y A0 n0 c0 A1 n1 c1 A2 n2 c2 now n h hs hm k1 k2 k3
          · by_cases k4 : 20 < n
            · exact o4 w y A0 n0 c0 A1 n1 c1 A2 n2 c2 now n h hs hm k1 k2 k3 k4
            · exact main w y A0 n0 c0 A1 n1 c1 A2 n2 c2 now n h hs hm k1 k2 k3 k4

theorem own : ownKnob Try.prog.godebug = none := by kernel_rfl
theorem laidOut : laidOutB Try.prog = true := by kernel_rfl

set_option maxRecDepth 100000 in
theorem lifted (os : Os) (started : os.Started) (H : Type) (enc : TypeId × Value → H) :
    ReturnsInHanded {} Try.checked os 5 .any (Rows.callRetriesSpec.pre6 enc Try.prog Try.f5 Rows.callRetriesRow.domain false) (Rows.callRetriesSpec.post enc Try.prog Try.f5 false true false false) := by
  refine returnsInHanded_of_change (C := Try.checked) own started (by kernel_rfl) Try.func5
    (ChangeSpec.witness6 (enc := enc) (C := Try.checked) false ⟨#[], #[.agg #[.int .i64 0, .int .i64 0, .int .i64 0, .bool false, .string ByteArray.empty, .string ByteArray.empty, .int .i64 0, .int .i64 0, .int .i64 0, .int .i64 0, .slice none 0 0, .slice none 0 0, .slice none 0 0], (.int .i64 0), (.int .i64 0)], []⟩ 8 (by kernel_rfl) (by kernel_rfl) (by kernel_rfl) (by kernel_rfl)) ?_
  intro W base args ds gs before hval0 hW hcnd _
  have hval : ∀ (j : Nat) t v, Try.f5.params[j]? = some t → args[j]? = some v → Value.okWide Try.prog W .any base t v := hval0
  have hW' := hW
  obtain ⟨p, q, hA0, hV, rfl, hfz, hnd⟩ := hW
  have hA : DataW.TrodAll enc Try.prog W 0 (fun _ => true) true Try.f5.params.toList args.toList ds p := hA0
  rw [Try.params5] at hA hval
  obtain ⟨v0, vs0, d0, ds0, p0, q0, hargs, rfl, rfl, h0, r0⟩ := trodAll_cons hA
  obtain ⟨v1, vs1, d1, ds1, p1, q1, rfl, rfl, rfl, h1, r1⟩ := trodAll_cons r0
  obtain ⟨v2, vs2, d2, ds2, p2, q2, rfl, rfl, rfl, h2, r2⟩ := trodAll_cons r1
  obtain ⟨rfl, rfl, rfl⟩ := trodAll_nil r2
  obtain rfl : args = #[v0, v1, v2] := by cases args; simp_all
  obtain ⟨rfl, rfl⟩ := trodVars_none hV
  obtain ⟨y0, A0, n0, c0, B0, m0, d0, C0, o0, e0, rfl, k0⟩ := open_rq (hval 0 27 v0 rfl rfl) h0
  obtain ⟨a1, rfl, rfl, rfl, w1⟩ := open_int Try.underlying3 (hval 1 3 v1 rfl rfl) h1
  obtain ⟨a2, rfl, rfl, rfl, w2⟩ := open_int Try.underlying3 (hval 2 3 v2 rfl rfl) h2
  clear hA0 hval0
  refine (walk W y0 A0 n0 c0 B0 m0 d0 C0 o0 e0 a1 a2 k0 w1 w2).mono fun e W' ⟨he, bel⟩ => ?_
  subst he
  exact ⟨_, rfl, _, _, _, [], _, [], hW', trodAll_mk1 (shut_bool Try.underlying4 _), (trodAll_cons_mk (Below.trod laidOut (by kernel_rfl) (of_decide_eq_true (by kernel_rfl)) h0 bel (fun x hx => hW'.lt x (by simp [hx]))) (trodAll_cons_mk (shut_int Try.underlying3 w1) (trodAll_cons_mk (shut_int Try.underlying3 w2) trodAll_mk0))), rfl, bel.frame _, fun h => by cases h⟩

theorem over : Rows.callRetriesRow.holds Try.pinned (OpenSpec.ofChange Rows.callRetriesSpec) :=
  OpenClaim.holds_of_wide 5 Try.f5 rfl rfl rfl rfl rfl rfl rfl ⟨rfl, rfl, rfl, rfl, rfl⟩ rfl rfl rfl rfl rfl (by kernel_rfl) Try.func5 (by kernel_rfl)
    (of_decide_eq_true (by kernel_rfl)) (by unfold Func.isWrapper; first | (rw [if_pos (by decide +kernel)]; kernel_rfl) | (rw [if_neg (by decide +kernel)]; exact ⟨rfl, rfl⟩))
    (fun os started H enc _ => lifted os started H enc)

theorem proved : Rows.CallRetriesSaid := over
#print axioms proved
end Go.Proofs.Ytmklafbmelkpmaa.callRetries
