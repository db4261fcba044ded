/- For every call, every time and every reply the law CallSends answers true: what is sent of a call, and what becomes of it when a reply comes, is as the document says. No condition. -/
import Derived.Test.YtmklafbmelkpmaaClRef
import Derived.Test.YtmklafbmelkpmaaClSame
import Derived.Test.YtmklafbmelkpmaaClOpen
import Derived.Test.YtmklafbmelkpmaaClLive
import Derived.Test.YtmklafbmelkpmaaKeyTwo
import Derived.Lib.QuietBelow
import Derived.Test.YtmklafbmelkpmaaRows
namespace Go.Proofs.Ytmklafbmelkpmaa.callSends
open Go.ChangeShapes Go.WideShapes Go.ChangeAt Go.RowKit Go.Sort Go.Proofs.Ytmklafbmelkpmaa.P
open Go.ChangeMaps (open_string shut_string)
set_option maxHeartbeats 4000000
set_option linter.unusedVariables false
set_option linter.unusedSimpArgs false
set_option maxRecDepth 100000

theorem long (w : World) (k : Cl) (A0 : Option Addr) (n0 c0 : Nat) (A1 : Option Addr) (n1 c1 : Nat) (A2 : Option Addr) (n2 c2 : Nat) (now : Int) (p : Rp) (D0 : Option Addr) (m0 d0 : Nat) (D1 : Option Addr) (m1 d1 : Nat) (h : ClAt w k A0 n0 c0 A1 n1 c1 A2 n2 c2) (hp : RpAt w p D0 m0 d0 D1 m1 d1) (hs : shortQ k.y = false) :
    Calls Try.prog 4 #[k.agg A0 n0 c0 A1 n1 c1 A2 n2 c2, .int .i64 now, p.agg D0 m0 d0 D1 m1 d1] w fun e w' => e = .returned (.bool true) ∧ Below w.heap.size w w' := by
  have HS := Lib.hid hs; clear hs
  have KQ := Lib.hid (fun w' (hb : Below w.heap.size w w') => h.rq.keep hb)
  have KP := Lib.hid (fun w' (hb : Below w.heap.size w w') => hp.keep hb)
  clear h hp
  have bbc := new1 w (.cells (k.arr A0 n0 c0 A1 n1 c1 A2 n2 c2) 31)
  have W_c := own_new w (k.arr A0 n0 c0 A1 n1 c1 A2 n2 c2) 31
  have bb := bbc
  have bbp := new1 (w.alloc (.cells (k.arr A0 n0 c0 A1 n1 c1 A2 n2 c2) 31)) (.cells #[.int .i64 p.code, .int .i64 p.who, .int .i64 p.seq, .int .i64 p.rev, .int .i64 p.lease, .int .i64 p.ttl, .bool p.yes, .slice D0 m0 d0, .slice D1 m1 d1] 41)
  have W_c := W_c.below bbp
  have W_p := own_new (w.alloc (.cells (k.arr A0 n0 c0 A1 n1 c1 A2 n2 c2) 31)) #[.int .i64 p.code, .int .i64 p.who, .int .i64 p.seq, .int .i64 p.rev, .int .i64 p.lease, .int .i64 p.ttl, .bool p.yes, .slice D0 m0 d0, .slice D1 m1 d1] 41
  rw [show (w.alloc (.cells (k.arr A0 n0 c0 A1 n1 c1 A2 n2 c2) 31)).heap.size = w.heap.size + 1 by simp] at W_p
  have bb := then_ bb bbp
  have O_c_0 := Lib.hid W_c
  have O_p_0 := Lib.hid W_p
  have B_0 := Lib.hid bb
  clear bb bbc bbp W_c W_p
  go_enter Try.func4, Try.ntmps4
  have x_c_1 := O_c_0.out.cell 1 _ rfl
  have x_c_2 := O_c_0.out.cell 2 _ rfl
  have x_c_3 := O_c_0.out.cell 3 _ rfl
  have x_c_4 := O_c_0.out.cell 4 _ rfl
  have x_c_5 := O_c_0.out.cell 5 _ rfl
  have x_c_6 := O_c_0.out.cell 6 _ rfl
  have x_c_7 := O_c_0.out.cell 7 _ rfl
  have x_c_8 := O_c_0.out.cell 8 _ rfl
  have x_c_9 := O_c_0.out.cell 9 _ rfl
  have x_c_10 := O_c_0.out.cell 10 _ rfl
  have x_c_11 := O_c_0.out.cell 11 _ rfl
  have x_c_12 := O_c_0.out.cell 12 _ rfl
  have x_c_13 := O_c_0.out.cell 13 _ rfl
  go_wp2_with (first | (refine wpList_load_row rfl 31 _ rfl _ rfl 31 _ (0, 0) _ O_c_0.out.ex Try.underlying31 rfl (by kernel_rfl) ?_) | (refine wpList_load_row rfl 41 _ rfl _ rfl 41 _ (0, 0) _ O_p_0.out.ex Try.underlying41 rfl (by kernel_rfl) ?_))
  clear x_c_1 x_c_2 x_c_3 x_c_4 x_c_5 x_c_6 x_c_7 x_c_8 x_c_9 x_c_10 x_c_11 x_c_12 x_c_13
  refine (short_any k.y A0 n0 c0 A1 n1 c1 A2 n2 c2 _ (KQ.out _ B_0.out)).mono ?_; rintro e w1 ⟨rfl, hb⟩
  have O_c_1 := Lib.hid (O_c_0.out.below hb)
  have O_p_1 := Lib.hid (O_p_0.out.below hb)
  have B_1 := Lib.hid (then_ B_0.out hb)
  clear B_0 O_c_0 O_p_0
  clear hb
  rw [HS.out]
  go_wp2_with fail
  refine (clive_any _).mono ?_; rintro e w2 ⟨rfl, hb⟩
  have B_2 := Lib.hid (then_ B_1.out hb)
  clear B_1 
  clear hb
  go_wp2
  go_ret
  exact ⟨rfl, B_2.out⟩
theorem wide (w : World) (k : Cl) (A0 : Option Addr) (n0 c0 : Nat) (A1 : Option Addr) (n1 c1 : Nat) (A2 : Option Addr) (n2 c2 : Nat) (now : Int) (p : Rp) (D0 : Option Addr) (m0 d0 : Nat) (D1 : Option Addr) (m1 d1 : Nat) (h : ClAt w k A0 n0 c0 A1 n1 c1 A2 n2 c2) (hp : RpAt w p D0 m0 d0 D1 m1 d1) (hs : shortQ k.y = true) (ht : 1099511627775 < k.tries) :
    Calls Try.prog 4 #[k.agg A0 n0 c0 A1 n1 c1 A2 n2 c2, .int .i64 now, p.agg D0 m0 d0 D1 m1 d1] w fun e w' => e = .returned (.bool true) ∧ Below w.heap.size w w' := by
  have HS := Lib.hid hs; clear hs
  have KQ := Lib.hid (fun w' (hb : Below w.heap.size w w') => h.rq.keep hb)
  have KP := Lib.hid (fun w' (hb : Below w.heap.size w w') => hp.keep hb)
  clear h hp
  have bbc := new1 w (.cells (k.arr A0 n0 c0 A1 n1 c1 A2 n2 c2) 31)
  have W_c := own_new w (k.arr A0 n0 c0 A1 n1 c1 A2 n2 c2) 31
  have bb := bbc
  have bbp := new1 (w.alloc (.cells (k.arr A0 n0 c0 A1 n1 c1 A2 n2 c2) 31)) (.cells #[.int .i64 p.code, .int .i64 p.who, .int .i64 p.seq, .int .i64 p.rev, .int .i64 p.lease, .int .i64 p.ttl, .bool p.yes, .slice D0 m0 d0, .slice D1 m1 d1] 41)
  have W_c := W_c.below bbp
  have W_p := own_new (w.alloc (.cells (k.arr A0 n0 c0 A1 n1 c1 A2 n2 c2) 31)) #[.int .i64 p.code, .int .i64 p.who, .int .i64 p.seq, .int .i64 p.rev, .int .i64 p.lease, .int .i64 p.ttl, .bool p.yes, .slice D0 m0 d0, .slice D1 m1 d1] 41
  rw [show (w.alloc (.cells (k.arr A0 n0 c0 A1 n1 c1 A2 n2 c2) 31)).heap.size = w.heap.size + 1 by simp] at W_p
  have bb := then_ bb bbp
  have O_c_0 := Lib.hid W_c
  have O_p_0 := Lib.hid W_p
  have B_0 := Lib.hid bb
  clear bb bbc bbp W_c W_p
  go_enter Try.func4, Try.ntmps4
  have x_c_1 := O_c_0.out.cell 1 _ rfl
  have x_c_2 := O_c_0.out.cell 2 _ rfl
  have x_c_3 := O_c_0.out.cell 3 _ rfl
  have x_c_4 := O_c_0.out.cell 4 _ rfl
  have x_c_5 := O_c_0.out.cell 5 _ rfl
  have x_c_6 := O_c_0.out.cell 6 _ rfl
  have x_c_7 := O_c_0.out.cell 7 _ rfl
  have x_c_8 := O_c_0.out.cell 8 _ rfl
  have x_c_9 := O_c_0.out.cell 9 _ rfl
  have x_c_10 := O_c_0.out.cell 10 _ rfl
  have x_c_11 := O_c_0.out.cell 11 _ rfl
  have x_c_12 := O_c_0.out.cell 12 _ rfl
  have x_c_13 := O_c_0.out.cell 13 _ rfl
  go_wp2_with (first | (refine wpList_load_row rfl 31 _ rfl _ rfl 31 _ (0, 0) _ O_c_0.out.ex Try.underlying31 rfl (by kernel_rfl) ?_) | (refine wpList_load_row rfl 41 _ rfl _ rfl 41 _ (0, 0) _ O_p_0.out.ex Try.underlying41 rfl (by kernel_rfl) ?_))
  clear x_c_1 x_c_2 x_c_3 x_c_4 x_c_5 x_c_6 x_c_7 x_c_8 x_c_9 x_c_10 x_c_11 x_c_12 x_c_13
  refine (short_any k.y A0 n0 c0 A1 n1 c1 A2 n2 c2 _ (KQ.out _ B_0.out)).mono ?_; rintro e w1 ⟨rfl, hb⟩
  have O_c_1 := Lib.hid (O_c_0.out.below hb)
  have O_p_1 := Lib.hid (O_p_0.out.below hb)
  have B_1 := Lib.hid (then_ B_0.out hb)
  clear B_0 O_c_0 O_p_0
  clear hb
  rw [HS.out]
  have x_c_16 := O_c_1.out.cell 16 _ rfl
  go_wp2_with fail
  clear x_c_16
  refine (clive_any _).mono ?_; rintro e w2 ⟨rfl, hb⟩
  have B_2 := Lib.hid (then_ B_1.out hb)
  clear B_1 
  clear hb
  go_wp2
  go_ret
  exact ⟨rfl, B_2.out⟩
theorem many (w : World) (k : Cl) (A0 : Option Addr) (n0 c0 : Nat) (A1 : Option Addr) (n1 c1 : Nat) (A2 : Option Addr) (n2 c2 : Nat) (now : Int) (p : Rp) (D0 : Option Addr) (m0 d0 : Nat) (D1 : Option Addr) (m1 d1 : Nat) (h : ClAt w k A0 n0 c0 A1 n1 c1 A2 n2 c2) (hp : RpAt w p D0 m0 d0 D1 m1 d1) (hs : shortQ k.y = true) (ht : ¬ 1099511627775 < k.tries) (hf : fewT 40 shKV p.kvs = false) :
    Calls Try.prog 4 #[k.agg A0 n0 c0 A1 n1 c1 A2 n2 c2, .int .i64 now, p.agg D0 m0 d0 D1 m1 d1] w fun e w' => e = .returned (.bool true) ∧ Below w.heap.size w w' := by
  have HF := Lib.hid hf; clear hf
  have HS := Lib.hid hs; clear hs
  have KQ := Lib.hid (fun w' (hb : Below w.heap.size w w') => h.rq.keep hb)
  have KP := Lib.hid (fun w' (hb : Below w.heap.size w w') => hp.keep hb)
  clear h hp
  have bbc := new1 w (.cells (k.arr A0 n0 c0 A1 n1 c1 A2 n2 c2) 31)
  have W_c := own_new w (k.arr A0 n0 c0 A1 n1 c1 A2 n2 c2) 31
  have bb := bbc
  have bbp := new1 (w.alloc (.cells (k.arr A0 n0 c0 A1 n1 c1 A2 n2 c2) 31)) (.cells #[.int .i64 p.code, .int .i64 p.who, .int .i64 p.seq, .int .i64 p.rev, .int .i64 p.lease, .int .i64 p.ttl, .bool p.yes, .slice D0 m0 d0, .slice D1 m1 d1] 41)
  have W_c := W_c.below bbp
  have W_p := own_new (w.alloc (.cells (k.arr A0 n0 c0 A1 n1 c1 A2 n2 c2) 31)) #[.int .i64 p.code, .int .i64 p.who, .int .i64 p.seq, .int .i64 p.rev, .int .i64 p.lease, .int .i64 p.ttl, .bool p.yes, .slice D0 m0 d0, .slice D1 m1 d1] 41
  rw [show (w.alloc (.cells (k.arr A0 n0 c0 A1 n1 c1 A2 n2 c2) 31)).heap.size = w.heap.size + 1 by simp] at W_p
  have bb := then_ bb bbp
  have O_c_0 := Lib.hid W_c
  have O_p_0 := Lib.hid W_p
  have B_0 := Lib.hid bb
  clear bb bbc bbp W_c W_p
  go_enter Try.func4, Try.ntmps4
  have x_c_1 := O_c_0.out.cell 1 _ rfl
  have x_c_2 := O_c_0.out.cell 2 _ rfl
  have x_c_3 := O_c_0.out.cell 3 _ rfl
  have x_c_4 := O_c_0.out.cell 4 _ rfl
  have x_c_5 := O_c_0.out.cell 5 _ rfl
  have x_c_6 := O_c_0.out.cell 6 _ rfl
  have x_c_7 := O_c_0.out.cell 7 _ rfl
  have x_c_8 := O_c_0.out.cell 8 _ rfl
  have x_c_9 := O_c_0.out.cell 9 _ rfl
  have x_c_10 := O_c_0.out.cell 10 _ rfl
  have x_c_11 := O_c_0.out.cell 11 _ rfl
  have x_c_12 := O_c_0.out.cell 12 _ rfl
  have x_c_13 := O_c_0.out.cell 13 _ rfl
  go_wp2_with (first | (refine wpList_load_row rfl 31 _ rfl _ rfl 31 _ (0, 0) _ O_c_0.out.ex Try.underlying31 rfl (by kernel_rfl) ?_) | (refine wpList_load_row rfl 41 _ rfl _ rfl 41 _ (0, 0) _ O_p_0.out.ex Try.underlying41 rfl (by kernel_rfl) ?_))
  clear x_c_1 x_c_2 x_c_3 x_c_4 x_c_5 x_c_6 x_c_7 x_c_8 x_c_9 x_c_10 x_c_11 x_c_12 x_c_13
  refine (short_any k.y A0 n0 c0 A1 n1 c1 A2 n2 c2 _ (KQ.out _ B_0.out)).mono ?_; rintro e w1 ⟨rfl, hb⟩
  have O_c_1 := Lib.hid (O_c_0.out.below hb)
  have O_p_1 := Lib.hid (O_p_0.out.below hb)
  have B_1 := Lib.hid (then_ B_0.out hb)
  clear B_0 O_c_0 O_p_0
  clear hb
  rw [HS.out]
  have x_p_7 := O_p_1.out.cell 7 _ rfl
  have x_p_8 := O_p_1.out.cell 8 _ rfl
  have x_c_16 := O_c_1.out.cell 16 _ rfl
  go_wp2_with (first | (refine wpList_load_row rfl 31 _ rfl _ rfl 31 _ (0, 0) _ O_c_1.out.ex Try.underlying31 rfl (by kernel_rfl) ?_) | (refine wpList_load_row rfl 41 _ rfl _ rfl 41 _ (0, 0) _ O_p_1.out.ex Try.underlying41 rfl (by kernel_rfl) ?_))
  refine (few_rows D0 m0 d0 p.kvs 40 _ (KP.out _ B_1.out).r0 (KP.out _ B_1.out).ok.kvs (by omega)).mono ?_; rintro e w' ⟨rfl, rfl⟩
  rw [HF.out]
  go_wp2_with fail
  clear x_p_7 x_p_8 x_c_16
  refine (clive_any _).mono ?_; rintro e w2 ⟨rfl, hb⟩
  have B_2 := Lib.hid (then_ B_1.out hb)
  clear B_1 
  clear hb
  go_wp2
  go_ret
  exact ⟨rfl, B_2.out⟩
theorem manye (w : World) (k : Cl) (A0 : Option Addr) (n0 c0 : Nat) (A1 : Option Addr) (n1 c1 : Nat) (A2 : Option Addr) (n2 c2 : Nat) (now : Int) (p : Rp) (D0 : Option Addr) (m0 d0 : Nat) (D1 : Option Addr) (m1 d1 : Nat) (h : ClAt w k A0 n0 c0 A1 n1 c1 A2 n2 c2) (hp : RpAt w p D0 m0 d0 D1 m1 d1) (hs : shortQ k.y = true) (ht : ¬ 1099511627775 < k.tries) (hf : fewT 40 shKV p.kvs = true) (he : fewT 40 shEv p.evs = false) :
    Calls Try.prog 4 #[k.agg A0 n0 c0 A1 n1 c1 A2 n2 c2, .int .i64 now, p.agg D0 m0 d0 D1 m1 d1] w fun e w' => e = .returned (.bool true) ∧ Below w.heap.size w w' := by
  have HF := Lib.hid hf; clear hf
  have HE := Lib.hid he; clear he
  have HS := Lib.hid hs; clear hs
  have KQ := Lib.hid (fun w' (hb : Below w.heap.size w w') => h.rq.keep hb)
  have KP := Lib.hid (fun w' (hb : Below w.heap.size w w') => hp.keep hb)
  clear h hp
  have bbc := new1 w (.cells (k.arr A0 n0 c0 A1 n1 c1 A2 n2 c2) 31)
  have W_c := own_new w (k.arr A0 n0 c0 A1 n1 c1 A2 n2 c2) 31
  have bb := bbc
  have bbp := new1 (w.alloc (.cells (k.arr A0 n0 c0 A1 n1 c1 A2 n2 c2) 31)) (.cells #[.int .i64 p.code, .int .i64 p.who, .int .i64 p.seq, .int .i64 p.rev, .int .i64 p.lease, .int .i64 p.ttl, .bool p.yes, .slice D0 m0 d0, .slice D1 m1 d1] 41)
  have W_c := W_c.below bbp
  have W_p := own_new (w.alloc (.cells (k.arr A0 n0 c0 A1 n1 c1 A2 n2 c2) 31)) #[.int .i64 p.code, .int .i64 p.who, .int .i64 p.seq, .int .i64 p.rev, .int .i64 p.lease, .int .i64 p.ttl, .bool p.yes, .slice D0 m0 d0, .slice D1 m1 d1] 41
  rw [show (w.alloc (.cells (k.arr A0 n0 c0 A1 n1 c1 A2 n2 c2) 31)).heap.size = w.heap.size + 1 by simp] at W_p
  have bb := then_ bb bbp
  have O_c_0 := Lib.hid W_c
  have O_p_0 := Lib.hid W_p
  have B_0 := Lib.hid bb
  clear bb bbc bbp W_c W_p
  go_enter Try.func4, Try.ntmps4
  have x_c_1 := O_c_0.out.cell 1 _ rfl
  have x_c_2 := O_c_0.out.cell 2 _ rfl
  have x_c_3 := O_c_0.out.cell 3 _ rfl
  have x_c_4 := O_c_0.out.cell 4 _ rfl
  have x_c_5 := O_c_0.out.cell 5 _ rfl
  have x_c_6 := O_c_0.out.cell 6 _ rfl
  have x_c_7 := O_c_0.out.cell 7 _ rfl
  have x_c_8 := O_c_0.out.cell 8 _ rfl
  have x_c_9 := O_c_0.out.cell 9 _ rfl
  have x_c_10 := O_c_0.out.cell 10 _ rfl
  have x_c_11 := O_c_0.out.cell 11 _ rfl
  have x_c_12 := O_c_0.out.cell 12 _ rfl
  have x_c_13 := O_c_0.out.cell 13 _ rfl
  go_wp2_with (first | (refine wpList_load_row rfl 31 _ rfl _ rfl 31 _ (0, 0) _ O_c_0.out.ex Try.underlying31 rfl (by kernel_rfl) ?_) | (refine wpList_load_row rfl 41 _ rfl _ rfl 41 _ (0, 0) _ O_p_0.out.ex Try.underlying41 rfl (by kernel_rfl) ?_))
  clear x_c_1 x_c_2 x_c_3 x_c_4 x_c_5 x_c_6 x_c_7 x_c_8 x_c_9 x_c_10 x_c_11 x_c_12 x_c_13
  refine (short_any k.y A0 n0 c0 A1 n1 c1 A2 n2 c2 _ (KQ.out _ B_0.out)).mono ?_; rintro e w1 ⟨rfl, hb⟩
  have O_c_1 := Lib.hid (O_c_0.out.below hb)
  have O_p_1 := Lib.hid (O_p_0.out.below hb)
  have B_1 := Lib.hid (then_ B_0.out hb)
  clear B_0 O_c_0 O_p_0
  clear hb
  rw [HS.out]
  have x_p_7 := O_p_1.out.cell 7 _ rfl
  have x_p_8 := O_p_1.out.cell 8 _ rfl
  have x_c_16 := O_c_1.out.cell 16 _ rfl
  go_wp2_with (first | (refine wpList_load_row rfl 31 _ rfl _ rfl 31 _ (0, 0) _ O_c_1.out.ex Try.underlying31 rfl (by kernel_rfl) ?_) | (refine wpList_load_row rfl 41 _ rfl _ rfl 41 _ (0, 0) _ O_p_1.out.ex Try.underlying41 rfl (by kernel_rfl) ?_))
  refine (few_rows D0 m0 d0 p.kvs 40 _ (KP.out _ B_1.out).r0 (KP.out _ B_1.out).ok.kvs (by omega)).mono ?_; rintro e w' ⟨rfl, rfl⟩
  rw [HF.out]
  go_wp2_with (first | (refine wpList_load_row rfl 31 _ rfl _ rfl 31 _ (0, 0) _ O_c_1.out.ex Try.underlying31 rfl (by kernel_rfl) ?_) | (refine wpList_load_row rfl 41 _ rfl _ rfl 41 _ (0, 0) _ O_p_1.out.ex Try.underlying41 rfl (by kernel_rfl) ?_))
  refine (fewe_rows D1 m1 d1 p.evs 40 _ (KP.out _ B_1.out).r1 (KP.out _ B_1.out).ok.evs (by omega)).mono ?_; rintro e w' ⟨rfl, rfl⟩
  rw [HE.out]
  go_wp2_with fail
  clear x_p_7 x_p_8 x_c_16
  refine (clive_any _).mono ?_; rintro e w2 ⟨rfl, hb⟩
  have B_2 := Lib.hid (then_ B_1.out hb)
  clear B_1 
  clear hb
  go_wp2
  go_ret
  exact ⟨rfl, B_2.out⟩
theorem main (w : World) (k : Cl) (A0 : Option Addr) (n0 c0 : Nat) (A1 : Option Addr) (n1 c1 : Nat) (A2 : Option Addr) (n2 c2 : Nat) (now : Int) (p : Rp) (D0 : Option Addr) (m0 d0 : Nat) (D1 : Option Addr) (m1 d1 : Nat) (h : ClAt w k A0 n0 c0 A1 n1 c1 A2 n2 c2) (hp : RpAt w p D0 m0 d0 D1 m1 d1) (hs : shortQ k.y = true) (ht : ¬ 1099511627775 < k.tries) (hf : fewT 40 shKV p.kvs = true) (he : fewT 40 shEv p.evs = true) (a : Cl) (sa : ByteArray) (ba : Bool) (x : Cl) (E0 : Option Addr) (i0 j0 : Nat) (E1 : Option Addr) (i1 j1 : Nat) (E2 : Option Addr) (i2 j2 : Nat) (g : Bool)
    (cS : (∀ w', Below w.heap.size w w' → Calls Try.prog 23 #[k.agg A0 n0 c0 A1 n1 c1 A2 n2 c2, .int .i64 now] w' fun e w'' => e = .returned (.tuple #[a.agg A0 n0 c0 A1 n1 c1 A2 n2 c2, .string sa, .bool ba]) ∧ Below w'.heap.size w' w''))
    (cSr : (∀ w', Below w.heap.size w w' → Calls Try.prog 24 #[k.agg A0 n0 c0 A1 n1 c1 A2 n2 c2, .int .i64 now] w' fun e w'' => e = .returned (.tuple #[a.agg A0 n0 c0 A1 n1 c1 A2 n2 c2, .string sa, .bool ba]) ∧ Below w'.heap.size w' w''))
    (cG : (∀ w', Below w.heap.size w w' → Calls Try.prog 25 #[k.agg A0 n0 c0 A1 n1 c1 A2 n2 c2, p.agg D0 m0 d0 D1 m1 d1] w' fun e w'' => e = .returned (.tuple #[x.agg E0 i0 j0 E1 i1 j1 E2 i2 j2, .bool g]) ∧ Below w'.heap.size w' w''))
    (cGr : (∀ w', Below w.heap.size w w' → Calls Try.prog 26 #[k.agg A0 n0 c0 A1 n1 c1 A2 n2 c2, p.agg D0 m0 d0 D1 m1 d1] w' fun e w'' => e = .returned (.tuple #[x.agg E0 i0 j0 E1 i1 j1 E2 i2 j2, .bool g]) ∧ Below w'.heap.size w' w''))
    (cA : (∀ w', Below w.heap.size w w' → Calls Try.prog 13 #[a.agg A0 n0 c0 A1 n1 c1 A2 n2 c2, a.agg A0 n0 c0 A1 n1 c1 A2 n2 c2] w' fun e w'' => e = .returned (.bool true) ∧ Below w'.heap.size w' w''))
    (cX : (∀ w', Below w.heap.size w w' → Calls Try.prog 13 #[x.agg E0 i0 j0 E1 i1 j1 E2 i2 j2, x.agg E0 i0 j0 E1 i1 j1 E2 i2 j2] w' fun e w'' => e = .returned (.bool true) ∧ Below w'.heap.size w' w'')) :
    Calls Try.prog 4 #[k.agg A0 n0 c0 A1 n1 c1 A2 n2 c2, .int .i64 now, p.agg D0 m0 d0 D1 m1 d1] w fun e w' => e = .returned (.bool true) ∧ Below w.heap.size w w' := by
  have hbb : ∀ b : Bool, (b == b) = true := fun b => by simp
  have HF := Lib.hid hf; clear hf
  have HE := Lib.hid he; clear he
  have CS_ := Lib.hid cS
  have CSR_ := Lib.hid cSr
  have CG_ := Lib.hid cG
  have CGR_ := Lib.hid cGr
  have CA_ := Lib.hid cA
  have CX_ := Lib.hid cX
  clear cS cSr cG cGr cA cX
  have HS := Lib.hid hs; clear hs
  have KQ := Lib.hid (fun w' (hb : Below w.heap.size w w') => h.rq.keep hb)
  have KP := Lib.hid (fun w' (hb : Below w.heap.size w w') => hp.keep hb)
  clear h hp
  have bbc := new1 w (.cells (k.arr A0 n0 c0 A1 n1 c1 A2 n2 c2) 31)
  have W_c := own_new w (k.arr A0 n0 c0 A1 n1 c1 A2 n2 c2) 31
  have bb := bbc
  have bbp := new1 (w.alloc (.cells (k.arr A0 n0 c0 A1 n1 c1 A2 n2 c2) 31)) (.cells #[.int .i64 p.code, .int .i64 p.who, .int .i64 p.seq, .int .i64 p.rev, .int .i64 p.lease, .int .i64 p.ttl, .bool p.yes, .slice D0 m0 d0, .slice D1 m1 d1] 41)
  have W_c := W_c.below bbp
  have W_p := own_new (w.alloc (.cells (k.arr A0 n0 c0 A1 n1 c1 A2 n2 c2) 31)) #[.int .i64 p.code, .int .i64 p.who, .int .i64 p.seq, .int .i64 p.rev, .int .i64 p.lease, .int .i64 p.ttl, .bool p.yes, .slice D0 m0 d0, .slice D1 m1 d1] 41
  rw [show (w.alloc (.cells (k.arr A0 n0 c0 A1 n1 c1 A2 n2 c2) 31)).heap.size = w.heap.size + 1 by simp] at W_p
  have bb := then_ bb bbp
  have O_c_0 := Lib.hid W_c
  have O_p_0 := Lib.hid W_p
  have B_0 := Lib.hid bb
  clear bb bbc bbp W_c W_p
  go_enter Try.func4, Try.ntmps4
  have x_c_1 := O_c_0.out.cell 1 _ rfl
  have x_c_2 := O_c_0.out.cell 2 _ rfl
  have x_c_3 := O_c_0.out.cell 3 _ rfl
  have x_c_4 := O_c_0.out.cell 4 _ rfl
  have x_c_5 := O_c_0.out.cell 5 _ rfl
  have x_c_6 := O_c_0.out.cell 6 _ rfl
  have x_c_7 := O_c_0.out.cell 7 _ rfl
  have x_c_8 := O_c_0.out.cell 8 _ rfl
  have x_c_9 := O_c_0.out.cell 9 _ rfl
  have x_c_10 := O_c_0.out.cell 10 _ rfl
  have x_c_11 := O_c_0.out.cell 11 _ rfl
  have x_c_12 := O_c_0.out.cell 12 _ rfl
  have x_c_13 := O_c_0.out.cell 13 _ rfl
  go_wp2_with (first | (refine wpList_load_row rfl 31 _ rfl _ rfl 31 _ (0, 0) _ O_c_0.out.ex Try.underlying31 rfl (by kernel_rfl) ?_) | (refine wpList_load_row rfl 41 _ rfl _ rfl 41 _ (0, 0) _ O_p_0.out.ex Try.underlying41 rfl (by kernel_rfl) ?_))
  clear x_c_1 x_c_2 x_c_3 x_c_4 x_c_5 x_c_6 x_c_7 x_c_8 x_c_9 x_c_10 x_c_11 x_c_12 x_c_13
  refine (short_any k.y A0 n0 c0 A1 n1 c1 A2 n2 c2 _ (KQ.out _ B_0.out)).mono ?_; rintro e w1 ⟨rfl, hb⟩
  have O_c_1 := Lib.hid (O_c_0.out.below hb)
  have O_p_1 := Lib.hid (O_p_0.out.below hb)
  have B_1 := Lib.hid (then_ B_0.out hb)
  clear B_0 O_c_0 O_p_0
  clear hb
  rw [HS.out]
  have x_p_7 := O_p_1.out.cell 7 _ rfl
  have x_p_8 := O_p_1.out.cell 8 _ rfl
  have x_c_16 := O_c_1.out.cell 16 _ rfl
  go_wp2_with (first | (refine wpList_load_row rfl 31 _ rfl _ rfl 31 _ (0, 0) _ O_c_1.out.ex Try.underlying31 rfl (by kernel_rfl) ?_) | (refine wpList_load_row rfl 41 _ rfl _ rfl 41 _ (0, 0) _ O_p_1.out.ex Try.underlying41 rfl (by kernel_rfl) ?_))
  refine (few_rows D0 m0 d0 p.kvs 40 _ (KP.out _ B_1.out).r0 (KP.out _ B_1.out).ok.kvs (by omega)).mono ?_; rintro e w' ⟨rfl, rfl⟩
  rw [HF.out]
  go_wp2_with (first | (refine wpList_load_row rfl 31 _ rfl _ rfl 31 _ (0, 0) _ O_c_1.out.ex Try.underlying31 rfl (by kernel_rfl) ?_) | (refine wpList_load_row rfl 41 _ rfl _ rfl 41 _ (0, 0) _ O_p_1.out.ex Try.underlying41 rfl (by kernel_rfl) ?_))
  refine (fewe_rows D1 m1 d1 p.evs 40 _ (KP.out _ B_1.out).r1 (KP.out _ B_1.out).ok.evs (by omega)).mono ?_; rintro e w' ⟨rfl, rfl⟩
  rw [HE.out]
  go_wp2_with (first | (refine wpList_load_row rfl 31 _ rfl _ rfl 31 _ (0, 0) _ O_c_1.out.ex Try.underlying31 rfl (by kernel_rfl) ?_) | (refine wpList_load_row rfl 41 _ rfl _ rfl 41 _ (0, 0) _ O_p_1.out.ex Try.underlying41 rfl (by kernel_rfl) ?_))
  clear x_p_7 x_p_8 x_c_16
  refine (CS_.out _ B_1.out).mono ?_; rintro e w2 ⟨rfl, hb⟩
  have O_c_2 := Lib.hid (O_c_1.out.below hb)
  have O_p_2 := Lib.hid (O_p_1.out.below hb)
  have B_2 := Lib.hid (then_ B_1.out hb)
  clear B_1 O_c_1 O_p_1
  clear hb
  have N := Lib.hid (own_new w2 #[.bool false, .int .i64 0, .int .i64 0, .int .i64 0, .bool false, .string ⟨#[]⟩, .string ⟨#[]⟩, .int .i64 0, .int .i64 0, .int .i64 0, .int .i64 0, .slice none 0 0, .slice none 0 0, .slice none 0 0, .int .i64 0, .int .i64 0, .int .i64 0] 31)
  have bz := below_setRow (new1 w2 (.cells #[.bool false, .int .i64 0, .int .i64 0, .int .i64 0, .bool false, .string ⟨#[]⟩, .string ⟨#[]⟩, .int .i64 0, .int .i64 0, .int .i64 0, .int .i64 0, .slice none 0 0, .slice none 0 0, .slice none 0 0, .int .i64 0, .int .i64 0, .int .i64 0] 31)) (Nat.le_refl _) (a.arr A0 n0 c0 A1 n1 c1 A2 n2 c2)
  have O_c_3 := Lib.hid (O_c_2.out.below bz)
  have O_p_3 := Lib.hid (O_p_2.out.below bz)
  have O_a_3 := Lib.hid (N.out.row (a.arr A0 n0 c0 A1 n1 c1 A2 n2 c2))
  have B_3 := Lib.hid (then_ B_2.out bz)
  clear bz B_2 O_c_2 O_p_2
  go_wp2_with (first | (refine wpList_store_row rfl 31 _ _ rfl _ _ rfl rfl 31 _ N.out.ex (by kernel_rfl) rfl (by simp [Value.oneCell']) ?_) | (refine wpList_load_row rfl 31 _ rfl _ rfl 31 _ (0, 0) _ O_c_3.out.ex Try.underlying31 rfl (by kernel_rfl) ?_) | (refine wpList_load_row rfl 41 _ rfl _ rfl 41 _ (0, 0) _ O_p_3.out.ex Try.underlying41 rfl (by kernel_rfl) ?_) | (refine wpList_load_row rfl 31 _ rfl _ rfl 31 _ (0, 0) _ O_a_3.out.ex Try.underlying31 rfl (by kernel_rfl) ?_))
  clear N
  generalize (w2.alloc (.cells #[.bool false, .int .i64 0, .int .i64 0, .int .i64 0, .bool false, .string ⟨#[]⟩, .string ⟨#[]⟩, .int .i64 0, .int .i64 0, .int .i64 0, .int .i64 0, .slice none 0 0, .slice none 0 0, .slice none 0 0, .int .i64 0, .int .i64 0, .int .i64 0] 31)).setRow w2.heap.size (a.arr A0 n0 c0 A1 n1 c1 A2 n2 c2) = w3 at *
  go_wp2_with (first | (refine wpList_load_row rfl 31 _ rfl _ rfl 31 _ (0, 0) _ O_c_3.out.ex Try.underlying31 rfl (by kernel_rfl) ?_) | (refine wpList_load_row rfl 41 _ rfl _ rfl 41 _ (0, 0) _ O_p_3.out.ex Try.underlying41 rfl (by kernel_rfl) ?_) | (refine wpList_load_row rfl 31 _ rfl _ rfl 31 _ (0, 0) _ O_a_3.out.ex Try.underlying31 rfl (by kernel_rfl) ?_))
  refine (CSR_.out _ B_3.out).mono ?_; rintro e w4 ⟨rfl, hb⟩
  have O_c_4 := Lib.hid (O_c_3.out.below hb)
  have O_p_4 := Lib.hid (O_p_3.out.below hb)
  have O_a_4 := Lib.hid (O_a_3.out.below hb)
  have B_4 := Lib.hid (then_ B_3.out hb)
  clear B_3 O_c_3 O_p_3 O_a_3
  clear hb
  have N := Lib.hid (own_new w4 #[.bool false, .int .i64 0, .int .i64 0, .int .i64 0, .bool false, .string ⟨#[]⟩, .string ⟨#[]⟩, .int .i64 0, .int .i64 0, .int .i64 0, .int .i64 0, .slice none 0 0, .slice none 0 0, .slice none 0 0, .int .i64 0, .int .i64 0, .int .i64 0] 31)
  have bz := below_setRow (new1 w4 (.cells #[.bool false, .int .i64 0, .int .i64 0, .int .i64 0, .bool false, .string ⟨#[]⟩, .string ⟨#[]⟩, .int .i64 0, .int .i64 0, .int .i64 0, .int .i64 0, .slice none 0 0, .slice none 0 0, .slice none 0 0, .int .i64 0, .int .i64 0, .int .i64 0] 31)) (Nat.le_refl _) (a.arr A0 n0 c0 A1 n1 c1 A2 n2 c2)
  have O_c_5 := Lib.hid (O_c_4.out.below bz)
  have O_p_5 := Lib.hid (O_p_4.out.below bz)
  have O_a_5 := Lib.hid (O_a_4.out.below bz)
  have O_b_5 := Lib.hid (N.out.row (a.arr A0 n0 c0 A1 n1 c1 A2 n2 c2))
  have B_5 := Lib.hid (then_ B_4.out bz)
  clear bz B_4 O_c_4 O_p_4 O_a_4
  go_wp2_with (first | (refine wpList_store_row rfl 31 _ _ rfl _ _ rfl rfl 31 _ N.out.ex (by kernel_rfl) rfl (by simp [Value.oneCell']) ?_) | (refine wpList_load_row rfl 31 _ rfl _ rfl 31 _ (0, 0) _ O_c_5.out.ex Try.underlying31 rfl (by kernel_rfl) ?_) | (refine wpList_load_row rfl 41 _ rfl _ rfl 41 _ (0, 0) _ O_p_5.out.ex Try.underlying41 rfl (by kernel_rfl) ?_) | (refine wpList_load_row rfl 31 _ rfl _ rfl 31 _ (0, 0) _ O_a_5.out.ex Try.underlying31 rfl (by kernel_rfl) ?_) | (refine wpList_load_row rfl 31 _ rfl _ rfl 31 _ (0, 0) _ O_b_5.out.ex Try.underlying31 rfl (by kernel_rfl) ?_))
  clear N
  generalize (w4.alloc (.cells #[.bool false, .int .i64 0, .int .i64 0, .int .i64 0, .bool false, .string ⟨#[]⟩, .string ⟨#[]⟩, .int .i64 0, .int .i64 0, .int .i64 0, .int .i64 0, .slice none 0 0, .slice none 0 0, .slice none 0 0, .int .i64 0, .int .i64 0, .int .i64 0] 31)).setRow w4.heap.size (a.arr A0 n0 c0 A1 n1 c1 A2 n2 c2) = w5 at *
  go_wp2_with (first | (refine wpList_load_row rfl 31 _ rfl _ rfl 31 _ (0, 0) _ O_c_5.out.ex Try.underlying31 rfl (by kernel_rfl) ?_) | (refine wpList_load_row rfl 41 _ rfl _ rfl 41 _ (0, 0) _ O_p_5.out.ex Try.underlying41 rfl (by kernel_rfl) ?_) | (refine wpList_load_row rfl 31 _ rfl _ rfl 31 _ (0, 0) _ O_a_5.out.ex Try.underlying31 rfl (by kernel_rfl) ?_) | (refine wpList_load_row rfl 31 _ rfl _ rfl 31 _ (0, 0) _ O_b_5.out.ex Try.underlying31 rfl (by kernel_rfl) ?_))
  refine (CG_.out _ B_5.out).mono ?_; rintro e w6 ⟨rfl, hb⟩
  have O_c_6 := Lib.hid (O_c_5.out.below hb)
  have O_p_6 := Lib.hid (O_p_5.out.below hb)
  have O_a_6 := Lib.hid (O_a_5.out.below hb)
  have O_b_6 := Lib.hid (O_b_5.out.below hb)
  have B_6 := Lib.hid (then_ B_5.out hb)
  clear B_5 O_c_5 O_p_5 O_a_5 O_b_5
  clear hb
  have N := Lib.hid (own_new w6 #[.bool false, .int .i64 0, .int .i64 0, .int .i64 0, .bool false, .string ⟨#[]⟩, .string ⟨#[]⟩, .int .i64 0, .int .i64 0, .int .i64 0, .int .i64 0, .slice none 0 0, .slice none 0 0, .slice none 0 0, .int .i64 0, .int .i64 0, .int .i64 0] 31)
  have bz := below_setRow (new1 w6 (.cells #[.bool false, .int .i64 0, .int .i64 0, .int .i64 0, .bool false, .string ⟨#[]⟩, .string ⟨#[]⟩, .int .i64 0, .int .i64 0, .int .i64 0, .int .i64 0, .slice none 0 0, .slice none 0 0, .slice none 0 0, .int .i64 0, .int .i64 0, .int .i64 0] 31)) (Nat.le_refl _) (x.arr E0 i0 j0 E1 i1 j1 E2 i2 j2)
  have O_c_7 := Lib.hid (O_c_6.out.below bz)
  have O_p_7 := Lib.hid (O_p_6.out.below bz)
  have O_a_7 := Lib.hid (O_a_6.out.below bz)
  have O_b_7 := Lib.hid (O_b_6.out.below bz)
  have O_x_7 := Lib.hid (N.out.row (x.arr E0 i0 j0 E1 i1 j1 E2 i2 j2))
  have B_7 := Lib.hid (then_ B_6.out bz)
  clear bz B_6 O_c_6 O_p_6 O_a_6 O_b_6
  go_wp2_with (first | (refine wpList_store_row rfl 31 _ _ rfl _ _ rfl rfl 31 _ N.out.ex (by kernel_rfl) rfl (by simp [Value.oneCell']) ?_) | (refine wpList_load_row rfl 31 _ rfl _ rfl 31 _ (0, 0) _ O_c_7.out.ex Try.underlying31 rfl (by kernel_rfl) ?_) | (refine wpList_load_row rfl 41 _ rfl _ rfl 41 _ (0, 0) _ O_p_7.out.ex Try.underlying41 rfl (by kernel_rfl) ?_) | (refine wpList_load_row rfl 31 _ rfl _ rfl 31 _ (0, 0) _ O_a_7.out.ex Try.underlying31 rfl (by kernel_rfl) ?_) | (refine wpList_load_row rfl 31 _ rfl _ rfl 31 _ (0, 0) _ O_b_7.out.ex Try.underlying31 rfl (by kernel_rfl) ?_) | (refine wpList_load_row rfl 31 _ rfl _ rfl 31 _ (0, 0) _ O_x_7.out.ex Try.underlying31 rfl (by kernel_rfl) ?_))
  clear N
  generalize (w6.alloc (.cells #[.bool false, .int .i64 0, .int .i64 0, .int .i64 0, .bool false, .string ⟨#[]⟩, .string ⟨#[]⟩, .int .i64 0, .int .i64 0, .int .i64 0, .int .i64 0, .slice none 0 0, .slice none 0 0, .slice none 0 0, .int .i64 0, .int .i64 0, .int .i64 0] 31)).setRow w6.heap.size (x.arr E0 i0 j0 E1 i1 j1 E2 i2 j2) = w7 at *
  go_wp2_with (first | (refine wpList_load_row rfl 31 _ rfl _ rfl 31 _ (0, 0) _ O_c_7.out.ex Try.underlying31 rfl (by kernel_rfl) ?_) | (refine wpList_load_row rfl 41 _ rfl _ rfl 41 _ (0, 0) _ O_p_7.out.ex Try.underlying41 rfl (by kernel_rfl) ?_) | (refine wpList_load_row rfl 31 _ rfl _ rfl 31 _ (0, 0) _ O_a_7.out.ex Try.underlying31 rfl (by kernel_rfl) ?_) | (refine wpList_load_row rfl 31 _ rfl _ rfl 31 _ (0, 0) _ O_b_7.out.ex Try.underlying31 rfl (by kernel_rfl) ?_) | (refine wpList_load_row rfl 31 _ rfl _ rfl 31 _ (0, 0) _ O_x_7.out.ex Try.underlying31 rfl (by kernel_rfl) ?_))
  refine (CGR_.out _ B_7.out).mono ?_; rintro e w8 ⟨rfl, hb⟩
  have O_c_8 := Lib.hid (O_c_7.out.below hb)
  have O_p_8 := Lib.hid (O_p_7.out.below hb)
  have O_a_8 := Lib.hid (O_a_7.out.below hb)
  have O_b_8 := Lib.hid (O_b_7.out.below hb)
  have O_x_8 := Lib.hid (O_x_7.out.below hb)
  have B_8 := Lib.hid (then_ B_7.out hb)
  clear B_7 O_c_7 O_p_7 O_a_7 O_b_7 O_x_7
  clear hb
  have N := Lib.hid (own_new w8 #[.bool false, .int .i64 0, .int .i64 0, .int .i64 0, .bool false, .string ⟨#[]⟩, .string ⟨#[]⟩, .int .i64 0, .int .i64 0, .int .i64 0, .int .i64 0, .slice none 0 0, .slice none 0 0, .slice none 0 0, .int .i64 0, .int .i64 0, .int .i64 0] 31)
  have bz := below_setRow (new1 w8 (.cells #[.bool false, .int .i64 0, .int .i64 0, .int .i64 0, .bool false, .string ⟨#[]⟩, .string ⟨#[]⟩, .int .i64 0, .int .i64 0, .int .i64 0, .int .i64 0, .slice none 0 0, .slice none 0 0, .slice none 0 0, .int .i64 0, .int .i64 0, .int .i64 0] 31)) (Nat.le_refl _) (x.arr E0 i0 j0 E1 i1 j1 E2 i2 j2)
  have O_c_9 := Lib.hid (O_c_8.out.below bz)
  have O_p_9 := Lib.hid (O_p_8.out.below bz)
  have O_a_9 := Lib.hid (O_a_8.out.below bz)
  have O_b_9 := Lib.hid (O_b_8.out.below bz)
  have O_x_9 := Lib.hid (O_x_8.out.below bz)
  have O_y_9 := Lib.hid (N.out.row (x.arr E0 i0 j0 E1 i1 j1 E2 i2 j2))
  have B_9 := Lib.hid (then_ B_8.out bz)
  clear bz B_8 O_c_8 O_p_8 O_a_8 O_b_8 O_x_8
  go_wp2_with (first | (refine wpList_store_row rfl 31 _ _ rfl _ _ rfl rfl 31 _ N.out.ex (by kernel_rfl) rfl (by simp [Value.oneCell']) ?_) | (refine wpList_load_row rfl 31 _ rfl _ rfl 31 _ (0, 0) _ O_c_9.out.ex Try.underlying31 rfl (by kernel_rfl) ?_) | (refine wpList_load_row rfl 41 _ rfl _ rfl 41 _ (0, 0) _ O_p_9.out.ex Try.underlying41 rfl (by kernel_rfl) ?_) | (refine wpList_load_row rfl 31 _ rfl _ rfl 31 _ (0, 0) _ O_a_9.out.ex Try.underlying31 rfl (by kernel_rfl) ?_) | (refine wpList_load_row rfl 31 _ rfl _ rfl 31 _ (0, 0) _ O_b_9.out.ex Try.underlying31 rfl (by kernel_rfl) ?_) | (refine wpList_load_row rfl 31 _ rfl _ rfl 31 _ (0, 0) _ O_x_9.out.ex Try.underlying31 rfl (by kernel_rfl) ?_) | (refine wpList_load_row rfl 31 _ rfl _ rfl 31 _ (0, 0) _ O_y_9.out.ex Try.underlying31 rfl (by kernel_rfl) ?_))
  clear N
  generalize (w8.alloc (.cells #[.bool false, .int .i64 0, .int .i64 0, .int .i64 0, .bool false, .string ⟨#[]⟩, .string ⟨#[]⟩, .int .i64 0, .int .i64 0, .int .i64 0, .int .i64 0, .slice none 0 0, .slice none 0 0, .slice none 0 0, .int .i64 0, .int .i64 0, .int .i64 0] 31)).setRow w8.heap.size (x.arr E0 i0 j0 E1 i1 j1 E2 i2 j2) = w9 at *
  have qA := fun d os => Calls.regrown_of (d := d) (os := os) (w := w9) (CA_.out _ (then_ B_9.out (below_regrown _ d os)))
  have qX := fun d os => Calls.regrown_of (d := d) (os := os) (w := w9) (CX_.out _ (then_ B_9.out (below_regrown _ d os)))
  have qD := fun d os => Calls.regrown_of (d := d) (os := os) (w := w9) (cdue_any k A0 n0 c0 A1 n1 c1 A2 n2 c2 now _)
  have qR := fun d os => Calls.regrown_of (d := d) (os := os) (w := w9) (cduer_any k A0 n0 c0 A1 n1 c1 A2 n2 c2 now _)
  have qL := fun d os => Calls.regrown_of (d := d) (os := os) (w := w9) (clive_any _)
  generalize cdueB k now = u at *
  try simp only [Act.put]
  refine wp_region_quiet_below (by kernel_rfl) (by kernel_rfl) ?_
  repeat (first | (go_big_quiet_want; refine quiet_row 31 _ rfl _ rfl 31 _ _ O_c_9.out.held Try.underlying31 rfl (by kernel_rfl) ?_; simp only [Act.put, List.setIfInBounds_toArray, List.set_cons_succ, List.set_cons_zero]; go_big_quiet_on) | (go_big_quiet_want; refine quiet_row 41 _ rfl _ rfl 41 _ _ O_p_9.out.held Try.underlying41 rfl (by kernel_rfl) ?_; simp only [Act.put, List.setIfInBounds_toArray, List.set_cons_succ, List.set_cons_zero]; go_big_quiet_on) | (go_big_quiet_want; refine quiet_row 31 _ rfl _ rfl 31 _ _ O_a_9.out.held Try.underlying31 rfl (by kernel_rfl) ?_; simp only [Act.put, List.setIfInBounds_toArray, List.set_cons_succ, List.set_cons_zero]; go_big_quiet_on) | (go_big_quiet_want; refine quiet_row 31 _ rfl _ rfl 31 _ _ O_b_9.out.held Try.underlying31 rfl (by kernel_rfl) ?_; simp only [Act.put, List.setIfInBounds_toArray, List.set_cons_succ, List.set_cons_zero]; go_big_quiet_on) | (go_big_quiet_want; refine quiet_row 31 _ rfl _ rfl 31 _ _ O_x_9.out.held Try.underlying31 rfl (by kernel_rfl) ?_; simp only [Act.put, List.setIfInBounds_toArray, List.set_cons_succ, List.set_cons_zero]; go_big_quiet_on) | (go_big_quiet_want; refine quiet_row 31 _ rfl _ rfl 31 _ _ O_y_9.out.held Try.underlying31 rfl (by kernel_rfl) ?_; simp only [Act.put, List.setIfInBounds_toArray, List.set_cons_succ, List.set_cons_zero]; go_big_quiet_on) | go_big_quiet_step (first | (with_reducible exact qA _ _) | (with_reducible exact qX _ _) | (with_reducible exact qD _ _) | (with_reducible exact qR _ _) | (with_reducible exact qL _ _)))
  refine wpQuiet_nil ?_
  intro _ hw'
  obtain ⟨⟨d, os⟩, rfl⟩ := hw'
  go_wp2
  go_ret
  exact ⟨rfl, below_grow B_9.out B_9.out.size _ _⟩
theorem zero_rq (w : World) : RqAt w zCl.y none 0 0 none 0 0 none 0 0 := zeroRq_at w
theorem walk (w : World) (k : Cl) (A0 : Option Addr) (n0 c0 : Nat) (A1 : Option Addr) (n1 c1 : Nat) (A2 : Option Addr) (n2 c2 : Nat) (now : Int) (p : Rp) (D0 : Option Addr) (m0 d0 : Nat) (D1 : Option Addr) (m1 d1 : Nat) (h : ClAt w k A0 n0 c0 A1 n1 c1 A2 n2 c2) (w1 : (Lit.int .i64 now).wf = true) (hp : RpAt w p D0 m0 d0 D1 m1 d1) :
    Calls Try.prog 4 #[k.agg A0 n0 c0 A1 n1 c1 A2 n2 c2, .int .i64 now, p.agg D0 m0 d0 D1 m1 d1] w fun e w' => e = .returned (.bool true) ∧ Below w.heap.size w w' := by
  cases hs : shortQ k.y with
  | false => exact long w k A0 n0 c0 A1 n1 c1 A2 n2 c2 now p D0 m0 d0 D1 m1 d1 h hp hs
  | true =>
    by_cases ht : 1099511627775 < k.tries
    · exact wide w k A0 n0 c0 A1 n1 c1 A2 n2 c2 now p D0 m0 d0 D1 m1 d1 h hp hs ht
    · cases hf : fewT 40 shKV p.kvs with
      | false => exact many w k A0 n0 c0 A1 n1 c1 A2 n2 c2 now p D0 m0 d0 D1 m1 d1 h hp hs ht hf
      | true =>
        cases he : fewT 40 shEv p.evs with
        | false => exact manye w k A0 n0 c0 A1 n1 c1 A2 n2 c2 now p D0 m0 d0 D1 m1 d1 h hp hs ht hf he
        | true =>
          have ht2 : k.tries ≤ 1099511627776 := by omega
          have cA : ∀ w', Below w.heap.size w w' → Calls Try.prog 13 #[(sendC k now).agg A0 n0 c0 A1 n1 c1 A2 n2 c2, (sendC k now).agg A0 n0 c0 A1 n1 c1 A2 n2 c2] w' fun e w'' => e = .returned (.bool true) ∧ Below w'.heap.size w' w'' :=
            fun w' hb => csame_any (sendC k now) A0 n0 c0 A1 n1 c1 A2 n2 c2 w' (by rw [sendC_y]; exact h.rq.keep hb)
          cases hg : getsB k p.who p.seq with
          | false => exact main w k A0 n0 c0 A1 n1 c1 A2 n2 c2 now p D0 m0 d0 D1 m1 d1 h hp hs ht hf he (sendC k now) (sendS k now) (sendsB k now) k A0 n0 c0 A1 n1 c1 A2 n2 c2 false (fun w' hb => sends_uni k A0 n0 c0 A1 n1 c1 A2 n2 c2 now w' (h.keep hb) ht2) (fun w' hb => sendsr_uni k A0 n0 c0 A1 n1 c1 A2 n2 c2 now w' (h.keep hb) ht2) (fun w' hb => gets_not k A0 n0 c0 A1 n1 c1 A2 n2 c2 p D0 m0 d0 D1 m1 d1 w' hg) (fun w' hb => getsr_not k A0 n0 c0 A1 n1 c1 A2 n2 c2 p D0 m0 d0 D1 m1 d1 w' hg) cA (fun w' hb => csame_any k A0 n0 c0 A1 n1 c1 A2 n2 c2 w' (h.rq.keep hb))
          | true => exact main w k A0 n0 c0 A1 n1 c1 A2 n2 c2 now p D0 m0 d0 D1 m1 d1 h hp hs ht hf he (sendC k now) (sendS k now) (sendsB k now) zCl none 0 0 none 0 0 none 0 0 true (fun w' hb => sends_uni k A0 n0 c0 A1 n1 c1 A2 n2 c2 now w' (h.keep hb) ht2) (fun w' hb => sendsr_uni k A0 n0 c0 A1 n1 c1 A2 n2 c2 now w' (h.keep hb) ht2) (fun w' hb => gets_is k A0 n0 c0 A1 n1 c1 A2 n2 c2 p D0 m0 d0 D1 m1 d1 w' hg) (fun w' hb => getsr_is k A0 n0 c0 A1 n1 c1 A2 n2 c2 p D0 m0 d0 D1 m1 d1 w' hg) cA (fun w' hb => csame_any zCl none 0 0 none 0 0 none 0 0 w' (zero_rq w'))

theorem own : ownKnob Try.prog.godebug = none := by kernel_rfl
theorem laidOut : laidOutB Try.prog = true := by kernel_rfl

set_option maxRecDepth 100000 in
theorem lifted (os : Os) (started : os.Started) (H : Type) (enc : TypeId × Value → H) :
    ReturnsInHanded {} Try.checked os 4 .any (Rows.callSendsSpec.pre6 enc Try.prog Try.f4 Rows.callSendsRow.domain false) (Rows.callSendsSpec.post enc Try.prog Try.f4 false true false false) := by
  refine returnsInHanded_of_change (C := Try.checked) own started (by kernel_rfl) Try.func4
    (ChangeSpec.witness6 (enc := enc) (C := Try.checked) false ⟨#[], #[.agg #[.bool false, .int .i64 0, .int .i64 0, .int .i64 0, .bool false, .string ByteArray.empty, .string ByteArray.empty, .int .i64 0, .int .i64 0, .int .i64 0, .int .i64 0, .slice none 0 0, .slice none 0 0, .slice none 0 0, .int .i64 0, .int .i64 0, .int .i64 0], (.int .i64 0), .agg #[.int .i64 0, .int .i64 0, .int .i64 0, .int .i64 0, .int .i64 0, .int .i64 0, .bool false, .slice none 0 0, .slice none 0 0]], []⟩ 8 (by kernel_rfl) (by kernel_rfl) (by kernel_rfl) (by kernel_rfl)) ?_
  intro W base args ds gs before hval0 hW hcnd _
  have hval : ∀ (j : Nat) t v, Try.f4.params[j]? = some t → args[j]? = some v → Value.okWide Try.prog W .any base t v := hval0
  have hW' := hW
  obtain ⟨p, q, hA0, hV, rfl, hfz, hnd⟩ := hW
  have hA : DataW.TrodAll enc Try.prog W 0 (fun _ => true) true Try.f4.params.toList args.toList ds p := hA0
  rw [Try.params4] at hA hval
  obtain ⟨v0, vs0, d0, ds0, p0, q0, hargs, rfl, rfl, h0, r0⟩ := trodAll_cons hA
  obtain ⟨v1, vs1, d1, ds1, p1, q1, rfl, rfl, rfl, h1, r1⟩ := trodAll_cons r0
  obtain ⟨v2, vs2, d2, ds2, p2, q2, rfl, rfl, rfl, h2, r2⟩ := trodAll_cons r1
  obtain ⟨rfl, rfl, rfl⟩ := trodAll_nil r2
  obtain rfl : args = #[v0, v1, v2] := by cases args; simp_all
  obtain ⟨rfl, rfl⟩ := trodVars_none hV
  obtain ⟨z0, A0, n0, c0, B0, m0, d0, C0, o0, e0, rfl, k0⟩ := open_cl (hval 0 31 v0 rfl rfl) h0
  obtain ⟨a1, rfl, rfl, rfl, w1⟩ := open_int Try.underlying3 (hval 1 3 v1 rfl rfl) h1
  obtain ⟨y2, A2, n2, c2, B2, m2, d2, rfl, k2⟩ := open_rp (hval 2 41 v2 rfl rfl) h2
  clear hA0 hval0
  refine (walk W z0 A0 n0 c0 B0 m0 d0 C0 o0 e0 a1 y2 A2 n2 c2 B2 m2 d2 k0 w1 k2).mono fun e W' ⟨he, bel⟩ => ?_
  subst he
  exact ⟨_, rfl, _, _, _, [], _, [], hW', trodAll_mk1 (shut_bool Try.underlying4 _), (trodAll_cons_mk (Below.trod laidOut (by kernel_rfl) (of_decide_eq_true (by kernel_rfl)) h0 bel (fun x hx => hW'.lt x (by simp [hx]))) (trodAll_cons_mk (shut_int Try.underlying3 w1) (trodAll_cons_mk (Below.trod laidOut (by kernel_rfl) (of_decide_eq_true (by kernel_rfl)) h2 bel (fun x hx => hW'.lt x (by simp [hx]))) trodAll_mk0))), rfl, bel.frame _, fun h => by cases h⟩

theorem over : Rows.callSendsRow.holds Try.pinned (OpenSpec.ofChange Rows.callSendsSpec) :=
  OpenClaim.holds_of_wide 4 Try.f4 rfl rfl rfl rfl rfl rfl rfl ⟨rfl, rfl, rfl, rfl, rfl⟩ rfl rfl rfl rfl rfl (by kernel_rfl) Try.func4 (by kernel_rfl)
    (of_decide_eq_true (by kernel_rfl)) (by unfold Func.isWrapper; first | (rw [if_pos (by decide +kernel)]; kernel_rfl) | (rw [if_neg (by decide +kernel)]; exact ⟨rfl, rfl⟩))
    (fun os started H enc _ => lifted os started H enc)

theorem proved : Rows.CallSendsSaid := over
#print axioms proved
end Go.Proofs.Ytmklafbmelkpmaa.callSends
