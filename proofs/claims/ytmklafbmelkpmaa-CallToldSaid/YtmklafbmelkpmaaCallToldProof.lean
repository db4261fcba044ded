/- For every call, every time and every reply the law CallTold answers true: once told, a call is off, is sent no more, and is told no more; told of another one it is as it was. No condition. -/
import Derived.Test.YtmklafbmelkpmaaClRef
import Derived.Test.YtmklafbmelkpmaaClSame
import Derived.Test.YtmklafbmelkpmaaClOpen
import Derived.Test.YtmklafbmelkpmaaClLive
import Derived.Test.YtmklafbmelkpmaaKeyTwo
import Derived.Lib.QuietBelow
import Derived.Deep.Cut
import Derived.Deep.DeepCutAuto
import Derived.Test.YtmklafbmelkpmaaRows
namespace Go.Proofs.Ytmklafbmelkpmaa.callTold
open Go.ChangeShapes Go.WideShapes Go.ChangeAt Go.RowKit Go.Sort Go.Proofs.Ytmklafbmelkpmaa.P
open Go.ChangeMaps (open_string shut_string)
set_option maxHeartbeats 4000000
set_option linter.unusedVariables false
set_option linter.unusedSimpArgs false
set_option maxRecDepth 100000

/-- A whole row loaded where a guard lets it. -/
theorem wpList_load_rowG {P : Program} {ops : Array Oper} {rest : List Oper} {o : Oper} {a : Act} {w : World} {Q : Exit → Act → World → Prop} (ty : TypeId) (x : Operand) (ho : o.op = .load ty x)
    (g : Nat) (hx : a.eval x = .pointer (some ⟨g, 0, none⟩)) (t : TypeId) (cs : Array Value) (fr : Nat × Nat) (d : TypeDesc) (hg : w.heap[g]? = some (.cells cs t fr))
    (hu : P.underlying ty = some d) (hd : (match d with | .struct _ | .array _ _ => true | _ => false) = true) (hi : (P.info? ty).map (·.size) = some cs.size)
    (hw : Region.wanted o (yielded ops a.tmps) = true) (h : wpList P ops Q rest (a.put o.dst (.agg cs)) w) : wpList P ops Q (o :: rest) a w :=
  wpList_step fun K hK => by rw [if_pos hw]; exact wp_load_row ty x ho g hx t cs fr d hg hu hd hi (hK _ _ h)
theorem zero_cl (w : World) : ClAt w zCl none 0 0 none 0 0 none 0 0 := ⟨zeroRq_at w, zero_in, zero_in, zero_in⟩
theorem long (w : World) (k : Cl) (A0 : Option Addr) (n0 c0 : Nat) (A1 : Option Addr) (n1 c1 : Nat) (A2 : Option Addr) (n2 c2 : Nat) (now : Int) (p : Rp) (D0 : Option Addr) (m0 d0 : Nat) (D1 : Option Addr) (m1 d1 : Nat) (h : ClAt w k A0 n0 c0 A1 n1 c1 A2 n2 c2) (hs : shortQ k.y = false) :
    Calls Try.prog 6 #[k.agg A0 n0 c0 A1 n1 c1 A2 n2 c2, .int .i64 now, p.agg D0 m0 d0 D1 m1 d1] w fun e w' => e = .returned (.bool true) ∧ Below w.heap.size w w' := by
  have HS := Lib.hid hs; clear hs
  have KQ := Lib.hid (fun w' (hb : Below w.heap.size w w') => h.keep hb)
  clear h
  have bbc := new1 w (.cells (k.arr A0 n0 c0 A1 n1 c1 A2 n2 c2) 31)
  have W_c := own_new w (k.arr A0 n0 c0 A1 n1 c1 A2 n2 c2) 31
  have bb := bbc
  have bbp := new1 (w.alloc (.cells (k.arr A0 n0 c0 A1 n1 c1 A2 n2 c2) 31)) (.cells #[.int .i64 p.code, .int .i64 p.who, .int .i64 p.seq, .int .i64 p.rev, .int .i64 p.lease, .int .i64 p.ttl, .bool p.yes, .slice D0 m0 d0, .slice D1 m1 d1] 41)
  have W_c := W_c.below bbp
  have W_p := own_new (w.alloc (.cells (k.arr A0 n0 c0 A1 n1 c1 A2 n2 c2) 31)) #[.int .i64 p.code, .int .i64 p.who, .int .i64 p.seq, .int .i64 p.rev, .int .i64 p.lease, .int .i64 p.ttl, .bool p.yes, .slice D0 m0 d0, .slice D1 m1 d1] 41
  rw [show (w.alloc (.cells (k.arr A0 n0 c0 A1 n1 c1 A2 n2 c2) 31)).heap.size = w.heap.size + 1 by simp] at W_p
  have bb := then_ bb bbp
  have O_c_0 := Lib.hid W_c
  have O_p_0 := Lib.hid W_p
  have B_0 := Lib.hid bb
  clear bb bbc bbp W_c W_p
  go_enter Try.func6, Try.ntmps6
  have x_c_1 := O_c_0.out.cell 1 _ rfl
  have x_c_2 := O_c_0.out.cell 2 _ rfl
  have x_c_3 := O_c_0.out.cell 3 _ rfl
  have x_c_4 := O_c_0.out.cell 4 _ rfl
  have x_c_5 := O_c_0.out.cell 5 _ rfl
  have x_c_6 := O_c_0.out.cell 6 _ rfl
  have x_c_7 := O_c_0.out.cell 7 _ rfl
  have x_c_8 := O_c_0.out.cell 8 _ rfl
  have x_c_9 := O_c_0.out.cell 9 _ rfl
  have x_c_10 := O_c_0.out.cell 10 _ rfl
  have x_c_11 := O_c_0.out.cell 11 _ rfl
  have x_c_12 := O_c_0.out.cell 12 _ rfl
  have x_c_13 := O_c_0.out.cell 13 _ rfl
  go_wp2_with (first | (refine wpList_load_row rfl 31 _ rfl _ rfl 31 _ (0, 0) _ O_c_0.out.ex Try.underlying31 rfl (by kernel_rfl) ?_) | (refine wpList_load_row rfl 41 _ rfl _ rfl 41 _ (0, 0) _ O_p_0.out.ex Try.underlying41 rfl (by kernel_rfl) ?_))
  clear x_c_1 x_c_2 x_c_3 x_c_4 x_c_5 x_c_6 x_c_7 x_c_8 x_c_9 x_c_10 x_c_11 x_c_12 x_c_13
  refine (short_any k.y A0 n0 c0 A1 n1 c1 A2 n2 c2 _ (KQ.out _ B_0.out).rq).mono ?_; rintro e w1 ⟨rfl, hb⟩
  have O_c_1 := Lib.hid (O_c_0.out.below hb)
  have O_p_1 := Lib.hid (O_p_0.out.below hb)
  have B_1 := Lib.hid (then_ B_0.out hb)
  clear B_0 O_c_0 O_p_0
  clear hb
  rw [HS.out]
  go_wp2_with fail
  refine (clive_any _).mono ?_; rintro e w2 ⟨rfl, hb⟩
  have B_2 := Lib.hid (then_ B_1.out hb)
  clear B_1 
  clear hb
  go_wp2
  go_ret
  exact ⟨rfl, B_2.out⟩
theorem wide (w : World) (k : Cl) (A0 : Option Addr) (n0 c0 : Nat) (A1 : Option Addr) (n1 c1 : Nat) (A2 : Option Addr) (n2 c2 : Nat) (now : Int) (p : Rp) (D0 : Option Addr) (m0 d0 : Nat) (D1 : Option Addr) (m1 d1 : Nat) (h : ClAt w k A0 n0 c0 A1 n1 c1 A2 n2 c2) (hs : shortQ k.y = true) (ht : 1099511627775 < k.tries) :
    Calls Try.prog 6 #[k.agg A0 n0 c0 A1 n1 c1 A2 n2 c2, .int .i64 now, p.agg D0 m0 d0 D1 m1 d1] w fun e w' => e = .returned (.bool true) ∧ Below w.heap.size w w' := by
  have HS := Lib.hid hs; clear hs
  have KQ := Lib.hid (fun w' (hb : Below w.heap.size w w') => h.keep hb)
  clear h
  have bbc := new1 w (.cells (k.arr A0 n0 c0 A1 n1 c1 A2 n2 c2) 31)
  have W_c := own_new w (k.arr A0 n0 c0 A1 n1 c1 A2 n2 c2) 31
  have bb := bbc
  have bbp := new1 (w.alloc (.cells (k.arr A0 n0 c0 A1 n1 c1 A2 n2 c2) 31)) (.cells #[.int .i64 p.code, .int .i64 p.who, .int .i64 p.seq, .int .i64 p.rev, .int .i64 p.lease, .int .i64 p.ttl, .bool p.yes, .slice D0 m0 d0, .slice D1 m1 d1] 41)
  have W_c := W_c.below bbp
  have W_p := own_new (w.alloc (.cells (k.arr A0 n0 c0 A1 n1 c1 A2 n2 c2) 31)) #[.int .i64 p.code, .int .i64 p.who, .int .i64 p.seq, .int .i64 p.rev, .int .i64 p.lease, .int .i64 p.ttl, .bool p.yes, .slice D0 m0 d0, .slice D1 m1 d1] 41
  rw [show (w.alloc (.cells (k.arr A0 n0 c0 A1 n1 c1 A2 n2 c2) 31)).heap.size = w.heap.size + 1 by simp] at W_p
  have bb := then_ bb bbp
  have O_c_0 := Lib.hid W_c
  have O_p_0 := Lib.hid W_p
  have B_0 := Lib.hid bb
  clear bb bbc bbp W_c W_p
  go_enter Try.func6, Try.ntmps6
  have x_c_1 := O_c_0.out.cell 1 _ rfl
  have x_c_2 := O_c_0.out.cell 2 _ rfl
  have x_c_3 := O_c_0.out.cell 3 _ rfl
  have x_c_4 := O_c_0.out.cell 4 _ rfl
  have x_c_5 := O_c_0.out.cell 5 _ rfl
  have x_c_6 := O_c_0.out.cell 6 _ rfl
  have x_c_7 := O_c_0.out.cell 7 _ rfl
  have x_c_8 := O_c_0.out.cell 8 _ rfl
  have x_c_9 := O_c_0.out.cell 9 _ rfl
  have x_c_10 := O_c_0.out.cell 10 _ rfl
  have x_c_11 := O_c_0.out.cell 11 _ rfl
  have x_c_12 := O_c_0.out.cell 12 _ rfl
  have x_c_13 := O_c_0.out.cell 13 _ rfl
  go_wp2_with (first | (refine wpList_load_row rfl 31 _ rfl _ rfl 31 _ (0, 0) _ O_c_0.out.ex Try.underlying31 rfl (by kernel_rfl) ?_) | (refine wpList_load_row rfl 41 _ rfl _ rfl 41 _ (0, 0) _ O_p_0.out.ex Try.underlying41 rfl (by kernel_rfl) ?_))
  clear x_c_1 x_c_2 x_c_3 x_c_4 x_c_5 x_c_6 x_c_7 x_c_8 x_c_9 x_c_10 x_c_11 x_c_12 x_c_13
  refine (short_any k.y A0 n0 c0 A1 n1 c1 A2 n2 c2 _ (KQ.out _ B_0.out).rq).mono ?_; rintro e w1 ⟨rfl, hb⟩
  have O_c_1 := Lib.hid (O_c_0.out.below hb)
  have O_p_1 := Lib.hid (O_p_0.out.below hb)
  have B_1 := Lib.hid (then_ B_0.out hb)
  clear B_0 O_c_0 O_p_0
  clear hb
  rw [HS.out]
  have x_c_16 := O_c_1.out.cell 16 _ rfl
  go_wp2_with fail
  clear x_c_16
  refine (clive_any _).mono ?_; rintro e w2 ⟨rfl, hb⟩
  have B_2 := Lib.hid (then_ B_1.out hb)
  clear B_1 
  clear hb
  go_wp2
  go_ret
  exact ⟨rfl, B_2.out⟩
theorem m_off (w : World) (k : Cl) (A0 : Option Addr) (n0 c0 : Nat) (A1 : Option Addr) (n1 c1 : Nat) (A2 : Option Addr) (n2 c2 : Nat) (now : Int) (p : Rp) (D0 : Option Addr) (m0 d0 : Nat) (D1 : Option Addr) (m1 d1 : Nat) (h : ClAt w k A0 n0 c0 A1 n1 c1 A2 n2 c2) (hs : shortQ k.y = true) (ht : ¬ 1099511627775 < k.tries) (ho : k.on = false) :
    Calls Try.prog 6 #[k.agg A0 n0 c0 A1 n1 c1 A2 n2 c2, .int .i64 now, p.agg D0 m0 d0 D1 m1 d1] w fun e w' => e = .returned (.bool true) ∧ Below w.heap.size w w' := by
  obtain ⟨on, y, sent, next, tries⟩ := k
  simp only at ho hs ht
  subst ho
  have C1 := Lib.hid (fun w' => gets_not (Cl.mk false y sent next tries) A0 n0 c0 A1 n1 c1 A2 n2 c2 p D0 m0 d0 D1 m1 d1 w' (by unfold getsB; rfl))
  have C2 := Lib.hid (fun w' => gets_not (Cl.mk false y sent next tries) A0 n0 c0 A1 n1 c1 A2 n2 c2 (Rp.mk p.code y.who y.seq p.rev p.lease p.ttl p.yes p.kvs p.evs) D0 m0 d0 D1 m1 d1 w' (by unfold getsB; rfl))
  have C3 := Lib.hid (fun w' => gets_not (Cl.mk false y sent next tries) A0 n0 c0 A1 n1 c1 A2 n2 c2 (Rp.mk p.code y.who y.seq p.rev p.lease p.ttl p.yes p.kvs p.evs) D0 m0 d0 D1 m1 d1 w' (by unfold getsB; rfl))
  have HA := Lib.hid h
  have HT := Lib.hid ht
  have C4 := Lib.hid (fun w' (hb : Below w.heap.size w w') => sends_uni (Cl.mk false y sent next tries) A0 n0 c0 A1 n1 c1 A2 n2 c2 now w' (HA.out.keep hb) (by have := HT.out; simp only; omega))
  have HS := Lib.hid hs; clear hs
  have KQ := Lib.hid (fun w' (hb : Below w.heap.size w w') => h.keep hb)
  clear h
  have bbc := new1 w (.cells ((Cl.mk false y sent next tries).arr A0 n0 c0 A1 n1 c1 A2 n2 c2) 31)
  have W_c := own_new w ((Cl.mk false y sent next tries).arr A0 n0 c0 A1 n1 c1 A2 n2 c2) 31
  have bb := bbc
  have bbp := new1 (w.alloc (.cells ((Cl.mk false y sent next tries).arr A0 n0 c0 A1 n1 c1 A2 n2 c2) 31)) (.cells #[.int .i64 p.code, .int .i64 p.who, .int .i64 p.seq, .int .i64 p.rev, .int .i64 p.lease, .int .i64 p.ttl, .bool p.yes, .slice D0 m0 d0, .slice D1 m1 d1] 41)
  have W_c := W_c.below bbp
  have W_p := own_new (w.alloc (.cells ((Cl.mk false y sent next tries).arr A0 n0 c0 A1 n1 c1 A2 n2 c2) 31)) #[.int .i64 p.code, .int .i64 p.who, .int .i64 p.seq, .int .i64 p.rev, .int .i64 p.lease, .int .i64 p.ttl, .bool p.yes, .slice D0 m0 d0, .slice D1 m1 d1] 41
  rw [show (w.alloc (.cells ((Cl.mk false y sent next tries).arr A0 n0 c0 A1 n1 c1 A2 n2 c2) 31)).heap.size = w.heap.size + 1 by simp] at W_p
  have bb := then_ bb bbp
  have O_c_0 := Lib.hid W_c
  have O_p_0 := Lib.hid W_p
  have B_0 := Lib.hid bb
  clear bb bbc bbp W_c W_p
  go_enter Try.func6, Try.ntmps6
  have x_c_1 := O_c_0.out.cell 1 _ rfl
  have x_c_2 := O_c_0.out.cell 2 _ rfl
  have x_c_3 := O_c_0.out.cell 3 _ rfl
  have x_c_4 := O_c_0.out.cell 4 _ rfl
  have x_c_5 := O_c_0.out.cell 5 _ rfl
  have x_c_6 := O_c_0.out.cell 6 _ rfl
  have x_c_7 := O_c_0.out.cell 7 _ rfl
  have x_c_8 := O_c_0.out.cell 8 _ rfl
  have x_c_9 := O_c_0.out.cell 9 _ rfl
  have x_c_10 := O_c_0.out.cell 10 _ rfl
  have x_c_11 := O_c_0.out.cell 11 _ rfl
  have x_c_12 := O_c_0.out.cell 12 _ rfl
  have x_c_13 := O_c_0.out.cell 13 _ rfl
  go_wp2_with (first | (refine wpList_load_row rfl 31 _ rfl _ rfl 31 _ (0, 0) _ O_c_0.out.ex Try.underlying31 rfl (by kernel_rfl) ?_) | (refine wpList_load_row rfl 41 _ rfl _ rfl 41 _ (0, 0) _ O_p_0.out.ex Try.underlying41 rfl (by kernel_rfl) ?_))
  clear x_c_1 x_c_2 x_c_3 x_c_4 x_c_5 x_c_6 x_c_7 x_c_8 x_c_9 x_c_10 x_c_11 x_c_12 x_c_13
  refine (short_any y A0 n0 c0 A1 n1 c1 A2 n2 c2 _ (KQ.out _ B_0.out).rq).mono ?_; rintro e w1 ⟨rfl, hb⟩
  have O_c_1 := Lib.hid (O_c_0.out.below hb)
  have O_p_1 := Lib.hid (O_p_0.out.below hb)
  have B_1 := Lib.hid (then_ B_0.out hb)
  clear B_0 O_c_0 O_p_0
  clear hb
  rw [HS.out]
  have x_c_16 := O_c_1.out.cell 16 _ rfl
  go_wp2_with (first | (refine wpList_load_row rfl 31 _ rfl _ rfl 31 _ (0, 0) _ O_c_1.out.ex Try.underlying31 rfl (by kernel_rfl) ?_) | (refine wpList_load_row rfl 41 _ rfl _ rfl 41 _ (0, 0) _ O_p_1.out.ex Try.underlying41 rfl (by kernel_rfl) ?_))
  clear x_c_16
  refine (C1.out _).mono ?_; rintro e w2 ⟨rfl, hb⟩
  have O_c_2 := Lib.hid (O_c_1.out.below hb)
  have O_p_2 := Lib.hid (O_p_1.out.below hb)
  have B_2 := Lib.hid (then_ B_1.out hb)
  clear B_1 O_c_1 O_p_1
  clear hb
  have N := Lib.hid (own_new w2 #[.bool false, .int .i64 0, .int .i64 0, .int .i64 0, .bool false, .string ⟨#[]⟩, .string ⟨#[]⟩, .int .i64 0, .int .i64 0, .int .i64 0, .int .i64 0, .slice none 0 0, .slice none 0 0, .slice none 0 0, .int .i64 0, .int .i64 0, .int .i64 0] 31)
  have bz := below_setRow (new1 w2 (.cells #[.bool false, .int .i64 0, .int .i64 0, .int .i64 0, .bool false, .string ⟨#[]⟩, .string ⟨#[]⟩, .int .i64 0, .int .i64 0, .int .i64 0, .int .i64 0, .slice none 0 0, .slice none 0 0, .slice none 0 0, .int .i64 0, .int .i64 0, .int .i64 0] 31)) (Nat.le_refl _) ((Cl.mk false y sent next tries).arr A0 n0 c0 A1 n1 c1 A2 n2 c2)
  have O_c_3 := Lib.hid (O_c_2.out.below bz)
  have O_p_3 := Lib.hid (O_p_2.out.below bz)
  have O_d_3 := Lib.hid (N.out.row ((Cl.mk false y sent next tries).arr A0 n0 c0 A1 n1 c1 A2 n2 c2))
  have B_3 := Lib.hid (then_ B_2.out bz)
  clear bz B_2 O_c_2 O_p_2
  go_upto_region 4 with (first | (refine wpList_store_row rfl 31 _ _ rfl _ _ rfl rfl 31 _ N.out.ex (by kernel_rfl) rfl (by simp [Value.oneCell']) ?_))
  clear N
  generalize (w2.alloc (.cells #[.bool false, .int .i64 0, .int .i64 0, .int .i64 0, .bool false, .string ⟨#[]⟩, .string ⟨#[]⟩, .int .i64 0, .int .i64 0, .int .i64 0, .int .i64 0, .slice none 0 0, .slice none 0 0, .slice none 0 0, .int .i64 0, .int .i64 0, .int .i64 0] 31)).setRow w2.heap.size ((Cl.mk false y sent next tries).arr A0 n0 c0 A1 n1 c1 A2 n2 c2) = w3 at *
  have lt_c := Lib.hid (O_c_3.out.lt)
  have lt_p := Lib.hid (O_p_3.out.lt)
  have lt_d := Lib.hid (O_d_3.out.lt)
  have N := Lib.hid (own_new w3 #[.int .i64 0, .int .i64 0, .int .i64 0, .int .i64 0, .int .i64 0, .int .i64 0, .bool false, .slice none 0 0, .slice none 0 0] 41)
  have bz := below_setRow (new1 w3 (.cells #[.int .i64 0, .int .i64 0, .int .i64 0, .int .i64 0, .int .i64 0, .int .i64 0, .bool false, .slice none 0 0, .slice none 0 0] 41)) (Nat.le_refl _) (#[.int .i64 p.code, .int .i64 p.who, .int .i64 p.seq, .int .i64 p.rev, .int .i64 p.lease, .int .i64 p.ttl, .bool p.yes, .slice D0 m0 d0, .slice D1 m1 d1])
  have O_c_4 := Lib.hid (O_c_3.out.below bz)
  have O_p_4 := Lib.hid (O_p_3.out.below bz)
  have O_d_4 := Lib.hid (O_d_3.out.below bz)
  have O_m_4 := Lib.hid (N.out.row (#[.int .i64 p.code, .int .i64 p.who, .int .i64 p.seq, .int .i64 p.rev, .int .i64 p.lease, .int .i64 p.ttl, .bool p.yes, .slice D0 m0 d0, .slice D1 m1 d1]))
  have B_4 := Lib.hid (then_ B_3.out bz)
  clear bz B_3 
  go_upto_region 5 with (first | (refine wpList_load_row rfl 31 _ rfl _ rfl 31 _ (0, 0) _ O_c_3.out.ex Try.underlying31 rfl (by kernel_rfl) ?_) | (refine wpList_load_row rfl 41 _ rfl _ rfl 41 _ (0, 0) _ O_p_3.out.ex Try.underlying41 rfl (by kernel_rfl) ?_) | (refine wpList_load_row rfl 31 _ rfl _ rfl 31 _ (0, 0) _ O_d_3.out.ex Try.underlying31 rfl (by kernel_rfl) ?_) | (refine wpList_store_row rfl 41 _ _ rfl _ _ rfl rfl 41 _ N.out.ex (by kernel_rfl) rfl (by simp [Value.oneCell']) ?_))
  clear O_c_3 O_p_3 O_d_3
  clear N
  generalize (w3.alloc (.cells #[.int .i64 0, .int .i64 0, .int .i64 0, .int .i64 0, .int .i64 0, .int .i64 0, .bool false, .slice none 0 0, .slice none 0 0] 41)).setRow w3.heap.size (#[.int .i64 p.code, .int .i64 p.who, .int .i64 p.seq, .int .i64 p.rev, .int .i64 p.lease, .int .i64 p.ttl, .bool p.yes, .slice D0 m0 d0, .slice D1 m1 d1]) = w4 at *
  have ne_c : w.heap.size ≠ w3.heap.size := by have := lt_c.out; omega
  have en_c : ¬ w3.heap.size = w.heap.size := by have := lt_c.out; omega
  have ne_p : (w.heap.size + 1) ≠ w3.heap.size := by have := lt_p.out; omega
  have en_p : ¬ w3.heap.size = (w.heap.size + 1) := by have := lt_p.out; omega
  have ne_d : w2.heap.size ≠ w3.heap.size := by have := lt_d.out; omega
  have en_d : ¬ w3.heap.size = w2.heap.size := by have := lt_d.out; omega
  have ltm : w.heap.size ≤ w3.heap.size := Nat.le_of_lt (Nat.lt_of_le_of_lt (by omega) lt_p.out)
  have x_c_2 := O_c_4.out.cell 2 _ rfl
  have x_c_3 := O_c_4.out.cell 3 _ rfl
  have x_m_1 := O_m_4.out.cell 1 _ rfl
  have x_m_2 := O_m_4.out.cell 2 _ rfl
  have O_c_5 := Lib.hid (show Own ((w4.setCell ⟨w3.heap.size, 1, none⟩ (.int .i64 y.who)).setCell ⟨w3.heap.size, 2, none⟩ (.int .i64 y.seq)) w.heap.size 31 (((Cl.mk false y sent next tries).arr A0 n0 c0 A1 n1 c1 A2 n2 c2)) from ((O_c_4.out.other _ _ _ ne_c).other _ _ _ ne_c))
  have O_p_5 := Lib.hid (show Own ((w4.setCell ⟨w3.heap.size, 1, none⟩ (.int .i64 y.who)).setCell ⟨w3.heap.size, 2, none⟩ (.int .i64 y.seq)) (w.heap.size + 1) 41 (#[.int .i64 p.code, .int .i64 p.who, .int .i64 p.seq, .int .i64 p.rev, .int .i64 p.lease, .int .i64 p.ttl, .bool p.yes, .slice D0 m0 d0, .slice D1 m1 d1]) from ((O_p_4.out.other _ _ _ ne_p).other _ _ _ ne_p))
  have O_d_5 := Lib.hid (show Own ((w4.setCell ⟨w3.heap.size, 1, none⟩ (.int .i64 y.who)).setCell ⟨w3.heap.size, 2, none⟩ (.int .i64 y.seq)) w2.heap.size 31 ((Cl.mk false y sent next tries).arr A0 n0 c0 A1 n1 c1 A2 n2 c2) from ((O_d_4.out.other _ _ _ ne_d).other _ _ _ ne_d))
  have O_m_5 : Hid (Own ((w4.setCell ⟨w3.heap.size, 1, none⟩ (.int .i64 y.who)).setCell ⟨w3.heap.size, 2, none⟩ (.int .i64 y.seq)) w3.heap.size 41 (#[.int .i64 p.code, .int .i64 y.who, .int .i64 y.seq, .int .i64 p.rev, .int .i64 p.lease, .int .i64 p.ttl, .bool p.yes, .slice D0 m0 d0, .slice D1 m1 d1])) := Lib.hid ((O_m_4.out.set 1 _).set 2 _)
  have B_5 : Hid (Below w.heap.size w ((w4.setCell ⟨w3.heap.size, 1, none⟩ (.int .i64 y.who)).setCell ⟨w3.heap.size, 2, none⟩ (.int .i64 y.seq))) := Lib.hid ((B_4.out.setCell (p := ⟨w3.heap.size, 1, none⟩) (by show w.heap.size ≤ w3.heap.size; omega) _).setCell (p := ⟨w3.heap.size, 2, none⟩) (by show w.heap.size ≤ w3.heap.size; omega) _)
  have fk := O_m_4.out.frozen
  go_upto_region 7 with fail
  clear fk ltm x_c_2 x_c_3 x_m_1 x_m_2 O_c_4 O_p_4 O_d_4 O_m_4 B_4
  clear ne_c en_c lt_c ne_p en_p lt_p ne_d en_d lt_d
  generalize ((w4.setCell ⟨w3.heap.size, 1, none⟩ (.int .i64 y.who)).setCell ⟨w3.heap.size, 2, none⟩ (.int .i64 y.seq)) = w5 at *
  go_wp2_with (first | (refine wpList_load_row rfl 31 _ rfl _ rfl 31 _ (0, 0) _ O_c_5.out.ex Try.underlying31 rfl (by kernel_rfl) ?_) | (refine wpList_load_row rfl 41 _ rfl _ rfl 41 _ (0, 0) _ O_p_5.out.ex Try.underlying41 rfl (by kernel_rfl) ?_) | (refine wpList_load_row rfl 31 _ rfl _ rfl 31 _ (0, 0) _ O_d_5.out.ex Try.underlying31 rfl (by kernel_rfl) ?_) | (refine wpList_load_row rfl 41 _ rfl _ rfl 41 _ (0, 0) _ O_m_5.out.ex Try.underlying41 rfl (by kernel_rfl) ?_))
  refine (C2.out _).mono ?_; rintro e w6 ⟨rfl, hb⟩
  have O_c_6 := Lib.hid (O_c_5.out.below hb)
  have O_p_6 := Lib.hid (O_p_5.out.below hb)
  have O_d_6 := Lib.hid (O_d_5.out.below hb)
  have O_m_6 := Lib.hid (O_m_5.out.below hb)
  have B_6 := Lib.hid (then_ B_5.out hb)
  clear B_5 O_c_5 O_p_5 O_d_5 O_m_5
  clear hb
  have N := Lib.hid (own_new w6 #[.bool false, .int .i64 0, .int .i64 0, .int .i64 0, .bool false, .string ⟨#[]⟩, .string ⟨#[]⟩, .int .i64 0, .int .i64 0, .int .i64 0, .int .i64 0, .slice none 0 0, .slice none 0 0, .slice none 0 0, .int .i64 0, .int .i64 0, .int .i64 0] 31)
  have bz := below_setRow (new1 w6 (.cells #[.bool false, .int .i64 0, .int .i64 0, .int .i64 0, .bool false, .string ⟨#[]⟩, .string ⟨#[]⟩, .int .i64 0, .int .i64 0, .int .i64 0, .int .i64 0, .slice none 0 0, .slice none 0 0, .slice none 0 0, .int .i64 0, .int .i64 0, .int .i64 0] 31)) (Nat.le_refl _) ((Cl.mk false y sent next tries).arr A0 n0 c0 A1 n1 c1 A2 n2 c2)
  have O_c_7 := Lib.hid (O_c_6.out.below bz)
  have O_p_7 := Lib.hid (O_p_6.out.below bz)
  have O_d_7 := Lib.hid (O_d_6.out.below bz)
  have O_m_7 := Lib.hid (O_m_6.out.below bz)
  have O_e_7 := Lib.hid (N.out.row ((Cl.mk false y sent next tries).arr A0 n0 c0 A1 n1 c1 A2 n2 c2))
  have B_7 := Lib.hid (then_ B_6.out bz)
  clear bz B_6 O_c_6 O_p_6 O_d_6 O_m_6
  go_upto_region 8 with (first | (refine wpList_store_row rfl 31 _ _ rfl _ _ rfl rfl 31 _ N.out.ex (by kernel_rfl) rfl (by simp [Value.oneCell']) ?_))
  clear N
  generalize (w6.alloc (.cells #[.bool false, .int .i64 0, .int .i64 0, .int .i64 0, .bool false, .string ⟨#[]⟩, .string ⟨#[]⟩, .int .i64 0, .int .i64 0, .int .i64 0, .int .i64 0, .slice none 0 0, .slice none 0 0, .slice none 0 0, .int .i64 0, .int .i64 0, .int .i64 0] 31)).setRow w6.heap.size ((Cl.mk false y sent next tries).arr A0 n0 c0 A1 n1 c1 A2 n2 c2) = w7 at *
  go_wp2_with (first | (refine wpList_load_row rfl 31 _ rfl _ rfl 31 _ (0, 0) _ O_c_7.out.ex Try.underlying31 rfl (by kernel_rfl) ?_) | (refine wpList_load_row rfl 41 _ rfl _ rfl 41 _ (0, 0) _ O_p_7.out.ex Try.underlying41 rfl (by kernel_rfl) ?_) | (refine wpList_load_row rfl 31 _ rfl _ rfl 31 _ (0, 0) _ O_d_7.out.ex Try.underlying31 rfl (by kernel_rfl) ?_) | (refine wpList_load_row rfl 41 _ rfl _ rfl 41 _ (0, 0) _ O_m_7.out.ex Try.underlying41 rfl (by kernel_rfl) ?_) | (refine wpList_load_row rfl 31 _ rfl _ rfl 31 _ (0, 0) _ O_e_7.out.ex Try.underlying31 rfl (by kernel_rfl) ?_))
  refine (C4.out _ B_7.out).mono ?_; rintro e w8 ⟨rfl, hb⟩
  have O_c_8 := Lib.hid (O_c_7.out.below hb)
  have O_p_8 := Lib.hid (O_p_7.out.below hb)
  have O_d_8 := Lib.hid (O_d_7.out.below hb)
  have O_m_8 := Lib.hid (O_m_7.out.below hb)
  have O_e_8 := Lib.hid (O_e_7.out.below hb)
  have B_8 := Lib.hid (then_ B_7.out hb)
  clear B_7 O_c_7 O_p_7 O_d_7 O_m_7 O_e_7
  clear hb
  have N := Lib.hid (own_new w8 #[.bool false, .int .i64 0, .int .i64 0, .int .i64 0, .bool false, .string ⟨#[]⟩, .string ⟨#[]⟩, .int .i64 0, .int .i64 0, .int .i64 0, .int .i64 0, .slice none 0 0, .slice none 0 0, .slice none 0 0, .int .i64 0, .int .i64 0, .int .i64 0] 31)
  have bz := below_setRow (new1 w8 (.cells #[.bool false, .int .i64 0, .int .i64 0, .int .i64 0, .bool false, .string ⟨#[]⟩, .string ⟨#[]⟩, .int .i64 0, .int .i64 0, .int .i64 0, .int .i64 0, .slice none 0 0, .slice none 0 0, .slice none 0 0, .int .i64 0, .int .i64 0, .int .i64 0] 31)) (Nat.le_refl _) ((sendC (Cl.mk false y sent next tries) now).arr A0 n0 c0 A1 n1 c1 A2 n2 c2)
  have O_c_9 := Lib.hid (O_c_8.out.below bz)
  have O_p_9 := Lib.hid (O_p_8.out.below bz)
  have O_d_9 := Lib.hid (O_d_8.out.below bz)
  have O_m_9 := Lib.hid (O_m_8.out.below bz)
  have O_e_9 := Lib.hid (O_e_8.out.below bz)
  have O_f_9 := Lib.hid (N.out.row ((sendC (Cl.mk false y sent next tries) now).arr A0 n0 c0 A1 n1 c1 A2 n2 c2))
  have B_9 := Lib.hid (then_ B_8.out bz)
  clear bz B_8 O_c_8 O_p_8 O_d_8 O_m_8 O_e_8
  go_upto_region 9 with (first | (refine wpList_store_row rfl 31 _ _ rfl _ _ rfl rfl 31 _ N.out.ex (by kernel_rfl) rfl (by simp [Value.oneCell']) ?_))
  clear N
  generalize (w8.alloc (.cells #[.bool false, .int .i64 0, .int .i64 0, .int .i64 0, .bool false, .string ⟨#[]⟩, .string ⟨#[]⟩, .int .i64 0, .int .i64 0, .int .i64 0, .int .i64 0, .slice none 0 0, .slice none 0 0, .slice none 0 0, .int .i64 0, .int .i64 0, .int .i64 0] 31)).setRow w8.heap.size ((sendC (Cl.mk false y sent next tries) now).arr A0 n0 c0 A1 n1 c1 A2 n2 c2) = w9 at *
  go_wp2_with (first | (refine wpList_load_row rfl 31 _ rfl _ rfl 31 _ (0, 0) _ O_c_9.out.ex Try.underlying31 rfl (by kernel_rfl) ?_) | (refine wpList_load_row rfl 41 _ rfl _ rfl 41 _ (0, 0) _ O_p_9.out.ex Try.underlying41 rfl (by kernel_rfl) ?_) | (refine wpList_load_row rfl 31 _ rfl _ rfl 31 _ (0, 0) _ O_d_9.out.ex Try.underlying31 rfl (by kernel_rfl) ?_) | (refine wpList_load_row rfl 41 _ rfl _ rfl 41 _ (0, 0) _ O_m_9.out.ex Try.underlying41 rfl (by kernel_rfl) ?_) | (refine wpList_load_row rfl 31 _ rfl _ rfl 31 _ (0, 0) _ O_e_9.out.ex Try.underlying31 rfl (by kernel_rfl) ?_) | (refine wpList_load_row rfl 31 _ rfl _ rfl 31 _ (0, 0) _ O_f_9.out.ex Try.underlying31 rfl (by kernel_rfl) ?_))
  refine (C3.out _).mono ?_; rintro e w10 ⟨rfl, hb⟩
  have O_c_10 := Lib.hid (O_c_9.out.below hb)
  have O_p_10 := Lib.hid (O_p_9.out.below hb)
  have O_d_10 := Lib.hid (O_d_9.out.below hb)
  have O_m_10 := Lib.hid (O_m_9.out.below hb)
  have O_e_10 := Lib.hid (O_e_9.out.below hb)
  have O_f_10 := Lib.hid (O_f_9.out.below hb)
  have B_10 := Lib.hid (then_ B_9.out hb)
  clear B_9 O_c_9 O_p_9 O_d_9 O_m_9 O_e_9 O_f_9
  clear hb
  have N := Lib.hid (own_new w10 #[.bool false, .int .i64 0, .int .i64 0, .int .i64 0, .bool false, .string ⟨#[]⟩, .string ⟨#[]⟩, .int .i64 0, .int .i64 0, .int .i64 0, .int .i64 0, .slice none 0 0, .slice none 0 0, .slice none 0 0, .int .i64 0, .int .i64 0, .int .i64 0] 31)
  have bz := below_setRow (new1 w10 (.cells #[.bool false, .int .i64 0, .int .i64 0, .int .i64 0, .bool false, .string ⟨#[]⟩, .string ⟨#[]⟩, .int .i64 0, .int .i64 0, .int .i64 0, .int .i64 0, .slice none 0 0, .slice none 0 0, .slice none 0 0, .int .i64 0, .int .i64 0, .int .i64 0] 31)) (Nat.le_refl _) ((Cl.mk false y sent next tries).arr A0 n0 c0 A1 n1 c1 A2 n2 c2)
  have O_c_11 := Lib.hid (O_c_10.out.below bz)
  have O_p_11 := Lib.hid (O_p_10.out.below bz)
  have O_d_11 := Lib.hid (O_d_10.out.below bz)
  have O_m_11 := Lib.hid (O_m_10.out.below bz)
  have O_e_11 := Lib.hid (O_e_10.out.below bz)
  have O_f_11 := Lib.hid (O_f_10.out.below bz)
  have O_z_11 := Lib.hid (N.out.row ((Cl.mk false y sent next tries).arr A0 n0 c0 A1 n1 c1 A2 n2 c2))
  have B_11 := Lib.hid (then_ B_10.out bz)
  clear bz B_10 O_c_10 O_p_10 O_d_10 O_m_10 O_e_10 O_f_10
  go_upto_region 10 with (first | (refine wpList_store_row rfl 31 _ _ rfl _ _ rfl rfl 31 _ N.out.ex (by kernel_rfl) rfl (by simp [Value.oneCell']) ?_))
  clear N
  generalize (w10.alloc (.cells #[.bool false, .int .i64 0, .int .i64 0, .int .i64 0, .bool false, .string ⟨#[]⟩, .string ⟨#[]⟩, .int .i64 0, .int .i64 0, .int .i64 0, .int .i64 0, .slice none 0 0, .slice none 0 0, .slice none 0 0, .int .i64 0, .int .i64 0, .int .i64 0] 31)).setRow w10.heap.size ((Cl.mk false y sent next tries).arr A0 n0 c0 A1 n1 c1 A2 n2 c2) = w11 at *
  try generalize ((Cl.mk false y sent next tries).agg A0 n0 c0 A1 n1 c1 A2 n2 c2) = X0
  try generalize (Value.agg ((Cl.mk false y sent next tries).arr A0 n0 c0 A1 n1 c1 A2 n2 c2)) = X1
  try generalize (zCl.agg none 0 0 none 0 0 none 0 0) = X2
  try generalize (Value.agg (zCl.arr none 0 0 none 0 0 none 0 0)) = X3
  try generalize ((sendC (Cl.mk false y sent next tries) now).agg A0 n0 c0 A1 n1 c1 A2 n2 c2) = X4
  try generalize (Value.agg ((sendC (Cl.mk false y sent next tries) now).arr A0 n0 c0 A1 n1 c1 A2 n2 c2)) = X5
  try generalize (Value.agg #[.int .i64 p.code, .int .i64 p.who, .int .i64 p.seq, .int .i64 p.rev, .int .i64 p.lease, .int .i64 p.ttl, .bool p.yes, .slice D0 m0 d0, .slice D1 m1 d1]) = X6
  try generalize (Value.agg #[.int .i64 p.code, .int .i64 y.who, .int .i64 y.seq, .int .i64 p.rev, .int .i64 p.lease, .int .i64 p.ttl, .bool p.yes, .slice D0 m0 d0, .slice D1 m1 d1]) = X7
  try generalize (Rq.agg y A0 n0 c0 A1 n1 c1 A2 n2 c2) = X8
  try generalize (Value.agg #[.int .i64 y.kind, .int .i64 y.who, .int .i64 y.seq, .bool y.once, .string y.key, .string y.val, .int .i64 y.lease, .int .i64 y.rev, .int .i64 y.ttl, .int .i64 y.token, .slice A0 n0 c0, .slice A1 n1 c1, .slice A2 n2 c2]) = X9
  have x_c_0 := O_c_11.out.cell 0 _ rfl
  have x_c_2 := O_c_11.out.cell 2 _ rfl
  have x_c_3 := O_c_11.out.cell 3 _ rfl
  have x_e_0 := O_e_11.out.cell 0 _ rfl
  have x_p_1 := O_p_11.out.cell 1 _ rfl
  have x_p_2 := O_p_11.out.cell 2 _ rfl
  have x_c_1 := O_c_11.out.cell 1 _ rfl
  have x_c_4 := O_c_11.out.cell 4 _ rfl
  have x_c_5 := O_c_11.out.cell 5 _ rfl
  have x_c_6 := O_c_11.out.cell 6 _ rfl
  have x_c_7 := O_c_11.out.cell 7 _ rfl
  have x_c_8 := O_c_11.out.cell 8 _ rfl
  have x_c_9 := O_c_11.out.cell 9 _ rfl
  have x_c_10 := O_c_11.out.cell 10 _ rfl
  have x_c_11 := O_c_11.out.cell 11 _ rfl
  have x_c_12 := O_c_11.out.cell 12 _ rfl
  have x_c_13 := O_c_11.out.cell 13 _ rfl
  have x_c_14 := O_c_11.out.cell 14 _ rfl
  have x_c_15 := O_c_11.out.cell 15 _ rfl
  have x_c_16 := O_c_11.out.cell 16 _ rfl
  have x_e_1 := O_e_11.out.cell 1 _ rfl
  have x_e_2 := O_e_11.out.cell 2 _ rfl
  have x_e_3 := O_e_11.out.cell 3 _ rfl
  have x_e_4 := O_e_11.out.cell 4 _ rfl
  have x_e_5 := O_e_11.out.cell 5 _ rfl
  have x_e_6 := O_e_11.out.cell 6 _ rfl
  have x_e_7 := O_e_11.out.cell 7 _ rfl
  have x_e_8 := O_e_11.out.cell 8 _ rfl
  have x_e_9 := O_e_11.out.cell 9 _ rfl
  have x_e_10 := O_e_11.out.cell 10 _ rfl
  have x_e_11 := O_e_11.out.cell 11 _ rfl
  have x_e_12 := O_e_11.out.cell 12 _ rfl
  have x_e_13 := O_e_11.out.cell 13 _ rfl
  have x_e_14 := O_e_11.out.cell 14 _ rfl
  have x_e_15 := O_e_11.out.cell 15 _ rfl
  have x_e_16 := O_e_11.out.cell 16 _ rfl
  go_wp2_with fail
  clear x_c_0 x_c_2 x_c_3 x_e_0 x_p_1 x_p_2 x_c_1 x_c_4 x_c_5 x_c_6 x_c_7 x_c_8 x_c_9 x_c_10 x_c_11 x_c_12 x_c_13 x_c_14 x_c_15 x_c_16 x_e_1 x_e_2 x_e_3 x_e_4 x_e_5 x_e_6 x_e_7 x_e_8 x_e_9 x_e_10 x_e_11 x_e_12 x_e_13 x_e_14 x_e_15 x_e_16
  refine (csame_any (Cl.mk false y sent next tries) A0 n0 c0 A1 n1 c1 A2 n2 c2 _ ((KQ.out _ B_11.out).rq)).mono ?_; rintro e w12 ⟨rfl, hb⟩
  have O_c_12 := Lib.hid (O_c_11.out.below hb)
  have O_p_12 := Lib.hid (O_p_11.out.below hb)
  have O_d_12 := Lib.hid (O_d_11.out.below hb)
  have O_m_12 := Lib.hid (O_m_11.out.below hb)
  have O_e_12 := Lib.hid (O_e_11.out.below hb)
  have O_f_12 := Lib.hid (O_f_11.out.below hb)
  have O_z_12 := Lib.hid (O_z_11.out.below hb)
  have B_12 := Lib.hid (then_ B_11.out hb)
  clear B_11 O_c_11 O_p_11 O_d_11 O_m_11 O_e_11 O_f_11 O_z_11
  clear hb
  have x_c_0 := O_c_12.out.cell 0 _ rfl
  have x_c_2 := O_c_12.out.cell 2 _ rfl
  have x_c_3 := O_c_12.out.cell 3 _ rfl
  have x_p_1 := O_p_12.out.cell 1 _ rfl
  have x_p_2 := O_p_12.out.cell 2 _ rfl
  have tk0 : True := trivial
  have tk1 : True := trivial
  go_wp2_with (first | (have _t := tk0; refine wpList_load_rowG 31 _ rfl _ rfl 31 _ (0, 0) _ O_d_12.out.ex Try.underlying31 rfl (by kernel_rfl) rfl ?_; clear tk0 _t) | (have _t := tk1; refine wpList_load_rowG 31 _ rfl _ rfl 31 _ (0, 0) _ O_c_12.out.ex Try.underlying31 rfl (by kernel_rfl) rfl ?_; clear tk1 _t))
  clear x_c_0 x_c_2 x_c_3 x_p_1 x_p_2
  refine (csame_any (Cl.mk false y sent next tries) A0 n0 c0 A1 n1 c1 A2 n2 c2 _ ((KQ.out _ B_12.out).rq)).mono ?_; rintro e w13 ⟨rfl, hb⟩
  have O_c_13 := Lib.hid (O_c_12.out.below hb)
  have O_p_13 := Lib.hid (O_p_12.out.below hb)
  have O_d_13 := Lib.hid (O_d_12.out.below hb)
  have O_m_13 := Lib.hid (O_m_12.out.below hb)
  have O_e_13 := Lib.hid (O_e_12.out.below hb)
  have O_f_13 := Lib.hid (O_f_12.out.below hb)
  have O_z_13 := Lib.hid (O_z_12.out.below hb)
  have B_13 := Lib.hid (then_ B_12.out hb)
  clear B_12 O_c_12 O_p_12 O_d_12 O_m_12 O_e_12 O_f_12 O_z_12
  clear hb
  go_wp2_with fail
  refine (clive_any _).mono ?_; rintro e w14 ⟨rfl, hb⟩
  have B_14 := Lib.hid (then_ B_13.out hb)
  clear B_13 
  clear hb
  go_wp2
  go_ret
  exact ⟨rfl, B_14.out⟩
theorem m_who (w : World) (k : Cl) (A0 : Option Addr) (n0 c0 : Nat) (A1 : Option Addr) (n1 c1 : Nat) (A2 : Option Addr) (n2 c2 : Nat) (now : Int) (p : Rp) (D0 : Option Addr) (m0 d0 : Nat) (D1 : Option Addr) (m1 d1 : Nat) (h : ClAt w k A0 n0 c0 A1 n1 c1 A2 n2 c2) (hs : shortQ k.y = true) (ht : ¬ 1099511627775 < k.tries) (ho : k.on = true) (h1 : ¬ p.who = k.y.who) :
    Calls Try.prog 6 #[k.agg A0 n0 c0 A1 n1 c1 A2 n2 c2, .int .i64 now, p.agg D0 m0 d0 D1 m1 d1] w fun e w' => e = .returned (.bool true) ∧ Below w.heap.size w w' := by
  obtain ⟨on, y, sent, next, tries⟩ := k
  simp only at ho hs ht h1
  subst ho
  have C1 := Lib.hid (fun w' => gets_not (Cl.mk true y sent next tries) A0 n0 c0 A1 n1 c1 A2 n2 c2 p D0 m0 d0 D1 m1 d1 w' (by unfold getsB; simp [h1]))
  have C2 := Lib.hid (fun w' => gets_is (Cl.mk true y sent next tries) A0 n0 c0 A1 n1 c1 A2 n2 c2 (Rp.mk p.code y.who y.seq p.rev p.lease p.ttl p.yes p.kvs p.evs) D0 m0 d0 D1 m1 d1 w' (by unfold getsB; simp))
  have C3 := Lib.hid (fun w' => gets_not zCl none 0 0 none 0 0 none 0 0 (Rp.mk p.code y.who y.seq p.rev p.lease p.ttl p.yes p.kvs p.evs) D0 m0 d0 D1 m1 d1 w' (by unfold getsB; rfl))
  have C4 := Lib.hid (fun w' (hb : Below w.heap.size w w') => sends_uni zCl none 0 0 none 0 0 none 0 0 now w' (zero_cl w') (by decide))
  have HS := Lib.hid hs; clear hs
  have KQ := Lib.hid (fun w' (hb : Below w.heap.size w w') => h.keep hb)
  clear h
  have HB4 : Hid (sendsB zCl now = false) := Lib.hid (by unfold sendsB cdueB; rfl)
  have bbc := new1 w (.cells ((Cl.mk true y sent next tries).arr A0 n0 c0 A1 n1 c1 A2 n2 c2) 31)
  have W_c := own_new w ((Cl.mk true y sent next tries).arr A0 n0 c0 A1 n1 c1 A2 n2 c2) 31
  have bb := bbc
  have bbp := new1 (w.alloc (.cells ((Cl.mk true y sent next tries).arr A0 n0 c0 A1 n1 c1 A2 n2 c2) 31)) (.cells #[.int .i64 p.code, .int .i64 p.who, .int .i64 p.seq, .int .i64 p.rev, .int .i64 p.lease, .int .i64 p.ttl, .bool p.yes, .slice D0 m0 d0, .slice D1 m1 d1] 41)
  have W_c := W_c.below bbp
  have W_p := own_new (w.alloc (.cells ((Cl.mk true y sent next tries).arr A0 n0 c0 A1 n1 c1 A2 n2 c2) 31)) #[.int .i64 p.code, .int .i64 p.who, .int .i64 p.seq, .int .i64 p.rev, .int .i64 p.lease, .int .i64 p.ttl, .bool p.yes, .slice D0 m0 d0, .slice D1 m1 d1] 41
  rw [show (w.alloc (.cells ((Cl.mk true y sent next tries).arr A0 n0 c0 A1 n1 c1 A2 n2 c2) 31)).heap.size = w.heap.size + 1 by simp] at W_p
  have bb := then_ bb bbp
  have O_c_0 := Lib.hid W_c
  have O_p_0 := Lib.hid W_p
  have B_0 := Lib.hid bb
  clear bb bbc bbp W_c W_p
  go_enter Try.func6, Try.ntmps6
  have x_c_1 := O_c_0.out.cell 1 _ rfl
  have x_c_2 := O_c_0.out.cell 2 _ rfl
  have x_c_3 := O_c_0.out.cell 3 _ rfl
  have x_c_4 := O_c_0.out.cell 4 _ rfl
  have x_c_5 := O_c_0.out.cell 5 _ rfl
  have x_c_6 := O_c_0.out.cell 6 _ rfl
  have x_c_7 := O_c_0.out.cell 7 _ rfl
  have x_c_8 := O_c_0.out.cell 8 _ rfl
  have x_c_9 := O_c_0.out.cell 9 _ rfl
  have x_c_10 := O_c_0.out.cell 10 _ rfl
  have x_c_11 := O_c_0.out.cell 11 _ rfl
  have x_c_12 := O_c_0.out.cell 12 _ rfl
  have x_c_13 := O_c_0.out.cell 13 _ rfl
  go_wp2_with (first | (refine wpList_load_row rfl 31 _ rfl _ rfl 31 _ (0, 0) _ O_c_0.out.ex Try.underlying31 rfl (by kernel_rfl) ?_) | (refine wpList_load_row rfl 41 _ rfl _ rfl 41 _ (0, 0) _ O_p_0.out.ex Try.underlying41 rfl (by kernel_rfl) ?_))
  clear x_c_1 x_c_2 x_c_3 x_c_4 x_c_5 x_c_6 x_c_7 x_c_8 x_c_9 x_c_10 x_c_11 x_c_12 x_c_13
  refine (short_any y A0 n0 c0 A1 n1 c1 A2 n2 c2 _ (KQ.out _ B_0.out).rq).mono ?_; rintro e w1 ⟨rfl, hb⟩
  have O_c_1 := Lib.hid (O_c_0.out.below hb)
  have O_p_1 := Lib.hid (O_p_0.out.below hb)
  have B_1 := Lib.hid (then_ B_0.out hb)
  clear B_0 O_c_0 O_p_0
  clear hb
  rw [HS.out]
  have x_c_16 := O_c_1.out.cell 16 _ rfl
  go_wp2_with (first | (refine wpList_load_row rfl 31 _ rfl _ rfl 31 _ (0, 0) _ O_c_1.out.ex Try.underlying31 rfl (by kernel_rfl) ?_) | (refine wpList_load_row rfl 41 _ rfl _ rfl 41 _ (0, 0) _ O_p_1.out.ex Try.underlying41 rfl (by kernel_rfl) ?_))
  clear x_c_16
  refine (C1.out _).mono ?_; rintro e w2 ⟨rfl, hb⟩
  have O_c_2 := Lib.hid (O_c_1.out.below hb)
  have O_p_2 := Lib.hid (O_p_1.out.below hb)
  have B_2 := Lib.hid (then_ B_1.out hb)
  clear B_1 O_c_1 O_p_1
  clear hb
  have N := Lib.hid (own_new w2 #[.bool false, .int .i64 0, .int .i64 0, .int .i64 0, .bool false, .string ⟨#[]⟩, .string ⟨#[]⟩, .int .i64 0, .int .i64 0, .int .i64 0, .int .i64 0, .slice none 0 0, .slice none 0 0, .slice none 0 0, .int .i64 0, .int .i64 0, .int .i64 0] 31)
  have bz := below_setRow (new1 w2 (.cells #[.bool false, .int .i64 0, .int .i64 0, .int .i64 0, .bool false, .string ⟨#[]⟩, .string ⟨#[]⟩, .int .i64 0, .int .i64 0, .int .i64 0, .int .i64 0, .slice none 0 0, .slice none 0 0, .slice none 0 0, .int .i64 0, .int .i64 0, .int .i64 0] 31)) (Nat.le_refl _) ((Cl.mk true y sent next tries).arr A0 n0 c0 A1 n1 c1 A2 n2 c2)
  have O_c_3 := Lib.hid (O_c_2.out.below bz)
  have O_p_3 := Lib.hid (O_p_2.out.below bz)
  have O_d_3 := Lib.hid (N.out.row ((Cl.mk true y sent next tries).arr A0 n0 c0 A1 n1 c1 A2 n2 c2))
  have B_3 := Lib.hid (then_ B_2.out bz)
  clear bz B_2 O_c_2 O_p_2
  go_upto_region 4 with (first | (refine wpList_store_row rfl 31 _ _ rfl _ _ rfl rfl 31 _ N.out.ex (by kernel_rfl) rfl (by simp [Value.oneCell']) ?_))
  clear N
  generalize (w2.alloc (.cells #[.bool false, .int .i64 0, .int .i64 0, .int .i64 0, .bool false, .string ⟨#[]⟩, .string ⟨#[]⟩, .int .i64 0, .int .i64 0, .int .i64 0, .int .i64 0, .slice none 0 0, .slice none 0 0, .slice none 0 0, .int .i64 0, .int .i64 0, .int .i64 0] 31)).setRow w2.heap.size ((Cl.mk true y sent next tries).arr A0 n0 c0 A1 n1 c1 A2 n2 c2) = w3 at *
  have lt_c := Lib.hid (O_c_3.out.lt)
  have lt_p := Lib.hid (O_p_3.out.lt)
  have lt_d := Lib.hid (O_d_3.out.lt)
  have N := Lib.hid (own_new w3 #[.int .i64 0, .int .i64 0, .int .i64 0, .int .i64 0, .int .i64 0, .int .i64 0, .bool false, .slice none 0 0, .slice none 0 0] 41)
  have bz := below_setRow (new1 w3 (.cells #[.int .i64 0, .int .i64 0, .int .i64 0, .int .i64 0, .int .i64 0, .int .i64 0, .bool false, .slice none 0 0, .slice none 0 0] 41)) (Nat.le_refl _) (#[.int .i64 p.code, .int .i64 p.who, .int .i64 p.seq, .int .i64 p.rev, .int .i64 p.lease, .int .i64 p.ttl, .bool p.yes, .slice D0 m0 d0, .slice D1 m1 d1])
  have O_c_4 := Lib.hid (O_c_3.out.below bz)
  have O_p_4 := Lib.hid (O_p_3.out.below bz)
  have O_d_4 := Lib.hid (O_d_3.out.below bz)
  have O_m_4 := Lib.hid (N.out.row (#[.int .i64 p.code, .int .i64 p.who, .int .i64 p.seq, .int .i64 p.rev, .int .i64 p.lease, .int .i64 p.ttl, .bool p.yes, .slice D0 m0 d0, .slice D1 m1 d1]))
  have B_4 := Lib.hid (then_ B_3.out bz)
  clear bz B_3 
  go_upto_region 5 with (first | (refine wpList_load_row rfl 31 _ rfl _ rfl 31 _ (0, 0) _ O_c_3.out.ex Try.underlying31 rfl (by kernel_rfl) ?_) | (refine wpList_load_row rfl 41 _ rfl _ rfl 41 _ (0, 0) _ O_p_3.out.ex Try.underlying41 rfl (by kernel_rfl) ?_) | (refine wpList_load_row rfl 31 _ rfl _ rfl 31 _ (0, 0) _ O_d_3.out.ex Try.underlying31 rfl (by kernel_rfl) ?_) | (refine wpList_store_row rfl 41 _ _ rfl _ _ rfl rfl 41 _ N.out.ex (by kernel_rfl) rfl (by simp [Value.oneCell']) ?_))
  clear O_c_3 O_p_3 O_d_3
  clear N
  generalize (w3.alloc (.cells #[.int .i64 0, .int .i64 0, .int .i64 0, .int .i64 0, .int .i64 0, .int .i64 0, .bool false, .slice none 0 0, .slice none 0 0] 41)).setRow w3.heap.size (#[.int .i64 p.code, .int .i64 p.who, .int .i64 p.seq, .int .i64 p.rev, .int .i64 p.lease, .int .i64 p.ttl, .bool p.yes, .slice D0 m0 d0, .slice D1 m1 d1]) = w4 at *
  have ne_c : w.heap.size ≠ w3.heap.size := by have := lt_c.out; omega
  have en_c : ¬ w3.heap.size = w.heap.size := by have := lt_c.out; omega
  have ne_p : (w.heap.size + 1) ≠ w3.heap.size := by have := lt_p.out; omega
  have en_p : ¬ w3.heap.size = (w.heap.size + 1) := by have := lt_p.out; omega
  have ne_d : w2.heap.size ≠ w3.heap.size := by have := lt_d.out; omega
  have en_d : ¬ w3.heap.size = w2.heap.size := by have := lt_d.out; omega
  have ltm : w.heap.size ≤ w3.heap.size := Nat.le_of_lt (Nat.lt_of_le_of_lt (by omega) lt_p.out)
  have x_c_2 := O_c_4.out.cell 2 _ rfl
  have x_c_3 := O_c_4.out.cell 3 _ rfl
  have x_m_1 := O_m_4.out.cell 1 _ rfl
  have x_m_2 := O_m_4.out.cell 2 _ rfl
  have O_c_5 := Lib.hid (show Own ((w4.setCell ⟨w3.heap.size, 1, none⟩ (.int .i64 y.who)).setCell ⟨w3.heap.size, 2, none⟩ (.int .i64 y.seq)) w.heap.size 31 (((Cl.mk true y sent next tries).arr A0 n0 c0 A1 n1 c1 A2 n2 c2)) from ((O_c_4.out.other _ _ _ ne_c).other _ _ _ ne_c))
  have O_p_5 := Lib.hid (show Own ((w4.setCell ⟨w3.heap.size, 1, none⟩ (.int .i64 y.who)).setCell ⟨w3.heap.size, 2, none⟩ (.int .i64 y.seq)) (w.heap.size + 1) 41 (#[.int .i64 p.code, .int .i64 p.who, .int .i64 p.seq, .int .i64 p.rev, .int .i64 p.lease, .int .i64 p.ttl, .bool p.yes, .slice D0 m0 d0, .slice D1 m1 d1]) from ((O_p_4.out.other _ _ _ ne_p).other _ _ _ ne_p))
  have O_d_5 := Lib.hid (show Own ((w4.setCell ⟨w3.heap.size, 1, none⟩ (.int .i64 y.who)).setCell ⟨w3.heap.size, 2, none⟩ (.int .i64 y.seq)) w2.heap.size 31 ((Cl.mk true y sent next tries).arr A0 n0 c0 A1 n1 c1 A2 n2 c2) from ((O_d_4.out.other _ _ _ ne_d).other _ _ _ ne_d))
  have O_m_5 : Hid (Own ((w4.setCell ⟨w3.heap.size, 1, none⟩ (.int .i64 y.who)).setCell ⟨w3.heap.size, 2, none⟩ (.int .i64 y.seq)) w3.heap.size 41 (#[.int .i64 p.code, .int .i64 y.who, .int .i64 y.seq, .int .i64 p.rev, .int .i64 p.lease, .int .i64 p.ttl, .bool p.yes, .slice D0 m0 d0, .slice D1 m1 d1])) := Lib.hid ((O_m_4.out.set 1 _).set 2 _)
  have B_5 : Hid (Below w.heap.size w ((w4.setCell ⟨w3.heap.size, 1, none⟩ (.int .i64 y.who)).setCell ⟨w3.heap.size, 2, none⟩ (.int .i64 y.seq))) := Lib.hid ((B_4.out.setCell (p := ⟨w3.heap.size, 1, none⟩) (by show w.heap.size ≤ w3.heap.size; omega) _).setCell (p := ⟨w3.heap.size, 2, none⟩) (by show w.heap.size ≤ w3.heap.size; omega) _)
  have fk := O_m_4.out.frozen
  go_upto_region 7 with fail
  clear fk ltm x_c_2 x_c_3 x_m_1 x_m_2 O_c_4 O_p_4 O_d_4 O_m_4 B_4
  clear ne_c en_c lt_c ne_p en_p lt_p ne_d en_d lt_d
  generalize ((w4.setCell ⟨w3.heap.size, 1, none⟩ (.int .i64 y.who)).setCell ⟨w3.heap.size, 2, none⟩ (.int .i64 y.seq)) = w5 at *
  go_wp2_with (first | (refine wpList_load_row rfl 31 _ rfl _ rfl 31 _ (0, 0) _ O_c_5.out.ex Try.underlying31 rfl (by kernel_rfl) ?_) | (refine wpList_load_row rfl 41 _ rfl _ rfl 41 _ (0, 0) _ O_p_5.out.ex Try.underlying41 rfl (by kernel_rfl) ?_) | (refine wpList_load_row rfl 31 _ rfl _ rfl 31 _ (0, 0) _ O_d_5.out.ex Try.underlying31 rfl (by kernel_rfl) ?_) | (refine wpList_load_row rfl 41 _ rfl _ rfl 41 _ (0, 0) _ O_m_5.out.ex Try.underlying41 rfl (by kernel_rfl) ?_))
  refine (C2.out _).mono ?_; rintro e w6 ⟨rfl, hb⟩
  have O_c_6 := Lib.hid (O_c_5.out.below hb)
  have O_p_6 := Lib.hid (O_p_5.out.below hb)
  have O_d_6 := Lib.hid (O_d_5.out.below hb)
  have O_m_6 := Lib.hid (O_m_5.out.below hb)
  have B_6 := Lib.hid (then_ B_5.out hb)
  clear B_5 O_c_5 O_p_5 O_d_5 O_m_5
  clear hb
  have N := Lib.hid (own_new w6 #[.bool false, .int .i64 0, .int .i64 0, .int .i64 0, .bool false, .string ⟨#[]⟩, .string ⟨#[]⟩, .int .i64 0, .int .i64 0, .int .i64 0, .int .i64 0, .slice none 0 0, .slice none 0 0, .slice none 0 0, .int .i64 0, .int .i64 0, .int .i64 0] 31)
  have bz := below_setRow (new1 w6 (.cells #[.bool false, .int .i64 0, .int .i64 0, .int .i64 0, .bool false, .string ⟨#[]⟩, .string ⟨#[]⟩, .int .i64 0, .int .i64 0, .int .i64 0, .int .i64 0, .slice none 0 0, .slice none 0 0, .slice none 0 0, .int .i64 0, .int .i64 0, .int .i64 0] 31)) (Nat.le_refl _) (zCl.arr none 0 0 none 0 0 none 0 0)
  have O_c_7 := Lib.hid (O_c_6.out.below bz)
  have O_p_7 := Lib.hid (O_p_6.out.below bz)
  have O_d_7 := Lib.hid (O_d_6.out.below bz)
  have O_m_7 := Lib.hid (O_m_6.out.below bz)
  have O_e_7 := Lib.hid (N.out.row (zCl.arr none 0 0 none 0 0 none 0 0))
  have B_7 := Lib.hid (then_ B_6.out bz)
  clear bz B_6 O_c_6 O_p_6 O_d_6 O_m_6
  go_upto_region 8 with (first | (refine wpList_store_row rfl 31 _ _ rfl _ _ rfl rfl 31 _ N.out.ex (by kernel_rfl) rfl (by simp [Value.oneCell']) ?_))
  clear N
  generalize (w6.alloc (.cells #[.bool false, .int .i64 0, .int .i64 0, .int .i64 0, .bool false, .string ⟨#[]⟩, .string ⟨#[]⟩, .int .i64 0, .int .i64 0, .int .i64 0, .int .i64 0, .slice none 0 0, .slice none 0 0, .slice none 0 0, .int .i64 0, .int .i64 0, .int .i64 0] 31)).setRow w6.heap.size (zCl.arr none 0 0 none 0 0 none 0 0) = w7 at *
  go_wp2_with (first | (refine wpList_load_row rfl 31 _ rfl _ rfl 31 _ (0, 0) _ O_c_7.out.ex Try.underlying31 rfl (by kernel_rfl) ?_) | (refine wpList_load_row rfl 41 _ rfl _ rfl 41 _ (0, 0) _ O_p_7.out.ex Try.underlying41 rfl (by kernel_rfl) ?_) | (refine wpList_load_row rfl 31 _ rfl _ rfl 31 _ (0, 0) _ O_d_7.out.ex Try.underlying31 rfl (by kernel_rfl) ?_) | (refine wpList_load_row rfl 41 _ rfl _ rfl 41 _ (0, 0) _ O_m_7.out.ex Try.underlying41 rfl (by kernel_rfl) ?_) | (refine wpList_load_row rfl 31 _ rfl _ rfl 31 _ (0, 0) _ O_e_7.out.ex Try.underlying31 rfl (by kernel_rfl) ?_))
  refine (C4.out _ B_7.out).mono ?_; rintro e w8 ⟨rfl, hb⟩
  have O_c_8 := Lib.hid (O_c_7.out.below hb)
  have O_p_8 := Lib.hid (O_p_7.out.below hb)
  have O_d_8 := Lib.hid (O_d_7.out.below hb)
  have O_m_8 := Lib.hid (O_m_7.out.below hb)
  have O_e_8 := Lib.hid (O_e_7.out.below hb)
  have B_8 := Lib.hid (then_ B_7.out hb)
  clear B_7 O_c_7 O_p_7 O_d_7 O_m_7 O_e_7
  clear hb
  have N := Lib.hid (own_new w8 #[.bool false, .int .i64 0, .int .i64 0, .int .i64 0, .bool false, .string ⟨#[]⟩, .string ⟨#[]⟩, .int .i64 0, .int .i64 0, .int .i64 0, .int .i64 0, .slice none 0 0, .slice none 0 0, .slice none 0 0, .int .i64 0, .int .i64 0, .int .i64 0] 31)
  have bz := below_setRow (new1 w8 (.cells #[.bool false, .int .i64 0, .int .i64 0, .int .i64 0, .bool false, .string ⟨#[]⟩, .string ⟨#[]⟩, .int .i64 0, .int .i64 0, .int .i64 0, .int .i64 0, .slice none 0 0, .slice none 0 0, .slice none 0 0, .int .i64 0, .int .i64 0, .int .i64 0] 31)) (Nat.le_refl _) ((sendC zCl now).arr none 0 0 none 0 0 none 0 0)
  have O_c_9 := Lib.hid (O_c_8.out.below bz)
  have O_p_9 := Lib.hid (O_p_8.out.below bz)
  have O_d_9 := Lib.hid (O_d_8.out.below bz)
  have O_m_9 := Lib.hid (O_m_8.out.below bz)
  have O_e_9 := Lib.hid (O_e_8.out.below bz)
  have O_f_9 := Lib.hid (N.out.row ((sendC zCl now).arr none 0 0 none 0 0 none 0 0))
  have B_9 := Lib.hid (then_ B_8.out bz)
  clear bz B_8 O_c_8 O_p_8 O_d_8 O_m_8 O_e_8
  go_upto_region 9 with (first | (refine wpList_store_row rfl 31 _ _ rfl _ _ rfl rfl 31 _ N.out.ex (by kernel_rfl) rfl (by simp [Value.oneCell']) ?_))
  clear N
  generalize (w8.alloc (.cells #[.bool false, .int .i64 0, .int .i64 0, .int .i64 0, .bool false, .string ⟨#[]⟩, .string ⟨#[]⟩, .int .i64 0, .int .i64 0, .int .i64 0, .int .i64 0, .slice none 0 0, .slice none 0 0, .slice none 0 0, .int .i64 0, .int .i64 0, .int .i64 0] 31)).setRow w8.heap.size ((sendC zCl now).arr none 0 0 none 0 0 none 0 0) = w9 at *
  go_wp2_with (first | (refine wpList_load_row rfl 31 _ rfl _ rfl 31 _ (0, 0) _ O_c_9.out.ex Try.underlying31 rfl (by kernel_rfl) ?_) | (refine wpList_load_row rfl 41 _ rfl _ rfl 41 _ (0, 0) _ O_p_9.out.ex Try.underlying41 rfl (by kernel_rfl) ?_) | (refine wpList_load_row rfl 31 _ rfl _ rfl 31 _ (0, 0) _ O_d_9.out.ex Try.underlying31 rfl (by kernel_rfl) ?_) | (refine wpList_load_row rfl 41 _ rfl _ rfl 41 _ (0, 0) _ O_m_9.out.ex Try.underlying41 rfl (by kernel_rfl) ?_) | (refine wpList_load_row rfl 31 _ rfl _ rfl 31 _ (0, 0) _ O_e_9.out.ex Try.underlying31 rfl (by kernel_rfl) ?_) | (refine wpList_load_row rfl 31 _ rfl _ rfl 31 _ (0, 0) _ O_f_9.out.ex Try.underlying31 rfl (by kernel_rfl) ?_))
  refine (C3.out _).mono ?_; rintro e w10 ⟨rfl, hb⟩
  have O_c_10 := Lib.hid (O_c_9.out.below hb)
  have O_p_10 := Lib.hid (O_p_9.out.below hb)
  have O_d_10 := Lib.hid (O_d_9.out.below hb)
  have O_m_10 := Lib.hid (O_m_9.out.below hb)
  have O_e_10 := Lib.hid (O_e_9.out.below hb)
  have O_f_10 := Lib.hid (O_f_9.out.below hb)
  have B_10 := Lib.hid (then_ B_9.out hb)
  clear B_9 O_c_9 O_p_9 O_d_9 O_m_9 O_e_9 O_f_9
  clear hb
  have N := Lib.hid (own_new w10 #[.bool false, .int .i64 0, .int .i64 0, .int .i64 0, .bool false, .string ⟨#[]⟩, .string ⟨#[]⟩, .int .i64 0, .int .i64 0, .int .i64 0, .int .i64 0, .slice none 0 0, .slice none 0 0, .slice none 0 0, .int .i64 0, .int .i64 0, .int .i64 0] 31)
  have bz := below_setRow (new1 w10 (.cells #[.bool false, .int .i64 0, .int .i64 0, .int .i64 0, .bool false, .string ⟨#[]⟩, .string ⟨#[]⟩, .int .i64 0, .int .i64 0, .int .i64 0, .int .i64 0, .slice none 0 0, .slice none 0 0, .slice none 0 0, .int .i64 0, .int .i64 0, .int .i64 0] 31)) (Nat.le_refl _) (zCl.arr none 0 0 none 0 0 none 0 0)
  have O_c_11 := Lib.hid (O_c_10.out.below bz)
  have O_p_11 := Lib.hid (O_p_10.out.below bz)
  have O_d_11 := Lib.hid (O_d_10.out.below bz)
  have O_m_11 := Lib.hid (O_m_10.out.below bz)
  have O_e_11 := Lib.hid (O_e_10.out.below bz)
  have O_f_11 := Lib.hid (O_f_10.out.below bz)
  have O_z_11 := Lib.hid (N.out.row (zCl.arr none 0 0 none 0 0 none 0 0))
  have B_11 := Lib.hid (then_ B_10.out bz)
  clear bz B_10 O_c_10 O_p_10 O_d_10 O_m_10 O_e_10 O_f_10
  go_upto_region 10 with (first | (refine wpList_store_row rfl 31 _ _ rfl _ _ rfl rfl 31 _ N.out.ex (by kernel_rfl) rfl (by simp [Value.oneCell']) ?_))
  clear N
  generalize (w10.alloc (.cells #[.bool false, .int .i64 0, .int .i64 0, .int .i64 0, .bool false, .string ⟨#[]⟩, .string ⟨#[]⟩, .int .i64 0, .int .i64 0, .int .i64 0, .int .i64 0, .slice none 0 0, .slice none 0 0, .slice none 0 0, .int .i64 0, .int .i64 0, .int .i64 0] 31)).setRow w10.heap.size (zCl.arr none 0 0 none 0 0 none 0 0) = w11 at *
  try generalize ((Cl.mk true y sent next tries).agg A0 n0 c0 A1 n1 c1 A2 n2 c2) = X0
  try generalize (Value.agg ((Cl.mk true y sent next tries).arr A0 n0 c0 A1 n1 c1 A2 n2 c2)) = X1
  try generalize (zCl.agg none 0 0 none 0 0 none 0 0) = X2
  try generalize (Value.agg (zCl.arr none 0 0 none 0 0 none 0 0)) = X3
  try generalize ((sendC zCl now).agg none 0 0 none 0 0 none 0 0) = X4
  try generalize (Value.agg ((sendC zCl now).arr none 0 0 none 0 0 none 0 0)) = X5
  try generalize (Value.agg #[.int .i64 p.code, .int .i64 p.who, .int .i64 p.seq, .int .i64 p.rev, .int .i64 p.lease, .int .i64 p.ttl, .bool p.yes, .slice D0 m0 d0, .slice D1 m1 d1]) = X6
  try generalize (Value.agg #[.int .i64 p.code, .int .i64 y.who, .int .i64 y.seq, .int .i64 p.rev, .int .i64 p.lease, .int .i64 p.ttl, .bool p.yes, .slice D0 m0 d0, .slice D1 m1 d1]) = X7
  try generalize (Rq.agg y A0 n0 c0 A1 n1 c1 A2 n2 c2) = X8
  try generalize (Value.agg #[.int .i64 y.kind, .int .i64 y.who, .int .i64 y.seq, .bool y.once, .string y.key, .string y.val, .int .i64 y.lease, .int .i64 y.rev, .int .i64 y.ttl, .int .i64 y.token, .slice A0 n0 c0, .slice A1 n1 c1, .slice A2 n2 c2]) = X9
  have x_c_0 := O_c_11.out.cell 0 _ rfl
  have x_c_2 := O_c_11.out.cell 2 _ rfl
  have x_c_3 := O_c_11.out.cell 3 _ rfl
  have x_e_0 := O_e_11.out.cell 0 _ rfl
  have x_p_1 := O_p_11.out.cell 1 _ rfl
  have x_p_2 := O_p_11.out.cell 2 _ rfl
  have HSB : sendsB zCl now = false := HB4.out
  have HSS : sendS zCl now = ⟨#[]⟩ := by unfold sendS; rw [if_neg (by rw [HB4.out]; decide)]
  simp only [HSB, HSS]
  have tk0 : True := trivial
  have tk1 : True := trivial
  go_wp2_with (first | (have _t := tk0; refine wpList_load_rowG 31 _ rfl _ rfl 31 _ (0, 0) _ O_d_11.out.ex Try.underlying31 rfl (by kernel_rfl) rfl ?_; clear tk0 _t) | (have _t := tk1; refine wpList_load_rowG 31 _ rfl _ rfl 31 _ (0, 0) _ O_c_11.out.ex Try.underlying31 rfl (by kernel_rfl) rfl ?_; clear tk1 _t))
  clear x_c_0 x_c_2 x_c_3 x_e_0 x_p_1 x_p_2
  refine (csame_any (Cl.mk true y sent next tries) A0 n0 c0 A1 n1 c1 A2 n2 c2 _ ((KQ.out _ B_11.out).rq)).mono ?_; rintro e w12 ⟨rfl, hb⟩
  have O_c_12 := Lib.hid (O_c_11.out.below hb)
  have O_p_12 := Lib.hid (O_p_11.out.below hb)
  have O_d_12 := Lib.hid (O_d_11.out.below hb)
  have O_m_12 := Lib.hid (O_m_11.out.below hb)
  have O_e_12 := Lib.hid (O_e_11.out.below hb)
  have O_f_12 := Lib.hid (O_f_11.out.below hb)
  have O_z_12 := Lib.hid (O_z_11.out.below hb)
  have B_12 := Lib.hid (then_ B_11.out hb)
  clear B_11 O_c_11 O_p_11 O_d_11 O_m_11 O_e_11 O_f_11 O_z_11
  clear hb
  go_wp2_with fail
  refine (clive_any _).mono ?_; rintro e w13 ⟨rfl, hb⟩
  have B_13 := Lib.hid (then_ B_12.out hb)
  clear B_12 
  clear hb
  go_wp2
  go_ret
  exact ⟨rfl, B_13.out⟩
theorem m_seq (w : World) (k : Cl) (A0 : Option Addr) (n0 c0 : Nat) (A1 : Option Addr) (n1 c1 : Nat) (A2 : Option Addr) (n2 c2 : Nat) (now : Int) (p : Rp) (D0 : Option Addr) (m0 d0 : Nat) (D1 : Option Addr) (m1 d1 : Nat) (h : ClAt w k A0 n0 c0 A1 n1 c1 A2 n2 c2) (hs : shortQ k.y = true) (ht : ¬ 1099511627775 < k.tries) (ho : k.on = true) (h1 : p.who = k.y.who) (h2 : ¬ p.seq = k.y.seq) :
    Calls Try.prog 6 #[k.agg A0 n0 c0 A1 n1 c1 A2 n2 c2, .int .i64 now, p.agg D0 m0 d0 D1 m1 d1] w fun e w' => e = .returned (.bool true) ∧ Below w.heap.size w w' := by
  obtain ⟨on, y, sent, next, tries⟩ := k
  simp only at ho hs ht h1 h2
  subst ho
  obtain ⟨code, who, seq, rev, lease, ttl, yes, kvs, evs⟩ := p
  simp only at h1 h2
  subst h1
  have C1 := Lib.hid (fun w' => gets_not (Cl.mk true y sent next tries) A0 n0 c0 A1 n1 c1 A2 n2 c2 (Rp.mk code y.who seq rev lease ttl yes kvs evs) D0 m0 d0 D1 m1 d1 w' (by unfold getsB; simp [h2]))
  have C2 := Lib.hid (fun w' => gets_is (Cl.mk true y sent next tries) A0 n0 c0 A1 n1 c1 A2 n2 c2 (Rp.mk code y.who y.seq rev lease ttl yes kvs evs) D0 m0 d0 D1 m1 d1 w' (by unfold getsB; simp))
  have C3 := Lib.hid (fun w' => gets_not zCl none 0 0 none 0 0 none 0 0 (Rp.mk code y.who y.seq rev lease ttl yes kvs evs) D0 m0 d0 D1 m1 d1 w' (by unfold getsB; rfl))
  have C4 := Lib.hid (fun w' (hb : Below w.heap.size w w') => sends_uni zCl none 0 0 none 0 0 none 0 0 now w' (zero_cl w') (by decide))
  have HS := Lib.hid hs; clear hs
  have KQ := Lib.hid (fun w' (hb : Below w.heap.size w w') => h.keep hb)
  clear h
  have HB4 : Hid (sendsB zCl now = false) := Lib.hid (by unfold sendsB cdueB; rfl)
  have bbc := new1 w (.cells ((Cl.mk true y sent next tries).arr A0 n0 c0 A1 n1 c1 A2 n2 c2) 31)
  have W_c := own_new w ((Cl.mk true y sent next tries).arr A0 n0 c0 A1 n1 c1 A2 n2 c2) 31
  have bb := bbc
  have bbp := new1 (w.alloc (.cells ((Cl.mk true y sent next tries).arr A0 n0 c0 A1 n1 c1 A2 n2 c2) 31)) (.cells #[.int .i64 code, .int .i64 y.who, .int .i64 seq, .int .i64 rev, .int .i64 lease, .int .i64 ttl, .bool yes, .slice D0 m0 d0, .slice D1 m1 d1] 41)
  have W_c := W_c.below bbp
  have W_p := own_new (w.alloc (.cells ((Cl.mk true y sent next tries).arr A0 n0 c0 A1 n1 c1 A2 n2 c2) 31)) #[.int .i64 code, .int .i64 y.who, .int .i64 seq, .int .i64 rev, .int .i64 lease, .int .i64 ttl, .bool yes, .slice D0 m0 d0, .slice D1 m1 d1] 41
  rw [show (w.alloc (.cells ((Cl.mk true y sent next tries).arr A0 n0 c0 A1 n1 c1 A2 n2 c2) 31)).heap.size = w.heap.size + 1 by simp] at W_p
  have bb := then_ bb bbp
  have O_c_0 := Lib.hid W_c
  have O_p_0 := Lib.hid W_p
  have B_0 := Lib.hid bb
  clear bb bbc bbp W_c W_p
  go_enter Try.func6, Try.ntmps6
  have x_c_1 := O_c_0.out.cell 1 _ rfl
  have x_c_2 := O_c_0.out.cell 2 _ rfl
  have x_c_3 := O_c_0.out.cell 3 _ rfl
  have x_c_4 := O_c_0.out.cell 4 _ rfl
  have x_c_5 := O_c_0.out.cell 5 _ rfl
  have x_c_6 := O_c_0.out.cell 6 _ rfl
  have x_c_7 := O_c_0.out.cell 7 _ rfl
  have x_c_8 := O_c_0.out.cell 8 _ rfl
  have x_c_9 := O_c_0.out.cell 9 _ rfl
  have x_c_10 := O_c_0.out.cell 10 _ rfl
  have x_c_11 := O_c_0.out.cell 11 _ rfl
  have x_c_12 := O_c_0.out.cell 12 _ rfl
  have x_c_13 := O_c_0.out.cell 13 _ rfl
  go_wp2_with (first | (refine wpList_load_row rfl 31 _ rfl _ rfl 31 _ (0, 0) _ O_c_0.out.ex Try.underlying31 rfl (by kernel_rfl) ?_) | (refine wpList_load_row rfl 41 _ rfl _ rfl 41 _ (0, 0) _ O_p_0.out.ex Try.underlying41 rfl (by kernel_rfl) ?_))
  clear x_c_1 x_c_2 x_c_3 x_c_4 x_c_5 x_c_6 x_c_7 x_c_8 x_c_9 x_c_10 x_c_11 x_c_12 x_c_13
  refine (short_any y A0 n0 c0 A1 n1 c1 A2 n2 c2 _ (KQ.out _ B_0.out).rq).mono ?_; rintro e w1 ⟨rfl, hb⟩
  have O_c_1 := Lib.hid (O_c_0.out.below hb)
  have O_p_1 := Lib.hid (O_p_0.out.below hb)
  have B_1 := Lib.hid (then_ B_0.out hb)
  clear B_0 O_c_0 O_p_0
  clear hb
  rw [HS.out]
  have x_c_16 := O_c_1.out.cell 16 _ rfl
  go_wp2_with (first | (refine wpList_load_row rfl 31 _ rfl _ rfl 31 _ (0, 0) _ O_c_1.out.ex Try.underlying31 rfl (by kernel_rfl) ?_) | (refine wpList_load_row rfl 41 _ rfl _ rfl 41 _ (0, 0) _ O_p_1.out.ex Try.underlying41 rfl (by kernel_rfl) ?_))
  clear x_c_16
  refine (C1.out _).mono ?_; rintro e w2 ⟨rfl, hb⟩
  have O_c_2 := Lib.hid (O_c_1.out.below hb)
  have O_p_2 := Lib.hid (O_p_1.out.below hb)
  have B_2 := Lib.hid (then_ B_1.out hb)
  clear B_1 O_c_1 O_p_1
  clear hb
  have N := Lib.hid (own_new w2 #[.bool false, .int .i64 0, .int .i64 0, .int .i64 0, .bool false, .string ⟨#[]⟩, .string ⟨#[]⟩, .int .i64 0, .int .i64 0, .int .i64 0, .int .i64 0, .slice none 0 0, .slice none 0 0, .slice none 0 0, .int .i64 0, .int .i64 0, .int .i64 0] 31)
  have bz := below_setRow (new1 w2 (.cells #[.bool false, .int .i64 0, .int .i64 0, .int .i64 0, .bool false, .string ⟨#[]⟩, .string ⟨#[]⟩, .int .i64 0, .int .i64 0, .int .i64 0, .int .i64 0, .slice none 0 0, .slice none 0 0, .slice none 0 0, .int .i64 0, .int .i64 0, .int .i64 0] 31)) (Nat.le_refl _) ((Cl.mk true y sent next tries).arr A0 n0 c0 A1 n1 c1 A2 n2 c2)
  have O_c_3 := Lib.hid (O_c_2.out.below bz)
  have O_p_3 := Lib.hid (O_p_2.out.below bz)
  have O_d_3 := Lib.hid (N.out.row ((Cl.mk true y sent next tries).arr A0 n0 c0 A1 n1 c1 A2 n2 c2))
  have B_3 := Lib.hid (then_ B_2.out bz)
  clear bz B_2 O_c_2 O_p_2
  go_upto_region 4 with (first | (refine wpList_store_row rfl 31 _ _ rfl _ _ rfl rfl 31 _ N.out.ex (by kernel_rfl) rfl (by simp [Value.oneCell']) ?_))
  clear N
  generalize (w2.alloc (.cells #[.bool false, .int .i64 0, .int .i64 0, .int .i64 0, .bool false, .string ⟨#[]⟩, .string ⟨#[]⟩, .int .i64 0, .int .i64 0, .int .i64 0, .int .i64 0, .slice none 0 0, .slice none 0 0, .slice none 0 0, .int .i64 0, .int .i64 0, .int .i64 0] 31)).setRow w2.heap.size ((Cl.mk true y sent next tries).arr A0 n0 c0 A1 n1 c1 A2 n2 c2) = w3 at *
  have lt_c := Lib.hid (O_c_3.out.lt)
  have lt_p := Lib.hid (O_p_3.out.lt)
  have lt_d := Lib.hid (O_d_3.out.lt)
  have N := Lib.hid (own_new w3 #[.int .i64 0, .int .i64 0, .int .i64 0, .int .i64 0, .int .i64 0, .int .i64 0, .bool false, .slice none 0 0, .slice none 0 0] 41)
  have bz := below_setRow (new1 w3 (.cells #[.int .i64 0, .int .i64 0, .int .i64 0, .int .i64 0, .int .i64 0, .int .i64 0, .bool false, .slice none 0 0, .slice none 0 0] 41)) (Nat.le_refl _) (#[.int .i64 code, .int .i64 y.who, .int .i64 seq, .int .i64 rev, .int .i64 lease, .int .i64 ttl, .bool yes, .slice D0 m0 d0, .slice D1 m1 d1])
  have O_c_4 := Lib.hid (O_c_3.out.below bz)
  have O_p_4 := Lib.hid (O_p_3.out.below bz)
  have O_d_4 := Lib.hid (O_d_3.out.below bz)
  have O_m_4 := Lib.hid (N.out.row (#[.int .i64 code, .int .i64 y.who, .int .i64 seq, .int .i64 rev, .int .i64 lease, .int .i64 ttl, .bool yes, .slice D0 m0 d0, .slice D1 m1 d1]))
  have B_4 := Lib.hid (then_ B_3.out bz)
  clear bz B_3 
  go_upto_region 5 with (first | (refine wpList_load_row rfl 31 _ rfl _ rfl 31 _ (0, 0) _ O_c_3.out.ex Try.underlying31 rfl (by kernel_rfl) ?_) | (refine wpList_load_row rfl 41 _ rfl _ rfl 41 _ (0, 0) _ O_p_3.out.ex Try.underlying41 rfl (by kernel_rfl) ?_) | (refine wpList_load_row rfl 31 _ rfl _ rfl 31 _ (0, 0) _ O_d_3.out.ex Try.underlying31 rfl (by kernel_rfl) ?_) | (refine wpList_store_row rfl 41 _ _ rfl _ _ rfl rfl 41 _ N.out.ex (by kernel_rfl) rfl (by simp [Value.oneCell']) ?_))
  clear O_c_3 O_p_3 O_d_3
  clear N
  generalize (w3.alloc (.cells #[.int .i64 0, .int .i64 0, .int .i64 0, .int .i64 0, .int .i64 0, .int .i64 0, .bool false, .slice none 0 0, .slice none 0 0] 41)).setRow w3.heap.size (#[.int .i64 code, .int .i64 y.who, .int .i64 seq, .int .i64 rev, .int .i64 lease, .int .i64 ttl, .bool yes, .slice D0 m0 d0, .slice D1 m1 d1]) = w4 at *
  have ne_c : w.heap.size ≠ w3.heap.size := by have := lt_c.out; omega
  have en_c : ¬ w3.heap.size = w.heap.size := by have := lt_c.out; omega
  have ne_p : (w.heap.size + 1) ≠ w3.heap.size := by have := lt_p.out; omega
  have en_p : ¬ w3.heap.size = (w.heap.size + 1) := by have := lt_p.out; omega
  have ne_d : w2.heap.size ≠ w3.heap.size := by have := lt_d.out; omega
  have en_d : ¬ w3.heap.size = w2.heap.size := by have := lt_d.out; omega
  have ltm : w.heap.size ≤ w3.heap.size := Nat.le_of_lt (Nat.lt_of_le_of_lt (by omega) lt_p.out)
  have x_c_2 := O_c_4.out.cell 2 _ rfl
  have x_c_3 := O_c_4.out.cell 3 _ rfl
  have x_m_1 := O_m_4.out.cell 1 _ rfl
  have x_m_2 := O_m_4.out.cell 2 _ rfl
  have O_c_5 := Lib.hid (show Own ((w4.setCell ⟨w3.heap.size, 1, none⟩ (.int .i64 y.who)).setCell ⟨w3.heap.size, 2, none⟩ (.int .i64 y.seq)) w.heap.size 31 (((Cl.mk true y sent next tries).arr A0 n0 c0 A1 n1 c1 A2 n2 c2)) from ((O_c_4.out.other _ _ _ ne_c).other _ _ _ ne_c))
  have O_p_5 := Lib.hid (show Own ((w4.setCell ⟨w3.heap.size, 1, none⟩ (.int .i64 y.who)).setCell ⟨w3.heap.size, 2, none⟩ (.int .i64 y.seq)) (w.heap.size + 1) 41 (#[.int .i64 code, .int .i64 y.who, .int .i64 seq, .int .i64 rev, .int .i64 lease, .int .i64 ttl, .bool yes, .slice D0 m0 d0, .slice D1 m1 d1]) from ((O_p_4.out.other _ _ _ ne_p).other _ _ _ ne_p))
  have O_d_5 := Lib.hid (show Own ((w4.setCell ⟨w3.heap.size, 1, none⟩ (.int .i64 y.who)).setCell ⟨w3.heap.size, 2, none⟩ (.int .i64 y.seq)) w2.heap.size 31 ((Cl.mk true y sent next tries).arr A0 n0 c0 A1 n1 c1 A2 n2 c2) from ((O_d_4.out.other _ _ _ ne_d).other _ _ _ ne_d))
  have O_m_5 : Hid (Own ((w4.setCell ⟨w3.heap.size, 1, none⟩ (.int .i64 y.who)).setCell ⟨w3.heap.size, 2, none⟩ (.int .i64 y.seq)) w3.heap.size 41 (#[.int .i64 code, .int .i64 y.who, .int .i64 y.seq, .int .i64 rev, .int .i64 lease, .int .i64 ttl, .bool yes, .slice D0 m0 d0, .slice D1 m1 d1])) := Lib.hid ((O_m_4.out.set 1 _).set 2 _)
  have B_5 : Hid (Below w.heap.size w ((w4.setCell ⟨w3.heap.size, 1, none⟩ (.int .i64 y.who)).setCell ⟨w3.heap.size, 2, none⟩ (.int .i64 y.seq))) := Lib.hid ((B_4.out.setCell (p := ⟨w3.heap.size, 1, none⟩) (by show w.heap.size ≤ w3.heap.size; omega) _).setCell (p := ⟨w3.heap.size, 2, none⟩) (by show w.heap.size ≤ w3.heap.size; omega) _)
  have fk := O_m_4.out.frozen
  go_upto_region 7 with fail
  clear fk ltm x_c_2 x_c_3 x_m_1 x_m_2 O_c_4 O_p_4 O_d_4 O_m_4 B_4
  clear ne_c en_c lt_c ne_p en_p lt_p ne_d en_d lt_d
  generalize ((w4.setCell ⟨w3.heap.size, 1, none⟩ (.int .i64 y.who)).setCell ⟨w3.heap.size, 2, none⟩ (.int .i64 y.seq)) = w5 at *
  go_wp2_with (first | (refine wpList_load_row rfl 31 _ rfl _ rfl 31 _ (0, 0) _ O_c_5.out.ex Try.underlying31 rfl (by kernel_rfl) ?_) | (refine wpList_load_row rfl 41 _ rfl _ rfl 41 _ (0, 0) _ O_p_5.out.ex Try.underlying41 rfl (by kernel_rfl) ?_) | (refine wpList_load_row rfl 31 _ rfl _ rfl 31 _ (0, 0) _ O_d_5.out.ex Try.underlying31 rfl (by kernel_rfl) ?_) | (refine wpList_load_row rfl 41 _ rfl _ rfl 41 _ (0, 0) _ O_m_5.out.ex Try.underlying41 rfl (by kernel_rfl) ?_))
  refine (C2.out _).mono ?_; rintro e w6 ⟨rfl, hb⟩
  have O_c_6 := Lib.hid (O_c_5.out.below hb)
  have O_p_6 := Lib.hid (O_p_5.out.below hb)
  have O_d_6 := Lib.hid (O_d_5.out.below hb)
  have O_m_6 := Lib.hid (O_m_5.out.below hb)
  have B_6 := Lib.hid (then_ B_5.out hb)
  clear B_5 O_c_5 O_p_5 O_d_5 O_m_5
  clear hb
  have N := Lib.hid (own_new w6 #[.bool false, .int .i64 0, .int .i64 0, .int .i64 0, .bool false, .string ⟨#[]⟩, .string ⟨#[]⟩, .int .i64 0, .int .i64 0, .int .i64 0, .int .i64 0, .slice none 0 0, .slice none 0 0, .slice none 0 0, .int .i64 0, .int .i64 0, .int .i64 0] 31)
  have bz := below_setRow (new1 w6 (.cells #[.bool false, .int .i64 0, .int .i64 0, .int .i64 0, .bool false, .string ⟨#[]⟩, .string ⟨#[]⟩, .int .i64 0, .int .i64 0, .int .i64 0, .int .i64 0, .slice none 0 0, .slice none 0 0, .slice none 0 0, .int .i64 0, .int .i64 0, .int .i64 0] 31)) (Nat.le_refl _) (zCl.arr none 0 0 none 0 0 none 0 0)
  have O_c_7 := Lib.hid (O_c_6.out.below bz)
  have O_p_7 := Lib.hid (O_p_6.out.below bz)
  have O_d_7 := Lib.hid (O_d_6.out.below bz)
  have O_m_7 := Lib.hid (O_m_6.out.below bz)
  have O_e_7 := Lib.hid (N.out.row (zCl.arr none 0 0 none 0 0 none 0 0))
  have B_7 := Lib.hid (then_ B_6.out bz)
  clear bz B_6 O_c_6 O_p_6 O_d_6 O_m_6
  go_upto_region 8 with (first | (refine wpList_store_row rfl 31 _ _ rfl _ _ rfl rfl 31 _ N.out.ex (by kernel_rfl) rfl (by simp [Value.oneCell']) ?_))
  clear N
  generalize (w6.alloc (.cells #[.bool false, .int .i64 0, .int .i64 0, .int .i64 0, .bool false, .string ⟨#[]⟩, .string ⟨#[]⟩, .int .i64 0, .int .i64 0, .int .i64 0, .int .i64 0, .slice none 0 0, .slice none 0 0, .slice none 0 0, .int .i64 0, .int .i64 0, .int .i64 0] 31)).setRow w6.heap.size (zCl.arr none 0 0 none 0 0 none 0 0) = w7 at *
  go_wp2_with (first | (refine wpList_load_row rfl 31 _ rfl _ rfl 31 _ (0, 0) _ O_c_7.out.ex Try.underlying31 rfl (by kernel_rfl) ?_) | (refine wpList_load_row rfl 41 _ rfl _ rfl 41 _ (0, 0) _ O_p_7.out.ex Try.underlying41 rfl (by kernel_rfl) ?_) | (refine wpList_load_row rfl 31 _ rfl _ rfl 31 _ (0, 0) _ O_d_7.out.ex Try.underlying31 rfl (by kernel_rfl) ?_) | (refine wpList_load_row rfl 41 _ rfl _ rfl 41 _ (0, 0) _ O_m_7.out.ex Try.underlying41 rfl (by kernel_rfl) ?_) | (refine wpList_load_row rfl 31 _ rfl _ rfl 31 _ (0, 0) _ O_e_7.out.ex Try.underlying31 rfl (by kernel_rfl) ?_))
  refine (C4.out _ B_7.out).mono ?_; rintro e w8 ⟨rfl, hb⟩
  have O_c_8 := Lib.hid (O_c_7.out.below hb)
  have O_p_8 := Lib.hid (O_p_7.out.below hb)
  have O_d_8 := Lib.hid (O_d_7.out.below hb)
  have O_m_8 := Lib.hid (O_m_7.out.below hb)
  have O_e_8 := Lib.hid (O_e_7.out.below hb)
  have B_8 := Lib.hid (then_ B_7.out hb)
  clear B_7 O_c_7 O_p_7 O_d_7 O_m_7 O_e_7
  clear hb
  have N := Lib.hid (own_new w8 #[.bool false, .int .i64 0, .int .i64 0, .int .i64 0, .bool false, .string ⟨#[]⟩, .string ⟨#[]⟩, .int .i64 0, .int .i64 0, .int .i64 0, .int .i64 0, .slice none 0 0, .slice none 0 0, .slice none 0 0, .int .i64 0, .int .i64 0, .int .i64 0] 31)
  have bz := below_setRow (new1 w8 (.cells #[.bool false, .int .i64 0, .int .i64 0, .int .i64 0, .bool false, .string ⟨#[]⟩, .string ⟨#[]⟩, .int .i64 0, .int .i64 0, .int .i64 0, .int .i64 0, .slice none 0 0, .slice none 0 0, .slice none 0 0, .int .i64 0, .int .i64 0, .int .i64 0] 31)) (Nat.le_refl _) ((sendC zCl now).arr none 0 0 none 0 0 none 0 0)
  have O_c_9 := Lib.hid (O_c_8.out.below bz)
  have O_p_9 := Lib.hid (O_p_8.out.below bz)
  have O_d_9 := Lib.hid (O_d_8.out.below bz)
  have O_m_9 := Lib.hid (O_m_8.out.below bz)
  have O_e_9 := Lib.hid (O_e_8.out.below bz)
  have O_f_9 := Lib.hid (N.out.row ((sendC zCl now).arr none 0 0 none 0 0 none 0 0))
  have B_9 := Lib.hid (then_ B_8.out bz)
  clear bz B_8 O_c_8 O_p_8 O_d_8 O_m_8 O_e_8
  go_upto_region 9 with (first | (refine wpList_store_row rfl 31 _ _ rfl _ _ rfl rfl 31 _ N.out.ex (by kernel_rfl) rfl (by simp [Value.oneCell']) ?_))
  clear N
  generalize (w8.alloc (.cells #[.bool false, .int .i64 0, .int .i64 0, .int .i64 0, .bool false, .string ⟨#[]⟩, .string ⟨#[]⟩, .int .i64 0, .int .i64 0, .int .i64 0, .int .i64 0, .slice none 0 0, .slice none 0 0, .slice none 0 0, .int .i64 0, .int .i64 0, .int .i64 0] 31)).setRow w8.heap.size ((sendC zCl now).arr none 0 0 none 0 0 none 0 0) = w9 at *
  go_wp2_with (first | (refine wpList_load_row rfl 31 _ rfl _ rfl 31 _ (0, 0) _ O_c_9.out.ex Try.underlying31 rfl (by kernel_rfl) ?_) | (refine wpList_load_row rfl 41 _ rfl _ rfl 41 _ (0, 0) _ O_p_9.out.ex Try.underlying41 rfl (by kernel_rfl) ?_) | (refine wpList_load_row rfl 31 _ rfl _ rfl 31 _ (0, 0) _ O_d_9.out.ex Try.underlying31 rfl (by kernel_rfl) ?_) | (refine wpList_load_row rfl 41 _ rfl _ rfl 41 _ (0, 0) _ O_m_9.out.ex Try.underlying41 rfl (by kernel_rfl) ?_) | (refine wpList_load_row rfl 31 _ rfl _ rfl 31 _ (0, 0) _ O_e_9.out.ex Try.underlying31 rfl (by kernel_rfl) ?_) | (refine wpList_load_row rfl 31 _ rfl _ rfl 31 _ (0, 0) _ O_f_9.out.ex Try.underlying31 rfl (by kernel_rfl) ?_))
  refine (C3.out _).mono ?_; rintro e w10 ⟨rfl, hb⟩
  have O_c_10 := Lib.hid (O_c_9.out.below hb)
  have O_p_10 := Lib.hid (O_p_9.out.below hb)
  have O_d_10 := Lib.hid (O_d_9.out.below hb)
  have O_m_10 := Lib.hid (O_m_9.out.below hb)
  have O_e_10 := Lib.hid (O_e_9.out.below hb)
  have O_f_10 := Lib.hid (O_f_9.out.below hb)
  have B_10 := Lib.hid (then_ B_9.out hb)
  clear B_9 O_c_9 O_p_9 O_d_9 O_m_9 O_e_9 O_f_9
  clear hb
  have N := Lib.hid (own_new w10 #[.bool false, .int .i64 0, .int .i64 0, .int .i64 0, .bool false, .string ⟨#[]⟩, .string ⟨#[]⟩, .int .i64 0, .int .i64 0, .int .i64 0, .int .i64 0, .slice none 0 0, .slice none 0 0, .slice none 0 0, .int .i64 0, .int .i64 0, .int .i64 0] 31)
  have bz := below_setRow (new1 w10 (.cells #[.bool false, .int .i64 0, .int .i64 0, .int .i64 0, .bool false, .string ⟨#[]⟩, .string ⟨#[]⟩, .int .i64 0, .int .i64 0, .int .i64 0, .int .i64 0, .slice none 0 0, .slice none 0 0, .slice none 0 0, .int .i64 0, .int .i64 0, .int .i64 0] 31)) (Nat.le_refl _) (zCl.arr none 0 0 none 0 0 none 0 0)
  have O_c_11 := Lib.hid (O_c_10.out.below bz)
  have O_p_11 := Lib.hid (O_p_10.out.below bz)
  have O_d_11 := Lib.hid (O_d_10.out.below bz)
  have O_m_11 := Lib.hid (O_m_10.out.below bz)
  have O_e_11 := Lib.hid (O_e_10.out.below bz)
  have O_f_11 := Lib.hid (O_f_10.out.below bz)
  have O_z_11 := Lib.hid (N.out.row (zCl.arr none 0 0 none 0 0 none 0 0))
  have B_11 := Lib.hid (then_ B_10.out bz)
  clear bz B_10 O_c_10 O_p_10 O_d_10 O_m_10 O_e_10 O_f_10
  go_upto_region 10 with (first | (refine wpList_store_row rfl 31 _ _ rfl _ _ rfl rfl 31 _ N.out.ex (by kernel_rfl) rfl (by simp [Value.oneCell']) ?_))
  clear N
  generalize (w10.alloc (.cells #[.bool false, .int .i64 0, .int .i64 0, .int .i64 0, .bool false, .string ⟨#[]⟩, .string ⟨#[]⟩, .int .i64 0, .int .i64 0, .int .i64 0, .int .i64 0, .slice none 0 0, .slice none 0 0, .slice none 0 0, .int .i64 0, .int .i64 0, .int .i64 0] 31)).setRow w10.heap.size (zCl.arr none 0 0 none 0 0 none 0 0) = w11 at *
  have hqb : (seq == y.seq) = false := by simpa using h2
  try generalize ((Cl.mk true y sent next tries).agg A0 n0 c0 A1 n1 c1 A2 n2 c2) = X0
  try generalize (Value.agg ((Cl.mk true y sent next tries).arr A0 n0 c0 A1 n1 c1 A2 n2 c2)) = X1
  try generalize (zCl.agg none 0 0 none 0 0 none 0 0) = X2
  try generalize (Value.agg (zCl.arr none 0 0 none 0 0 none 0 0)) = X3
  try generalize ((sendC zCl now).agg none 0 0 none 0 0 none 0 0) = X4
  try generalize (Value.agg ((sendC zCl now).arr none 0 0 none 0 0 none 0 0)) = X5
  try generalize (Value.agg #[.int .i64 code, .int .i64 y.who, .int .i64 seq, .int .i64 rev, .int .i64 lease, .int .i64 ttl, .bool yes, .slice D0 m0 d0, .slice D1 m1 d1]) = X6
  try generalize (Value.agg #[.int .i64 code, .int .i64 y.who, .int .i64 y.seq, .int .i64 rev, .int .i64 lease, .int .i64 ttl, .bool yes, .slice D0 m0 d0, .slice D1 m1 d1]) = X7
  try generalize (Rq.agg y A0 n0 c0 A1 n1 c1 A2 n2 c2) = X8
  try generalize (Value.agg #[.int .i64 y.kind, .int .i64 y.who, .int .i64 y.seq, .bool y.once, .string y.key, .string y.val, .int .i64 y.lease, .int .i64 y.rev, .int .i64 y.ttl, .int .i64 y.token, .slice A0 n0 c0, .slice A1 n1 c1, .slice A2 n2 c2]) = X9
  have x_c_0 := O_c_11.out.cell 0 _ rfl
  have x_c_2 := O_c_11.out.cell 2 _ rfl
  have x_c_3 := O_c_11.out.cell 3 _ rfl
  have x_e_0 := O_e_11.out.cell 0 _ rfl
  have x_p_1 := O_p_11.out.cell 1 _ rfl
  have x_p_2 := O_p_11.out.cell 2 _ rfl
  have HSB : sendsB zCl now = false := HB4.out
  have HSS : sendS zCl now = ⟨#[]⟩ := by unfold sendS; rw [if_neg (by rw [HB4.out]; decide)]
  simp only [HSB, HSS]
  have tk0 : True := trivial
  have tk1 : True := trivial
  go_wp2_with (first | (have _t := tk0; refine wpList_load_rowG 31 _ rfl _ rfl 31 _ (0, 0) _ O_d_11.out.ex Try.underlying31 rfl (by kernel_rfl) rfl ?_; clear tk0 _t) | (have _t := tk1; refine wpList_load_rowG 31 _ rfl _ rfl 31 _ (0, 0) _ O_c_11.out.ex Try.underlying31 rfl (by kernel_rfl) rfl ?_; clear tk1 _t))
  clear x_c_0 x_c_2 x_c_3 x_e_0 x_p_1 x_p_2
  refine (csame_any (Cl.mk true y sent next tries) A0 n0 c0 A1 n1 c1 A2 n2 c2 _ ((KQ.out _ B_11.out).rq)).mono ?_; rintro e w12 ⟨rfl, hb⟩
  have O_c_12 := Lib.hid (O_c_11.out.below hb)
  have O_p_12 := Lib.hid (O_p_11.out.below hb)
  have O_d_12 := Lib.hid (O_d_11.out.below hb)
  have O_m_12 := Lib.hid (O_m_11.out.below hb)
  have O_e_12 := Lib.hid (O_e_11.out.below hb)
  have O_f_12 := Lib.hid (O_f_11.out.below hb)
  have O_z_12 := Lib.hid (O_z_11.out.below hb)
  have B_12 := Lib.hid (then_ B_11.out hb)
  clear B_11 O_c_11 O_p_11 O_d_11 O_m_11 O_e_11 O_f_11 O_z_11
  clear hb
  go_wp2_with fail
  refine (clive_any _).mono ?_; rintro e w13 ⟨rfl, hb⟩
  have B_13 := Lib.hid (then_ B_12.out hb)
  clear B_12 
  clear hb
  go_wp2
  go_ret
  exact ⟨rfl, B_13.out⟩
theorem m_mine (w : World) (k : Cl) (A0 : Option Addr) (n0 c0 : Nat) (A1 : Option Addr) (n1 c1 : Nat) (A2 : Option Addr) (n2 c2 : Nat) (now : Int) (p : Rp) (D0 : Option Addr) (m0 d0 : Nat) (D1 : Option Addr) (m1 d1 : Nat) (h : ClAt w k A0 n0 c0 A1 n1 c1 A2 n2 c2) (hs : shortQ k.y = true) (ht : ¬ 1099511627775 < k.tries) (ho : k.on = true) (h1 : p.who = k.y.who) (h2 : p.seq = k.y.seq) :
    Calls Try.prog 6 #[k.agg A0 n0 c0 A1 n1 c1 A2 n2 c2, .int .i64 now, p.agg D0 m0 d0 D1 m1 d1] w fun e w' => e = .returned (.bool true) ∧ Below w.heap.size w w' := by
  obtain ⟨on, y, sent, next, tries⟩ := k
  simp only at ho hs ht h1 h2
  subst ho
  obtain ⟨code, who, seq, rev, lease, ttl, yes, kvs, evs⟩ := p
  simp only at h1 h2
  subst h1
  subst h2
  have C1 := Lib.hid (fun w' => gets_is (Cl.mk true y sent next tries) A0 n0 c0 A1 n1 c1 A2 n2 c2 (Rp.mk code y.who y.seq rev lease ttl yes kvs evs) D0 m0 d0 D1 m1 d1 w' (by unfold getsB; simp))
  have C2 := Lib.hid (fun w' => gets_is (Cl.mk true y sent next tries) A0 n0 c0 A1 n1 c1 A2 n2 c2 (Rp.mk code y.who y.seq rev lease ttl yes kvs evs) D0 m0 d0 D1 m1 d1 w' (by unfold getsB; simp))
  have C3 := Lib.hid (fun w' => gets_not zCl none 0 0 none 0 0 none 0 0 (Rp.mk code y.who y.seq rev lease ttl yes kvs evs) D0 m0 d0 D1 m1 d1 w' (by unfold getsB; rfl))
  have C4 := Lib.hid (fun w' (hb : Below w.heap.size w w') => sends_uni zCl none 0 0 none 0 0 none 0 0 now w' (zero_cl w') (by decide))
  have HS := Lib.hid hs; clear hs
  have KQ := Lib.hid (fun w' (hb : Below w.heap.size w w') => h.keep hb)
  clear h
  have HB4 : Hid (sendsB zCl now = false) := Lib.hid (by unfold sendsB cdueB; rfl)
  have bbc := new1 w (.cells ((Cl.mk true y sent next tries).arr A0 n0 c0 A1 n1 c1 A2 n2 c2) 31)
  have W_c := own_new w ((Cl.mk true y sent next tries).arr A0 n0 c0 A1 n1 c1 A2 n2 c2) 31
  have bb := bbc
  have bbp := new1 (w.alloc (.cells ((Cl.mk true y sent next tries).arr A0 n0 c0 A1 n1 c1 A2 n2 c2) 31)) (.cells #[.int .i64 code, .int .i64 y.who, .int .i64 y.seq, .int .i64 rev, .int .i64 lease, .int .i64 ttl, .bool yes, .slice D0 m0 d0, .slice D1 m1 d1] 41)
  have W_c := W_c.below bbp
  have W_p := own_new (w.alloc (.cells ((Cl.mk true y sent next tries).arr A0 n0 c0 A1 n1 c1 A2 n2 c2) 31)) #[.int .i64 code, .int .i64 y.who, .int .i64 y.seq, .int .i64 rev, .int .i64 lease, .int .i64 ttl, .bool yes, .slice D0 m0 d0, .slice D1 m1 d1] 41
  rw [show (w.alloc (.cells ((Cl.mk true y sent next tries).arr A0 n0 c0 A1 n1 c1 A2 n2 c2) 31)).heap.size = w.heap.size + 1 by simp] at W_p
  have bb := then_ bb bbp
  have O_c_0 := Lib.hid W_c
  have O_p_0 := Lib.hid W_p
  have B_0 := Lib.hid bb
  clear bb bbc bbp W_c W_p
  go_enter Try.func6, Try.ntmps6
  have x_c_1 := O_c_0.out.cell 1 _ rfl
  have x_c_2 := O_c_0.out.cell 2 _ rfl
  have x_c_3 := O_c_0.out.cell 3 _ rfl
  have x_c_4 := O_c_0.out.cell 4 _ rfl
  have x_c_5 := O_c_0.out.cell 5 _ rfl
  have x_c_6 := O_c_0.out.cell 6 _ rfl
  have x_c_7 := O_c_0.out.cell 7 _ rfl
  have x_c_8 := O_c_0.out.cell 8 _ rfl
  have x_c_9 := O_c_0.out.cell 9 _ rfl
  have x_c_10 := O_c_0.out.cell 10 _ rfl
  have x_c_11 := O_c_0.out.cell 11 _ rfl
  have x_c_12 := O_c_0.out.cell 12 _ rfl
  have x_c_13 := O_c_0.out.cell 13 _ rfl
  go_wp2_with (first | (refine wpList_load_row rfl 31 _ rfl _ rfl 31 _ (0, 0) _ O_c_0.out.ex Try.underlying31 rfl (by kernel_rfl) ?_) | (refine wpList_load_row rfl 41 _ rfl _ rfl 41 _ (0, 0) _ O_p_0.out.ex Try.underlying41 rfl (by kernel_rfl) ?_))
  clear x_c_1 x_c_2 x_c_3 x_c_4 x_c_5 x_c_6 x_c_7 x_c_8 x_c_9 x_c_10 x_c_11 x_c_12 x_c_13
  refine (short_any y A0 n0 c0 A1 n1 c1 A2 n2 c2 _ (KQ.out _ B_0.out).rq).mono ?_; rintro e w1 ⟨rfl, hb⟩
  have O_c_1 := Lib.hid (O_c_0.out.below hb)
  have O_p_1 := Lib.hid (O_p_0.out.below hb)
  have B_1 := Lib.hid (then_ B_0.out hb)
  clear B_0 O_c_0 O_p_0
  clear hb
  rw [HS.out]
  have x_c_16 := O_c_1.out.cell 16 _ rfl
  go_wp2_with (first | (refine wpList_load_row rfl 31 _ rfl _ rfl 31 _ (0, 0) _ O_c_1.out.ex Try.underlying31 rfl (by kernel_rfl) ?_) | (refine wpList_load_row rfl 41 _ rfl _ rfl 41 _ (0, 0) _ O_p_1.out.ex Try.underlying41 rfl (by kernel_rfl) ?_))
  clear x_c_16
  refine (C1.out _).mono ?_; rintro e w2 ⟨rfl, hb⟩
  have O_c_2 := Lib.hid (O_c_1.out.below hb)
  have O_p_2 := Lib.hid (O_p_1.out.below hb)
  have B_2 := Lib.hid (then_ B_1.out hb)
  clear B_1 O_c_1 O_p_1
  clear hb
  have N := Lib.hid (own_new w2 #[.bool false, .int .i64 0, .int .i64 0, .int .i64 0, .bool false, .string ⟨#[]⟩, .string ⟨#[]⟩, .int .i64 0, .int .i64 0, .int .i64 0, .int .i64 0, .slice none 0 0, .slice none 0 0, .slice none 0 0, .int .i64 0, .int .i64 0, .int .i64 0] 31)
  have bz := below_setRow (new1 w2 (.cells #[.bool false, .int .i64 0, .int .i64 0, .int .i64 0, .bool false, .string ⟨#[]⟩, .string ⟨#[]⟩, .int .i64 0, .int .i64 0, .int .i64 0, .int .i64 0, .slice none 0 0, .slice none 0 0, .slice none 0 0, .int .i64 0, .int .i64 0, .int .i64 0] 31)) (Nat.le_refl _) (zCl.arr none 0 0 none 0 0 none 0 0)
  have O_c_3 := Lib.hid (O_c_2.out.below bz)
  have O_p_3 := Lib.hid (O_p_2.out.below bz)
  have O_d_3 := Lib.hid (N.out.row (zCl.arr none 0 0 none 0 0 none 0 0))
  have B_3 := Lib.hid (then_ B_2.out bz)
  clear bz B_2 O_c_2 O_p_2
  go_upto_region 4 with (first | (refine wpList_store_row rfl 31 _ _ rfl _ _ rfl rfl 31 _ N.out.ex (by kernel_rfl) rfl (by simp [Value.oneCell']) ?_))
  clear N
  generalize (w2.alloc (.cells #[.bool false, .int .i64 0, .int .i64 0, .int .i64 0, .bool false, .string ⟨#[]⟩, .string ⟨#[]⟩, .int .i64 0, .int .i64 0, .int .i64 0, .int .i64 0, .slice none 0 0, .slice none 0 0, .slice none 0 0, .int .i64 0, .int .i64 0, .int .i64 0] 31)).setRow w2.heap.size (zCl.arr none 0 0 none 0 0 none 0 0) = w3 at *
  have lt_c := Lib.hid (O_c_3.out.lt)
  have lt_p := Lib.hid (O_p_3.out.lt)
  have lt_d := Lib.hid (O_d_3.out.lt)
  have N := Lib.hid (own_new w3 #[.int .i64 0, .int .i64 0, .int .i64 0, .int .i64 0, .int .i64 0, .int .i64 0, .bool false, .slice none 0 0, .slice none 0 0] 41)
  have bz := below_setRow (new1 w3 (.cells #[.int .i64 0, .int .i64 0, .int .i64 0, .int .i64 0, .int .i64 0, .int .i64 0, .bool false, .slice none 0 0, .slice none 0 0] 41)) (Nat.le_refl _) (#[.int .i64 code, .int .i64 y.who, .int .i64 y.seq, .int .i64 rev, .int .i64 lease, .int .i64 ttl, .bool yes, .slice D0 m0 d0, .slice D1 m1 d1])
  have O_c_4 := Lib.hid (O_c_3.out.below bz)
  have O_p_4 := Lib.hid (O_p_3.out.below bz)
  have O_d_4 := Lib.hid (O_d_3.out.below bz)
  have O_m_4 := Lib.hid (N.out.row (#[.int .i64 code, .int .i64 y.who, .int .i64 y.seq, .int .i64 rev, .int .i64 lease, .int .i64 ttl, .bool yes, .slice D0 m0 d0, .slice D1 m1 d1]))
  have B_4 := Lib.hid (then_ B_3.out bz)
  clear bz B_3 
  go_upto_region 5 with (first | (refine wpList_load_row rfl 31 _ rfl _ rfl 31 _ (0, 0) _ O_c_3.out.ex Try.underlying31 rfl (by kernel_rfl) ?_) | (refine wpList_load_row rfl 41 _ rfl _ rfl 41 _ (0, 0) _ O_p_3.out.ex Try.underlying41 rfl (by kernel_rfl) ?_) | (refine wpList_load_row rfl 31 _ rfl _ rfl 31 _ (0, 0) _ O_d_3.out.ex Try.underlying31 rfl (by kernel_rfl) ?_) | (refine wpList_store_row rfl 41 _ _ rfl _ _ rfl rfl 41 _ N.out.ex (by kernel_rfl) rfl (by simp [Value.oneCell']) ?_))
  clear O_c_3 O_p_3 O_d_3
  clear N
  generalize (w3.alloc (.cells #[.int .i64 0, .int .i64 0, .int .i64 0, .int .i64 0, .int .i64 0, .int .i64 0, .bool false, .slice none 0 0, .slice none 0 0] 41)).setRow w3.heap.size (#[.int .i64 code, .int .i64 y.who, .int .i64 y.seq, .int .i64 rev, .int .i64 lease, .int .i64 ttl, .bool yes, .slice D0 m0 d0, .slice D1 m1 d1]) = w4 at *
  have ne_c : w.heap.size ≠ w3.heap.size := by have := lt_c.out; omega
  have en_c : ¬ w3.heap.size = w.heap.size := by have := lt_c.out; omega
  have ne_p : (w.heap.size + 1) ≠ w3.heap.size := by have := lt_p.out; omega
  have en_p : ¬ w3.heap.size = (w.heap.size + 1) := by have := lt_p.out; omega
  have ne_d : w2.heap.size ≠ w3.heap.size := by have := lt_d.out; omega
  have en_d : ¬ w3.heap.size = w2.heap.size := by have := lt_d.out; omega
  have ltm : w.heap.size ≤ w3.heap.size := Nat.le_of_lt (Nat.lt_of_le_of_lt (by omega) lt_p.out)
  have x_c_2 := O_c_4.out.cell 2 _ rfl
  have x_c_3 := O_c_4.out.cell 3 _ rfl
  have x_m_1 := O_m_4.out.cell 1 _ rfl
  have x_m_2 := O_m_4.out.cell 2 _ rfl
  have O_c_5 := Lib.hid (show Own ((w4.setCell ⟨w3.heap.size, 1, none⟩ (.int .i64 y.who)).setCell ⟨w3.heap.size, 2, none⟩ (.int .i64 y.seq)) w.heap.size 31 (((Cl.mk true y sent next tries).arr A0 n0 c0 A1 n1 c1 A2 n2 c2)) from ((O_c_4.out.other _ _ _ ne_c).other _ _ _ ne_c))
  have O_p_5 := Lib.hid (show Own ((w4.setCell ⟨w3.heap.size, 1, none⟩ (.int .i64 y.who)).setCell ⟨w3.heap.size, 2, none⟩ (.int .i64 y.seq)) (w.heap.size + 1) 41 (#[.int .i64 code, .int .i64 y.who, .int .i64 y.seq, .int .i64 rev, .int .i64 lease, .int .i64 ttl, .bool yes, .slice D0 m0 d0, .slice D1 m1 d1]) from ((O_p_4.out.other _ _ _ ne_p).other _ _ _ ne_p))
  have O_d_5 := Lib.hid (show Own ((w4.setCell ⟨w3.heap.size, 1, none⟩ (.int .i64 y.who)).setCell ⟨w3.heap.size, 2, none⟩ (.int .i64 y.seq)) w2.heap.size 31 (zCl.arr none 0 0 none 0 0 none 0 0) from ((O_d_4.out.other _ _ _ ne_d).other _ _ _ ne_d))
  have O_m_5 : Hid (Own ((w4.setCell ⟨w3.heap.size, 1, none⟩ (.int .i64 y.who)).setCell ⟨w3.heap.size, 2, none⟩ (.int .i64 y.seq)) w3.heap.size 41 (#[.int .i64 code, .int .i64 y.who, .int .i64 y.seq, .int .i64 rev, .int .i64 lease, .int .i64 ttl, .bool yes, .slice D0 m0 d0, .slice D1 m1 d1])) := Lib.hid ((O_m_4.out.set 1 _).set 2 _)
  have B_5 : Hid (Below w.heap.size w ((w4.setCell ⟨w3.heap.size, 1, none⟩ (.int .i64 y.who)).setCell ⟨w3.heap.size, 2, none⟩ (.int .i64 y.seq))) := Lib.hid ((B_4.out.setCell (p := ⟨w3.heap.size, 1, none⟩) (by show w.heap.size ≤ w3.heap.size; omega) _).setCell (p := ⟨w3.heap.size, 2, none⟩) (by show w.heap.size ≤ w3.heap.size; omega) _)
  have fk := O_m_4.out.frozen
  go_upto_region 7 with fail
  clear fk ltm x_c_2 x_c_3 x_m_1 x_m_2 O_c_4 O_p_4 O_d_4 O_m_4 B_4
  clear ne_c en_c lt_c ne_p en_p lt_p ne_d en_d lt_d
  generalize ((w4.setCell ⟨w3.heap.size, 1, none⟩ (.int .i64 y.who)).setCell ⟨w3.heap.size, 2, none⟩ (.int .i64 y.seq)) = w5 at *
  go_wp2_with (first | (refine wpList_load_row rfl 31 _ rfl _ rfl 31 _ (0, 0) _ O_c_5.out.ex Try.underlying31 rfl (by kernel_rfl) ?_) | (refine wpList_load_row rfl 41 _ rfl _ rfl 41 _ (0, 0) _ O_p_5.out.ex Try.underlying41 rfl (by kernel_rfl) ?_) | (refine wpList_load_row rfl 31 _ rfl _ rfl 31 _ (0, 0) _ O_d_5.out.ex Try.underlying31 rfl (by kernel_rfl) ?_) | (refine wpList_load_row rfl 41 _ rfl _ rfl 41 _ (0, 0) _ O_m_5.out.ex Try.underlying41 rfl (by kernel_rfl) ?_))
  refine (C2.out _).mono ?_; rintro e w6 ⟨rfl, hb⟩
  have O_c_6 := Lib.hid (O_c_5.out.below hb)
  have O_p_6 := Lib.hid (O_p_5.out.below hb)
  have O_d_6 := Lib.hid (O_d_5.out.below hb)
  have O_m_6 := Lib.hid (O_m_5.out.below hb)
  have B_6 := Lib.hid (then_ B_5.out hb)
  clear B_5 O_c_5 O_p_5 O_d_5 O_m_5
  clear hb
  have N := Lib.hid (own_new w6 #[.bool false, .int .i64 0, .int .i64 0, .int .i64 0, .bool false, .string ⟨#[]⟩, .string ⟨#[]⟩, .int .i64 0, .int .i64 0, .int .i64 0, .int .i64 0, .slice none 0 0, .slice none 0 0, .slice none 0 0, .int .i64 0, .int .i64 0, .int .i64 0] 31)
  have bz := below_setRow (new1 w6 (.cells #[.bool false, .int .i64 0, .int .i64 0, .int .i64 0, .bool false, .string ⟨#[]⟩, .string ⟨#[]⟩, .int .i64 0, .int .i64 0, .int .i64 0, .int .i64 0, .slice none 0 0, .slice none 0 0, .slice none 0 0, .int .i64 0, .int .i64 0, .int .i64 0] 31)) (Nat.le_refl _) (zCl.arr none 0 0 none 0 0 none 0 0)
  have O_c_7 := Lib.hid (O_c_6.out.below bz)
  have O_p_7 := Lib.hid (O_p_6.out.below bz)
  have O_d_7 := Lib.hid (O_d_6.out.below bz)
  have O_m_7 := Lib.hid (O_m_6.out.below bz)
  have O_e_7 := Lib.hid (N.out.row (zCl.arr none 0 0 none 0 0 none 0 0))
  have B_7 := Lib.hid (then_ B_6.out bz)
  clear bz B_6 O_c_6 O_p_6 O_d_6 O_m_6
  go_upto_region 8 with (first | (refine wpList_store_row rfl 31 _ _ rfl _ _ rfl rfl 31 _ N.out.ex (by kernel_rfl) rfl (by simp [Value.oneCell']) ?_))
  clear N
  generalize (w6.alloc (.cells #[.bool false, .int .i64 0, .int .i64 0, .int .i64 0, .bool false, .string ⟨#[]⟩, .string ⟨#[]⟩, .int .i64 0, .int .i64 0, .int .i64 0, .int .i64 0, .slice none 0 0, .slice none 0 0, .slice none 0 0, .int .i64 0, .int .i64 0, .int .i64 0] 31)).setRow w6.heap.size (zCl.arr none 0 0 none 0 0 none 0 0) = w7 at *
  go_wp2_with (first | (refine wpList_load_row rfl 31 _ rfl _ rfl 31 _ (0, 0) _ O_c_7.out.ex Try.underlying31 rfl (by kernel_rfl) ?_) | (refine wpList_load_row rfl 41 _ rfl _ rfl 41 _ (0, 0) _ O_p_7.out.ex Try.underlying41 rfl (by kernel_rfl) ?_) | (refine wpList_load_row rfl 31 _ rfl _ rfl 31 _ (0, 0) _ O_d_7.out.ex Try.underlying31 rfl (by kernel_rfl) ?_) | (refine wpList_load_row rfl 41 _ rfl _ rfl 41 _ (0, 0) _ O_m_7.out.ex Try.underlying41 rfl (by kernel_rfl) ?_) | (refine wpList_load_row rfl 31 _ rfl _ rfl 31 _ (0, 0) _ O_e_7.out.ex Try.underlying31 rfl (by kernel_rfl) ?_))
  refine (C4.out _ B_7.out).mono ?_; rintro e w8 ⟨rfl, hb⟩
  have O_c_8 := Lib.hid (O_c_7.out.below hb)
  have O_p_8 := Lib.hid (O_p_7.out.below hb)
  have O_d_8 := Lib.hid (O_d_7.out.below hb)
  have O_m_8 := Lib.hid (O_m_7.out.below hb)
  have O_e_8 := Lib.hid (O_e_7.out.below hb)
  have B_8 := Lib.hid (then_ B_7.out hb)
  clear B_7 O_c_7 O_p_7 O_d_7 O_m_7 O_e_7
  clear hb
  have N := Lib.hid (own_new w8 #[.bool false, .int .i64 0, .int .i64 0, .int .i64 0, .bool false, .string ⟨#[]⟩, .string ⟨#[]⟩, .int .i64 0, .int .i64 0, .int .i64 0, .int .i64 0, .slice none 0 0, .slice none 0 0, .slice none 0 0, .int .i64 0, .int .i64 0, .int .i64 0] 31)
  have bz := below_setRow (new1 w8 (.cells #[.bool false, .int .i64 0, .int .i64 0, .int .i64 0, .bool false, .string ⟨#[]⟩, .string ⟨#[]⟩, .int .i64 0, .int .i64 0, .int .i64 0, .int .i64 0, .slice none 0 0, .slice none 0 0, .slice none 0 0, .int .i64 0, .int .i64 0, .int .i64 0] 31)) (Nat.le_refl _) ((sendC zCl now).arr none 0 0 none 0 0 none 0 0)
  have O_c_9 := Lib.hid (O_c_8.out.below bz)
  have O_p_9 := Lib.hid (O_p_8.out.below bz)
  have O_d_9 := Lib.hid (O_d_8.out.below bz)
  have O_m_9 := Lib.hid (O_m_8.out.below bz)
  have O_e_9 := Lib.hid (O_e_8.out.below bz)
  have O_f_9 := Lib.hid (N.out.row ((sendC zCl now).arr none 0 0 none 0 0 none 0 0))
  have B_9 := Lib.hid (then_ B_8.out bz)
  clear bz B_8 O_c_8 O_p_8 O_d_8 O_m_8 O_e_8
  go_upto_region 9 with (first | (refine wpList_store_row rfl 31 _ _ rfl _ _ rfl rfl 31 _ N.out.ex (by kernel_rfl) rfl (by simp [Value.oneCell']) ?_))
  clear N
  generalize (w8.alloc (.cells #[.bool false, .int .i64 0, .int .i64 0, .int .i64 0, .bool false, .string ⟨#[]⟩, .string ⟨#[]⟩, .int .i64 0, .int .i64 0, .int .i64 0, .int .i64 0, .slice none 0 0, .slice none 0 0, .slice none 0 0, .int .i64 0, .int .i64 0, .int .i64 0] 31)).setRow w8.heap.size ((sendC zCl now).arr none 0 0 none 0 0 none 0 0) = w9 at *
  go_wp2_with (first | (refine wpList_load_row rfl 31 _ rfl _ rfl 31 _ (0, 0) _ O_c_9.out.ex Try.underlying31 rfl (by kernel_rfl) ?_) | (refine wpList_load_row rfl 41 _ rfl _ rfl 41 _ (0, 0) _ O_p_9.out.ex Try.underlying41 rfl (by kernel_rfl) ?_) | (refine wpList_load_row rfl 31 _ rfl _ rfl 31 _ (0, 0) _ O_d_9.out.ex Try.underlying31 rfl (by kernel_rfl) ?_) | (refine wpList_load_row rfl 41 _ rfl _ rfl 41 _ (0, 0) _ O_m_9.out.ex Try.underlying41 rfl (by kernel_rfl) ?_) | (refine wpList_load_row rfl 31 _ rfl _ rfl 31 _ (0, 0) _ O_e_9.out.ex Try.underlying31 rfl (by kernel_rfl) ?_) | (refine wpList_load_row rfl 31 _ rfl _ rfl 31 _ (0, 0) _ O_f_9.out.ex Try.underlying31 rfl (by kernel_rfl) ?_))
  refine (C3.out _).mono ?_; rintro e w10 ⟨rfl, hb⟩
  have O_c_10 := Lib.hid (O_c_9.out.below hb)
  have O_p_10 := Lib.hid (O_p_9.out.below hb)
  have O_d_10 := Lib.hid (O_d_9.out.below hb)
  have O_m_10 := Lib.hid (O_m_9.out.below hb)
  have O_e_10 := Lib.hid (O_e_9.out.below hb)
  have O_f_10 := Lib.hid (O_f_9.out.below hb)
  have B_10 := Lib.hid (then_ B_9.out hb)
  clear B_9 O_c_9 O_p_9 O_d_9 O_m_9 O_e_9 O_f_9
  clear hb
  have N := Lib.hid (own_new w10 #[.bool false, .int .i64 0, .int .i64 0, .int .i64 0, .bool false, .string ⟨#[]⟩, .string ⟨#[]⟩, .int .i64 0, .int .i64 0, .int .i64 0, .int .i64 0, .slice none 0 0, .slice none 0 0, .slice none 0 0, .int .i64 0, .int .i64 0, .int .i64 0] 31)
  have bz := below_setRow (new1 w10 (.cells #[.bool false, .int .i64 0, .int .i64 0, .int .i64 0, .bool false, .string ⟨#[]⟩, .string ⟨#[]⟩, .int .i64 0, .int .i64 0, .int .i64 0, .int .i64 0, .slice none 0 0, .slice none 0 0, .slice none 0 0, .int .i64 0, .int .i64 0, .int .i64 0] 31)) (Nat.le_refl _) (zCl.arr none 0 0 none 0 0 none 0 0)
  have O_c_11 := Lib.hid (O_c_10.out.below bz)
  have O_p_11 := Lib.hid (O_p_10.out.below bz)
  have O_d_11 := Lib.hid (O_d_10.out.below bz)
  have O_m_11 := Lib.hid (O_m_10.out.below bz)
  have O_e_11 := Lib.hid (O_e_10.out.below bz)
  have O_f_11 := Lib.hid (O_f_10.out.below bz)
  have O_z_11 := Lib.hid (N.out.row (zCl.arr none 0 0 none 0 0 none 0 0))
  have B_11 := Lib.hid (then_ B_10.out bz)
  clear bz B_10 O_c_10 O_p_10 O_d_10 O_m_10 O_e_10 O_f_10
  go_upto_region 10 with (first | (refine wpList_store_row rfl 31 _ _ rfl _ _ rfl rfl 31 _ N.out.ex (by kernel_rfl) rfl (by simp [Value.oneCell']) ?_))
  clear N
  generalize (w10.alloc (.cells #[.bool false, .int .i64 0, .int .i64 0, .int .i64 0, .bool false, .string ⟨#[]⟩, .string ⟨#[]⟩, .int .i64 0, .int .i64 0, .int .i64 0, .int .i64 0, .slice none 0 0, .slice none 0 0, .slice none 0 0, .int .i64 0, .int .i64 0, .int .i64 0] 31)).setRow w10.heap.size (zCl.arr none 0 0 none 0 0 none 0 0) = w11 at *
  try generalize ((Cl.mk true y sent next tries).agg A0 n0 c0 A1 n1 c1 A2 n2 c2) = X0
  try generalize (Value.agg ((Cl.mk true y sent next tries).arr A0 n0 c0 A1 n1 c1 A2 n2 c2)) = X1
  try generalize (zCl.agg none 0 0 none 0 0 none 0 0) = X2
  try generalize (Value.agg (zCl.arr none 0 0 none 0 0 none 0 0)) = X3
  try generalize ((sendC zCl now).agg none 0 0 none 0 0 none 0 0) = X4
  try generalize (Value.agg ((sendC zCl now).arr none 0 0 none 0 0 none 0 0)) = X5
  try generalize (Value.agg #[.int .i64 code, .int .i64 y.who, .int .i64 y.seq, .int .i64 rev, .int .i64 lease, .int .i64 ttl, .bool yes, .slice D0 m0 d0, .slice D1 m1 d1]) = X6
  try generalize (Value.agg #[.int .i64 code, .int .i64 y.who, .int .i64 y.seq, .int .i64 rev, .int .i64 lease, .int .i64 ttl, .bool yes, .slice D0 m0 d0, .slice D1 m1 d1]) = X7
  try generalize (Rq.agg y A0 n0 c0 A1 n1 c1 A2 n2 c2) = X8
  try generalize (Value.agg #[.int .i64 y.kind, .int .i64 y.who, .int .i64 y.seq, .bool y.once, .string y.key, .string y.val, .int .i64 y.lease, .int .i64 y.rev, .int .i64 y.ttl, .int .i64 y.token, .slice A0 n0 c0, .slice A1 n1 c1, .slice A2 n2 c2]) = X9
  have x_c_0 := O_c_11.out.cell 0 _ rfl
  have x_c_2 := O_c_11.out.cell 2 _ rfl
  have x_c_3 := O_c_11.out.cell 3 _ rfl
  have x_e_0 := O_e_11.out.cell 0 _ rfl
  have x_p_1 := O_p_11.out.cell 1 _ rfl
  have x_p_2 := O_p_11.out.cell 2 _ rfl
  have HSB : sendsB zCl now = false := HB4.out
  have HSS : sendS zCl now = ⟨#[]⟩ := by unfold sendS; rw [if_neg (by rw [HB4.out]; decide)]
  simp only [HSB, HSS]
  go_wp2_with fail
  clear x_c_0 x_c_2 x_c_3 x_e_0 x_p_1 x_p_2
  refine (clive_any _).mono ?_; rintro e w12 ⟨rfl, hb⟩
  have B_12 := Lib.hid (then_ B_11.out hb)
  clear B_11 
  clear hb
  go_wp2
  go_ret
  exact ⟨rfl, B_12.out⟩
theorem walk (w : World) (k : Cl) (A0 : Option Addr) (n0 c0 : Nat) (A1 : Option Addr) (n1 c1 : Nat) (A2 : Option Addr) (n2 c2 : Nat) (now : Int) (p : Rp) (D0 : Option Addr) (m0 d0 : Nat) (D1 : Option Addr) (m1 d1 : Nat) (h : ClAt w k A0 n0 c0 A1 n1 c1 A2 n2 c2) (w1 : (Lit.int .i64 now).wf = true) (hp : RpAt w p D0 m0 d0 D1 m1 d1) :
    Calls Try.prog 6 #[k.agg A0 n0 c0 A1 n1 c1 A2 n2 c2, .int .i64 now, p.agg D0 m0 d0 D1 m1 d1] w fun e w' => e = .returned (.bool true) ∧ Below w.heap.size w w' := by
  cases hs : shortQ k.y with
  | false => exact long w k A0 n0 c0 A1 n1 c1 A2 n2 c2 now p D0 m0 d0 D1 m1 d1 h hs
  | true =>
    by_cases ht : 1099511627775 < k.tries
    · exact wide w k A0 n0 c0 A1 n1 c1 A2 n2 c2 now p D0 m0 d0 D1 m1 d1 h hs ht
    · cases ho : k.on with
      | false => exact m_off w k A0 n0 c0 A1 n1 c1 A2 n2 c2 now p D0 m0 d0 D1 m1 d1 h hs ht ho
      | true =>
        by_cases h1 : p.who = k.y.who
        · by_cases h2 : p.seq = k.y.seq
          · exact m_mine w k A0 n0 c0 A1 n1 c1 A2 n2 c2 now p D0 m0 d0 D1 m1 d1 h hs ht ho h1 h2
          · exact m_seq w k A0 n0 c0 A1 n1 c1 A2 n2 c2 now p D0 m0 d0 D1 m1 d1 h hs ht ho h1 h2
        · exact m_who w k A0 n0 c0 A1 n1 c1 A2 n2 c2 now p D0 m0 d0 D1 m1 d1 h hs ht ho h1

theorem own : ownKnob Try.prog.godebug = none := by kernel_rfl
theorem laidOut : laidOutB Try.prog = true := by kernel_rfl

set_option maxRecDepth 100000 in
theorem lifted (os : Os) (started : os.Started) (H : Type) (enc : TypeId × Value → H) :
    ReturnsInHanded {} Try.checked os 6 .any (Rows.callToldSpec.pre6 enc Try.prog Try.f6 Rows.callToldRow.domain false) (Rows.callToldSpec.post enc Try.prog Try.f6 false true false false) := by
  refine returnsInHanded_of_change (C := Try.checked) own started (by kernel_rfl) Try.func6
    (ChangeSpec.witness6 (enc := enc) (C := Try.checked) false ⟨#[], #[.agg #[.bool false, .int .i64 0, .int .i64 0, .int .i64 0, .bool false, .string ByteArray.empty, .string ByteArray.empty, .int .i64 0, .int .i64 0, .int .i64 0, .int .i64 0, .slice none 0 0, .slice none 0 0, .slice none 0 0, .int .i64 0, .int .i64 0, .int .i64 0], (.int .i64 0), .agg #[.int .i64 0, .int .i64 0, .int .i64 0, .int .i64 0, .int .i64 0, .int .i64 0, .bool false, .slice none 0 0, .slice none 0 0]], []⟩ 8 (by kernel_rfl) (by kernel_rfl) (by kernel_rfl) (by kernel_rfl)) ?_
  intro W base args ds gs before hval0 hW hcnd _
  have hval : ∀ (j : Nat) t v, Try.f6.params[j]? = some t → args[j]? = some v → Value.okWide Try.prog W .any base t v := hval0
  have hW' := hW
  obtain ⟨p, q, hA0, hV, rfl, hfz, hnd⟩ := hW
  have hA : DataW.TrodAll enc Try.prog W 0 (fun _ => true) true Try.f6.params.toList args.toList ds p := hA0
  rw [Try.params6] at hA hval
  obtain ⟨v0, vs0, d0, ds0, p0, q0, hargs, rfl, rfl, h0, r0⟩ := trodAll_cons hA
  obtain ⟨v1, vs1, d1, ds1, p1, q1, rfl, rfl, rfl, h1, r1⟩ := trodAll_cons r0
  obtain ⟨v2, vs2, d2, ds2, p2, q2, rfl, rfl, rfl, h2, r2⟩ := trodAll_cons r1
  obtain ⟨rfl, rfl, rfl⟩ := trodAll_nil r2
  obtain rfl : args = #[v0, v1, v2] := by cases args; simp_all
  obtain ⟨rfl, rfl⟩ := trodVars_none hV
  obtain ⟨z0, A0, n0, c0, B0, m0, d0, C0, o0, e0, rfl, k0⟩ := open_cl (hval 0 31 v0 rfl rfl) h0
  obtain ⟨a1, rfl, rfl, rfl, w1⟩ := open_int Try.underlying3 (hval 1 3 v1 rfl rfl) h1
  obtain ⟨y2, A2, n2, c2, B2, m2, d2, rfl, k2⟩ := open_rp (hval 2 41 v2 rfl rfl) h2
  clear hA0 hval0
  refine (walk W z0 A0 n0 c0 B0 m0 d0 C0 o0 e0 a1 y2 A2 n2 c2 B2 m2 d2 k0 w1 k2).mono fun e W' ⟨he, bel⟩ => ?_
  subst he
  exact ⟨_, rfl, _, _, _, [], _, [], hW', trodAll_mk1 (shut_bool Try.underlying4 _), (trodAll_cons_mk (Below.trod laidOut (by kernel_rfl) (of_decide_eq_true (by kernel_rfl)) h0 bel (fun x hx => hW'.lt x (by simp [hx]))) (trodAll_cons_mk (shut_int Try.underlying3 w1) (trodAll_cons_mk (Below.trod laidOut (by kernel_rfl) (of_decide_eq_true (by kernel_rfl)) h2 bel (fun x hx => hW'.lt x (by simp [hx]))) trodAll_mk0))), rfl, bel.frame _, fun h => by cases h⟩

theorem over : Rows.callToldRow.holds Try.pinned (OpenSpec.ofChange Rows.callToldSpec) :=
  OpenClaim.holds_of_wide 6 Try.f6 rfl rfl rfl rfl rfl rfl rfl ⟨rfl, rfl, rfl, rfl, rfl⟩ rfl rfl rfl rfl rfl (by kernel_rfl) Try.func6 (by kernel_rfl)
    (of_decide_eq_true (by kernel_rfl)) (by unfold Func.isWrapper; first | (rw [if_pos (by decide +kernel)]; kernel_rfl) | (rw [if_neg (by decide +kernel)]; exact ⟨rfl, rfl⟩))
    (fun os started H enc _ => lifted os started H enc)

theorem proved : Rows.CallToldSaid := over
#print axioms proved
end Go.Proofs.Ytmklafbmelkpmaa.callTold
