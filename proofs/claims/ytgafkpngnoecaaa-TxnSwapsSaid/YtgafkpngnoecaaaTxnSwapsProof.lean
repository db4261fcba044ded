/- For every store that may be, every key and any two values the law TxnSwaps answers true: of two that change a thing each by its Mod just the first one does. No condition. -/
import Derived.Deep.RegionHeld3
import Derived.Deep.Cut
import Derived.Deep.DeepCutAuto
import Derived.Test.YtgafkpngnoecaaaTxSwap
import Derived.Test.YtgafkpngnoecaaaKeyTwo
import Derived.Test.YtgafkpngnoecaaaMvOpen
import Derived.Test.YtgafkpngnoecaaaRows
namespace Go.Proofs.Ytgafkpngnoecaaa.txnSwaps
open Go.ChangeShapes Go.WideShapes Go.ChangeAt Go.RowKit Go.Proofs.Ytgafkpngnoecaaa.P
open Go.ChangeMaps (open_string shut_string)
set_option linter.unusedVariables false
set_option linter.unusedSimpArgs false
set_option maxHeartbeats 20000000
set_option maxRecDepth 100000

theorem find_is (A : Option Addr) (n c : Nat) (l : List KV) (k : ByteArray) (w : World) (h : KVs w A n c l) (hn : n ≤ 1000000) :
    Calls Try.prog 37 #[.slice A n c, .string k] w fun e w' => e = .returned (.tuple #[(thingL l k).agg, .bool (findL l k).isSome]) ∧ Below w.heap.size w w' := by
  have t := find_ref A n c l k w h hn
  cases hf : findL l k with
  | none =>
    rw [hf] at t
    have hx : thingL l k = ⟨⟨#[]⟩, ⟨#[]⟩, 0, 0, 0, 0⟩ := by unfold thingL; rw [hf]; rfl
    rw [hx]
    exact t.mono fun e w' h => ⟨h.none_.1, h.none_.2⟩
  | some y =>
    rw [hf] at t
    have hx : thingL l k = y := by unfold thingL; rw [hf]; rfl
    rw [hx]
    exact t.mono fun e w' h => ⟨h.some_.1, h.some_.2⟩
theorem own_new3 (w : World) (o o2 : Obj) (cs : Array Value) (t : TypeId) : Own (((w.alloc o).alloc o2).alloc (.cells cs t)) (w.heap.size + 1 + 1) t cs := by
  have h := own_new2 (w.alloc o) o2 cs t
  rwa [show (w.alloc o).heap.size = w.heap.size + 1 by simp] at h
abbrev zKV : Array Value := #[.string ⟨#[]⟩, .string ⟨#[]⟩, .int .i64 0, .int .i64 0, .int .i64 0, .int .i64 0]
/-- What stands behind 'x, is := Find(Now(s), k)': the box that holds the thing. -/
def Thing (x : KV) (is : Bool) (w : World) (v1 v2 : Value) (wx : World) : Prop :=
  ∃ b, v1 = .pointer (some ⟨b, 0, none⟩) ∧ v2 = .bool is ∧ Own wx b 63 #[.string x.key, .string x.val, .int .i64 x.cre, .int .i64 x.mod, .int .i64 x.ver, .int .i64 x.lea] ∧ Below w.heap.size w wx
theorem thing_last {x : KV} {is : Bool} {w w5 : World} (hb : Below w.heap.size w w5) : Thing x is w (.pointer (some ⟨w5.heap.size, 0, none⟩)) (.bool is) (w5.alloc (.cells #[.string x.key, .string x.val, .int .i64 x.cre, .int .i64 x.mod, .int .i64 x.ver, .int .i64 x.lea] 63)) :=
  ⟨_, rfl, rfl, own_new _ _ _, then_ hb (new1 _ _)⟩
theorem thing_old {x : KV} {is : Bool} {w w5 : World} {b : Nat} (o : Own w5 b 63 zKV) (hb : Below w.heap.size w w5) (hle : w.heap.size ≤ b) :
    Thing x is w (.pointer (some ⟨b, 0, none⟩)) (.bool is) ((((((w5.setCell ⟨b, 0, none⟩ (.string x.key)).setCell ⟨b, 1, none⟩ (.string x.val)).setCell ⟨b, 2, none⟩ (.int .i64 x.cre)).setCell ⟨b, 3, none⟩ (.int .i64 x.mod)).setCell ⟨b, 4, none⟩ (.int .i64 x.ver)).setCell ⟨b, 5, none⟩ (.int .i64 x.lea)) :=
  ⟨_, rfl, rfl, (((((o.set 0 (.string x.key)).set 1 (.string x.val)).set 2 (.int .i64 x.cre)).set 3 (.int .i64 x.mod)).set 4 (.int .i64 x.ver)).set 5 (.int .i64 x.lea),
    (((((hb.setCell (p := ⟨b, 0, none⟩) hle _).setCell (p := ⟨b, 1, none⟩) hle _).setCell (p := ⟨b, 2, none⟩) hle _).setCell (p := ⟨b, 3, none⟩) hle _).setCell (p := ⟨b, 4, none⟩) hle _).setCell (p := ⟨b, 5, none⟩) hle _⟩
theorem no_few (w : World) (s0 : St) (A0 : Option Addr) (n0 c0 : Nat) (B0 : Option Addr) (m0 d0 : Nat) (a1 a2 b2 : ByteArray) (k0 : StAt w s0 A0 n0 c0 B0 m0 d0) (w1 : a1.size ≤ maxLen) (w2 : a2.size ≤ maxLen) (u2 : b2.size ≤ maxLen) (hf : fewS s0 = false) :
    Calls Try.prog 7 #[s0.agg A0 n0 c0 B0 m0 d0, .string a1, .agg #[.string a2, .string b2]] w fun e w' => e = .returned (.bool true) ∧ Below w.heap.size w w' := by
  unfold maxLen at w1 w2 u2
  have HF := Lib.hid hf; clear hf
  have bb := then_ (then_ (new1 w (.cells (stCells s0 A0 n0 c0 B0 m0 d0) 25)) (new1 _ (.cells #[.string a1] 9))) (new1 _ (.cells #[.string a2, .string b2] 61))
  have K_0 := Lib.hid (k0.keep bb)
  have X_0 := Lib.hid (((own_new w (stCells s0 A0 n0 c0 B0 m0 d0) 25).alloc (.cells #[.string a1] 9)).alloc (.cells #[.string a2, .string b2] 61))
  have C_0 := Lib.hid ((own_new2 w (.cells (stCells s0 A0 n0 c0 B0 m0 d0) 25) #[.string a1] 9).alloc (.cells #[.string a2, .string b2] 61))
  have V_0 := Lib.hid (own_new3 w (.cells (stCells s0 A0 n0 c0 B0 m0 d0) 25) (.cells #[.string a1] 9) #[.string a2, .string b2] 61)
  have B_0 := Lib.hid bb
  clear bb k0
  go_enter Try.func7, Try.ntmps7
  have x0 := X_0.out.cell 0 _ rfl
  have x1 := X_0.out.cell 1 _ rfl
  have x2 := X_0.out.cell 2 _ rfl
  have x3 := X_0.out.cell 3 _ rfl
  go_wp2_with fail
  refine (few_st s0 A0 n0 c0 B0 m0 d0 _ K_0.out).mono ?_; rintro e w1 ⟨rfl, hb⟩
  rw [HF.out]
  have S_1 := Lib.hid hb; clear hb
  have K_2 := Lib.hid (K_0.out.keep S_1.out)
  have X_3 := Lib.hid (X_0.out.below S_1.out)
  have C_4 := Lib.hid (C_0.out.below S_1.out)
  have V_5 := Lib.hid (V_0.out.below S_1.out)
  have B_6 := Lib.hid (then_ B_0.out S_1.out)
  clear K_0 X_0 C_0 V_0 B_0
  clear S_1
  clear x0 x1 x2 x3
  go_wp2_with fail
  refine (live_any _).mono ?_; rintro e w2 ⟨rfl, hb⟩
  have S_7 := Lib.hid hb; clear hb
  have K_8 := Lib.hid (K_2.out.keep S_7.out)
  have X_9 := Lib.hid (X_3.out.below S_7.out)
  have C_10 := Lib.hid (C_4.out.below S_7.out)
  have V_11 := Lib.hid (V_5.out.below S_7.out)
  have B_12 := Lib.hid (then_ B_6.out S_7.out)
  clear K_2 X_3 C_4 V_5 B_6
  clear S_7
  go_wp2
  go_ret
  exact ⟨rfl, B_12.out⟩
theorem no_may (w : World) (s0 : St) (A0 : Option Addr) (n0 c0 : Nat) (B0 : Option Addr) (m0 d0 : Nat) (a1 a2 b2 : ByteArray) (k0 : StAt w s0 A0 n0 c0 B0 m0 d0) (w1 : a1.size ≤ maxLen) (w2 : a2.size ≤ maxLen) (u2 : b2.size ≤ maxLen) (hf : fewS s0 = true) (hm : mayB s0 = false) :
    Calls Try.prog 7 #[s0.agg A0 n0 c0 B0 m0 d0, .string a1, .agg #[.string a2, .string b2]] w fun e w' => e = .returned (.bool true) ∧ Below w.heap.size w w' := by
  unfold maxLen at w1 w2 u2
  have HF := Lib.hid hf; clear hf
  have HM := Lib.hid hm; clear hm
  have bb := then_ (then_ (new1 w (.cells (stCells s0 A0 n0 c0 B0 m0 d0) 25)) (new1 _ (.cells #[.string a1] 9))) (new1 _ (.cells #[.string a2, .string b2] 61))
  have K_0 := Lib.hid (k0.keep bb)
  have X_0 := Lib.hid (((own_new w (stCells s0 A0 n0 c0 B0 m0 d0) 25).alloc (.cells #[.string a1] 9)).alloc (.cells #[.string a2, .string b2] 61))
  have C_0 := Lib.hid ((own_new2 w (.cells (stCells s0 A0 n0 c0 B0 m0 d0) 25) #[.string a1] 9).alloc (.cells #[.string a2, .string b2] 61))
  have V_0 := Lib.hid (own_new3 w (.cells (stCells s0 A0 n0 c0 B0 m0 d0) 25) (.cells #[.string a1] 9) #[.string a2, .string b2] 61)
  have B_0 := Lib.hid bb
  clear bb k0
  go_enter Try.func7, Try.ntmps7
  have x0 := X_0.out.cell 0 _ rfl
  have x1 := X_0.out.cell 1 _ rfl
  have x2 := X_0.out.cell 2 _ rfl
  have x3 := X_0.out.cell 3 _ rfl
  go_wp2_with fail
  refine (few_st s0 A0 n0 c0 B0 m0 d0 _ K_0.out).mono ?_; rintro e w1 ⟨rfl, hb⟩
  rw [HF.out]
  have S_1 := Lib.hid hb; clear hb
  have K_2 := Lib.hid (K_0.out.keep S_1.out)
  have X_3 := Lib.hid (X_0.out.below S_1.out)
  have C_4 := Lib.hid (C_0.out.below S_1.out)
  have V_5 := Lib.hid (V_0.out.below S_1.out)
  have B_6 := Lib.hid (then_ B_0.out S_1.out)
  clear K_0 X_0 C_0 V_0 B_0
  clear S_1
  clear x0 x1 x2 x3
  have x0 := X_3.out.cell 0 _ rfl
  have x1 := X_3.out.cell 1 _ rfl
  have x2 := X_3.out.cell 2 _ rfl
  have x3 := X_3.out.cell 3 _ rfl
  go_wp2_with fail
  refine (mvmay_any s0 A0 n0 c0 B0 m0 d0 _ K_2.out).mono ?_; rintro e w2 ⟨rfl, hb⟩
  rw [HM.out]
  have S_7 := Lib.hid hb; clear hb
  have K_8 := Lib.hid (K_2.out.keep S_7.out)
  have X_9 := Lib.hid (X_3.out.below S_7.out)
  have C_10 := Lib.hid (C_4.out.below S_7.out)
  have V_11 := Lib.hid (V_5.out.below S_7.out)
  have B_12 := Lib.hid (then_ B_6.out S_7.out)
  clear K_2 X_3 C_4 V_5 B_6
  clear S_7
  clear x0 x1 x2 x3
  go_wp2_with fail
  refine (live_any _).mono ?_; rintro e w3 ⟨rfl, hb⟩
  have S_13 := Lib.hid hb; clear hb
  have K_14 := Lib.hid (K_8.out.keep S_13.out)
  have X_15 := Lib.hid (X_9.out.below S_13.out)
  have C_16 := Lib.hid (C_10.out.below S_13.out)
  have V_17 := Lib.hid (V_11.out.below S_13.out)
  have B_18 := Lib.hid (then_ B_12.out S_13.out)
  clear K_8 X_9 C_10 V_11 B_12
  clear S_13
  go_wp2
  go_ret
  exact ⟨rfl, B_18.out⟩
theorem no_l1 (w : World) (s0 : St) (A0 : Option Addr) (n0 c0 : Nat) (B0 : Option Addr) (m0 d0 : Nat) (a1 a2 b2 : ByteArray) (k0 : StAt w s0 A0 n0 c0 B0 m0 d0) (w1 : a1.size ≤ maxLen) (w2 : a2.size ≤ maxLen) (u2 : b2.size ≤ maxLen) (hf : fewS s0 = true) (hm : mayB s0 = true) (h1 : 60 < a1.size) :
    Calls Try.prog 7 #[s0.agg A0 n0 c0 B0 m0 d0, .string a1, .agg #[.string a2, .string b2]] w fun e w' => e = .returned (.bool true) ∧ Below w.heap.size w w' := by
  unfold maxLen at w1 w2 u2
  have HF := Lib.hid hf; clear hf
  have HM := Lib.hid hm; clear hm
  have bb := then_ (then_ (new1 w (.cells (stCells s0 A0 n0 c0 B0 m0 d0) 25)) (new1 _ (.cells #[.string a1] 9))) (new1 _ (.cells #[.string a2, .string b2] 61))
  have K_0 := Lib.hid (k0.keep bb)
  have X_0 := Lib.hid (((own_new w (stCells s0 A0 n0 c0 B0 m0 d0) 25).alloc (.cells #[.string a1] 9)).alloc (.cells #[.string a2, .string b2] 61))
  have C_0 := Lib.hid ((own_new2 w (.cells (stCells s0 A0 n0 c0 B0 m0 d0) 25) #[.string a1] 9).alloc (.cells #[.string a2, .string b2] 61))
  have V_0 := Lib.hid (own_new3 w (.cells (stCells s0 A0 n0 c0 B0 m0 d0) 25) (.cells #[.string a1] 9) #[.string a2, .string b2] 61)
  have B_0 := Lib.hid bb
  clear bb k0
  go_enter Try.func7, Try.ntmps7
  have x0 := X_0.out.cell 0 _ rfl
  have x1 := X_0.out.cell 1 _ rfl
  have x2 := X_0.out.cell 2 _ rfl
  have x3 := X_0.out.cell 3 _ rfl
  go_wp2_with fail
  refine (few_st s0 A0 n0 c0 B0 m0 d0 _ K_0.out).mono ?_; rintro e w1 ⟨rfl, hb⟩
  rw [HF.out]
  have S_1 := Lib.hid hb; clear hb
  have K_2 := Lib.hid (K_0.out.keep S_1.out)
  have X_3 := Lib.hid (X_0.out.below S_1.out)
  have C_4 := Lib.hid (C_0.out.below S_1.out)
  have V_5 := Lib.hid (V_0.out.below S_1.out)
  have B_6 := Lib.hid (then_ B_0.out S_1.out)
  clear K_0 X_0 C_0 V_0 B_0
  clear S_1
  clear x0 x1 x2 x3
  have x0 := X_3.out.cell 0 _ rfl
  have x1 := X_3.out.cell 1 _ rfl
  have x2 := X_3.out.cell 2 _ rfl
  have x3 := X_3.out.cell 3 _ rfl
  go_wp2_with fail
  refine (mvmay_any s0 A0 n0 c0 B0 m0 d0 _ K_2.out).mono ?_; rintro e w2 ⟨rfl, hb⟩
  rw [HM.out]
  have S_7 := Lib.hid hb; clear hb
  have K_8 := Lib.hid (K_2.out.keep S_7.out)
  have X_9 := Lib.hid (X_3.out.below S_7.out)
  have C_10 := Lib.hid (C_4.out.below S_7.out)
  have V_11 := Lib.hid (V_5.out.below S_7.out)
  have B_12 := Lib.hid (then_ B_6.out S_7.out)
  clear K_2 X_3 C_4 V_5 B_6
  clear S_7
  clear x0 x1 x2 x3
  have v0 := V_11.out.cell 0 _ rfl
  have v1 := V_11.out.cell 1 _ rfl
  have kb0 := C_10.out.cell 0 _ rfl
  go_wp2_with fail
  refine (live_any _).mono ?_; rintro e w3 ⟨rfl, hb⟩
  have S_13 := Lib.hid hb; clear hb
  have K_14 := Lib.hid (K_8.out.keep S_13.out)
  have X_15 := Lib.hid (X_9.out.below S_13.out)
  have C_16 := Lib.hid (C_10.out.below S_13.out)
  have V_17 := Lib.hid (V_11.out.below S_13.out)
  have B_18 := Lib.hid (then_ B_12.out S_13.out)
  clear K_8 X_9 C_10 V_11 B_12
  clear S_13
  go_wp2
  go_ret
  exact ⟨rfl, B_18.out⟩
theorem no_l2 (w : World) (s0 : St) (A0 : Option Addr) (n0 c0 : Nat) (B0 : Option Addr) (m0 d0 : Nat) (a1 a2 b2 : ByteArray) (k0 : StAt w s0 A0 n0 c0 B0 m0 d0) (w1 : a1.size ≤ maxLen) (w2 : a2.size ≤ maxLen) (u2 : b2.size ≤ maxLen) (hf : fewS s0 = true) (hm : mayB s0 = true) (h1 : a1.size ≤ 60) (h2 : 60 < a2.size) :
    Calls Try.prog 7 #[s0.agg A0 n0 c0 B0 m0 d0, .string a1, .agg #[.string a2, .string b2]] w fun e w' => e = .returned (.bool true) ∧ Below w.heap.size w w' := by
  unfold maxLen at w1 w2 u2
  have HF := Lib.hid hf; clear hf
  have HM := Lib.hid hm; clear hm
  have bb := then_ (then_ (new1 w (.cells (stCells s0 A0 n0 c0 B0 m0 d0) 25)) (new1 _ (.cells #[.string a1] 9))) (new1 _ (.cells #[.string a2, .string b2] 61))
  have K_0 := Lib.hid (k0.keep bb)
  have X_0 := Lib.hid (((own_new w (stCells s0 A0 n0 c0 B0 m0 d0) 25).alloc (.cells #[.string a1] 9)).alloc (.cells #[.string a2, .string b2] 61))
  have C_0 := Lib.hid ((own_new2 w (.cells (stCells s0 A0 n0 c0 B0 m0 d0) 25) #[.string a1] 9).alloc (.cells #[.string a2, .string b2] 61))
  have V_0 := Lib.hid (own_new3 w (.cells (stCells s0 A0 n0 c0 B0 m0 d0) 25) (.cells #[.string a1] 9) #[.string a2, .string b2] 61)
  have B_0 := Lib.hid bb
  clear bb k0
  go_enter Try.func7, Try.ntmps7
  have x0 := X_0.out.cell 0 _ rfl
  have x1 := X_0.out.cell 1 _ rfl
  have x2 := X_0.out.cell 2 _ rfl
  have x3 := X_0.out.cell 3 _ rfl
  go_wp2_with fail
  refine (few_st s0 A0 n0 c0 B0 m0 d0 _ K_0.out).mono ?_; rintro e w1 ⟨rfl, hb⟩
  rw [HF.out]
  have S_1 := Lib.hid hb; clear hb
  have K_2 := Lib.hid (K_0.out.keep S_1.out)
  have X_3 := Lib.hid (X_0.out.below S_1.out)
  have C_4 := Lib.hid (C_0.out.below S_1.out)
  have V_5 := Lib.hid (V_0.out.below S_1.out)
  have B_6 := Lib.hid (then_ B_0.out S_1.out)
  clear K_0 X_0 C_0 V_0 B_0
  clear S_1
  clear x0 x1 x2 x3
  have x0 := X_3.out.cell 0 _ rfl
  have x1 := X_3.out.cell 1 _ rfl
  have x2 := X_3.out.cell 2 _ rfl
  have x3 := X_3.out.cell 3 _ rfl
  go_wp2_with fail
  refine (mvmay_any s0 A0 n0 c0 B0 m0 d0 _ K_2.out).mono ?_; rintro e w2 ⟨rfl, hb⟩
  rw [HM.out]
  have S_7 := Lib.hid hb; clear hb
  have K_8 := Lib.hid (K_2.out.keep S_7.out)
  have X_9 := Lib.hid (X_3.out.below S_7.out)
  have C_10 := Lib.hid (C_4.out.below S_7.out)
  have V_11 := Lib.hid (V_5.out.below S_7.out)
  have B_12 := Lib.hid (then_ B_6.out S_7.out)
  clear K_2 X_3 C_4 V_5 B_6
  clear S_7
  clear x0 x1 x2 x3
  have v0 := V_11.out.cell 0 _ rfl
  have v1 := V_11.out.cell 1 _ rfl
  have kb0 := C_10.out.cell 0 _ rfl
  go_wp2_with fail
  refine (live_any _).mono ?_; rintro e w3 ⟨rfl, hb⟩
  have S_13 := Lib.hid hb; clear hb
  have K_14 := Lib.hid (K_8.out.keep S_13.out)
  have X_15 := Lib.hid (X_9.out.below S_13.out)
  have C_16 := Lib.hid (C_10.out.below S_13.out)
  have V_17 := Lib.hid (V_11.out.below S_13.out)
  have B_18 := Lib.hid (then_ B_12.out S_13.out)
  clear K_8 X_9 C_10 V_11 B_12
  clear S_13
  go_wp2
  go_ret
  exact ⟨rfl, B_18.out⟩
theorem no_l3 (w : World) (s0 : St) (A0 : Option Addr) (n0 c0 : Nat) (B0 : Option Addr) (m0 d0 : Nat) (a1 a2 b2 : ByteArray) (k0 : StAt w s0 A0 n0 c0 B0 m0 d0) (w1 : a1.size ≤ maxLen) (w2 : a2.size ≤ maxLen) (u2 : b2.size ≤ maxLen) (hf : fewS s0 = true) (hm : mayB s0 = true) (h1 : a1.size ≤ 60) (h2 : a2.size ≤ 60) (h3 : 60 < b2.size) :
    Calls Try.prog 7 #[s0.agg A0 n0 c0 B0 m0 d0, .string a1, .agg #[.string a2, .string b2]] w fun e w' => e = .returned (.bool true) ∧ Below w.heap.size w w' := by
  unfold maxLen at w1 w2 u2
  have HF := Lib.hid hf; clear hf
  have HM := Lib.hid hm; clear hm
  have bb := then_ (then_ (new1 w (.cells (stCells s0 A0 n0 c0 B0 m0 d0) 25)) (new1 _ (.cells #[.string a1] 9))) (new1 _ (.cells #[.string a2, .string b2] 61))
  have K_0 := Lib.hid (k0.keep bb)
  have X_0 := Lib.hid (((own_new w (stCells s0 A0 n0 c0 B0 m0 d0) 25).alloc (.cells #[.string a1] 9)).alloc (.cells #[.string a2, .string b2] 61))
  have C_0 := Lib.hid ((own_new2 w (.cells (stCells s0 A0 n0 c0 B0 m0 d0) 25) #[.string a1] 9).alloc (.cells #[.string a2, .string b2] 61))
  have V_0 := Lib.hid (own_new3 w (.cells (stCells s0 A0 n0 c0 B0 m0 d0) 25) (.cells #[.string a1] 9) #[.string a2, .string b2] 61)
  have B_0 := Lib.hid bb
  clear bb k0
  go_enter Try.func7, Try.ntmps7
  have x0 := X_0.out.cell 0 _ rfl
  have x1 := X_0.out.cell 1 _ rfl
  have x2 := X_0.out.cell 2 _ rfl
  have x3 := X_0.out.cell 3 _ rfl
  go_wp2_with fail
  refine (few_st s0 A0 n0 c0 B0 m0 d0 _ K_0.out).mono ?_; rintro e w1 ⟨rfl, hb⟩
  rw [HF.out]
  have S_1 := Lib.hid hb; clear hb
  have K_2 := Lib.hid (K_0.out.keep S_1.out)
  have X_3 := Lib.hid (X_0.out.below S_1.out)
  have C_4 := Lib.hid (C_0.out.below S_1.out)
  have V_5 := Lib.hid (V_0.out.below S_1.out)
  have B_6 := Lib.hid (then_ B_0.out S_1.out)
  clear K_0 X_0 C_0 V_0 B_0
  clear S_1
  clear x0 x1 x2 x3
  have x0 := X_3.out.cell 0 _ rfl
  have x1 := X_3.out.cell 1 _ rfl
  have x2 := X_3.out.cell 2 _ rfl
  have x3 := X_3.out.cell 3 _ rfl
  go_wp2_with fail
  refine (mvmay_any s0 A0 n0 c0 B0 m0 d0 _ K_2.out).mono ?_; rintro e w2 ⟨rfl, hb⟩
  rw [HM.out]
  have S_7 := Lib.hid hb; clear hb
  have K_8 := Lib.hid (K_2.out.keep S_7.out)
  have X_9 := Lib.hid (X_3.out.below S_7.out)
  have C_10 := Lib.hid (C_4.out.below S_7.out)
  have V_11 := Lib.hid (V_5.out.below S_7.out)
  have B_12 := Lib.hid (then_ B_6.out S_7.out)
  clear K_2 X_3 C_4 V_5 B_6
  clear S_7
  clear x0 x1 x2 x3
  have v0 := V_11.out.cell 0 _ rfl
  have v1 := V_11.out.cell 1 _ rfl
  have kb0 := C_10.out.cell 0 _ rfl
  go_wp2_with fail
  refine (live_any _).mono ?_; rintro e w3 ⟨rfl, hb⟩
  have S_13 := Lib.hid hb; clear hb
  have K_14 := Lib.hid (K_8.out.keep S_13.out)
  have X_15 := Lib.hid (X_9.out.below S_13.out)
  have C_16 := Lib.hid (C_10.out.below S_13.out)
  have V_17 := Lib.hid (V_11.out.below S_13.out)
  have B_18 := Lib.hid (then_ B_12.out S_13.out)
  clear K_8 X_9 C_10 V_11 B_12
  clear S_13
  go_wp2
  go_ret
  exact ⟨rfl, B_18.out⟩
theorem err (w : World) (s0 : St) (A0 : Option Addr) (n0 c0 : Nat) (B0 : Option Addr) (m0 d0 : Nat) (a1 a2 b2 : ByteArray) (k0 : StAt w s0 A0 n0 c0 B0 m0 d0) (w1 : a1.size ≤ maxLen) (w2 : a2.size ≤ maxLen) (u2 : b2.size ≤ maxLen) (hf : fewS s0 = true) (hm : mayB s0 = true) (h1 : a1.size ≤ 60) (h2 : a2.size ≤ 60) (h3 : b2.size ≤ 60) (he : doE s0 (swapT a1 a2 (thingL (nowL s0) a1).mod) ≠ 0) :
    Calls Try.prog 7 #[s0.agg A0 n0 c0 B0 m0 d0, .string a1, .agg #[.string a2, .string b2]] w fun e w' => e = .returned (.bool true) ∧ Below w.heap.size w w' := by
  unfold maxLen at w1 w2 u2
  have HF := Lib.hid hf; have HM := Lib.hid hm; have MS := Lib.hid (may_st.1 hm)
  have hb0 := k0.kv.len; have hb1 := k0.ev.len; have hb2 := MS.out.good.len; have hb3 := MS.out.len
  have HN : Hid (n0 + m0 ≤ 90000) := Lib.hid (by omega)
  have Z1 : Hid (a1.size ≤ maxLen) := Lib.hid (by unfold maxLen; omega); have Z2 : Hid (a2.size ≤ maxLen) := Lib.hid (by unfold maxLen; omega); have Z3 : Hid (b2.size ≤ maxLen) := Lib.hid (by unfold maxLen; omega)
  have M1 := Lib.hid (do_may MS.out (swapT a1 a2 (thingL (nowL s0) a1).mod))
  have HR0 := Lib.hid k0.rev
  have HI : Hid (inI (thingL (nowL s0) a1).mod) := Lib.hid (by have h1 := thing_mod MS.out a1; have h2 := HR0.out.2; have h3 := thing_low MS.out a1; exact ⟨by omega, by omega⟩)
  have DS := Lib.hid (do_same he)
  have he1 : (doE s0 (swapT a1 a2 (thingL (nowL s0) a1).mod) != 0) = true := by simp [he]
  clear hf hm he hb0 hb1 hb2 hb3
  have bb := then_ (then_ (new1 w (.cells (stCells s0 A0 n0 c0 B0 m0 d0) 25)) (new1 _ (.cells #[.string a1] 9))) (new1 _ (.cells #[.string a2, .string b2] 61))
  have K_0 := Lib.hid (k0.keep bb)
  have X_0 := Lib.hid (((own_new w (stCells s0 A0 n0 c0 B0 m0 d0) 25).alloc (.cells #[.string a1] 9)).alloc (.cells #[.string a2, .string b2] 61))
  have C_0 := Lib.hid ((own_new2 w (.cells (stCells s0 A0 n0 c0 B0 m0 d0) 25) #[.string a1] 9).alloc (.cells #[.string a2, .string b2] 61))
  have V_0 := Lib.hid (own_new3 w (.cells (stCells s0 A0 n0 c0 B0 m0 d0) 25) (.cells #[.string a1] 9) #[.string a2, .string b2] 61)
  have B_0 := Lib.hid bb
  clear bb k0
  go_enter Try.func7, Try.ntmps7
  have x0 := X_0.out.cell 0 _ rfl
  have x1 := X_0.out.cell 1 _ rfl
  have x2 := X_0.out.cell 2 _ rfl
  have x3 := X_0.out.cell 3 _ rfl
  go_wp2_with fail
  refine (few_st s0 A0 n0 c0 B0 m0 d0 _ K_0.out).mono ?_; rintro e w1 ⟨rfl, hb⟩
  rw [HF.out]
  have S_1 := Lib.hid hb; clear hb
  have K_2 := Lib.hid (K_0.out.keep S_1.out)
  have X_3 := Lib.hid (X_0.out.below S_1.out)
  have C_4 := Lib.hid (C_0.out.below S_1.out)
  have V_5 := Lib.hid (V_0.out.below S_1.out)
  have B_6 := Lib.hid (then_ B_0.out S_1.out)
  clear K_0 X_0 C_0 V_0 B_0
  clear S_1
  clear x0 x1 x2 x3
  have x0 := X_3.out.cell 0 _ rfl
  have x1 := X_3.out.cell 1 _ rfl
  have x2 := X_3.out.cell 2 _ rfl
  have x3 := X_3.out.cell 3 _ rfl
  go_wp2_with fail
  refine (mvmay_any s0 A0 n0 c0 B0 m0 d0 _ K_2.out).mono ?_; rintro e w2 ⟨rfl, hb⟩
  rw [HM.out]
  have S_7 := Lib.hid hb; clear hb
  have K_8 := Lib.hid (K_2.out.keep S_7.out)
  have X_9 := Lib.hid (X_3.out.below S_7.out)
  have C_10 := Lib.hid (C_4.out.below S_7.out)
  have V_11 := Lib.hid (V_5.out.below S_7.out)
  have B_12 := Lib.hid (then_ B_6.out S_7.out)
  clear K_2 X_3 C_4 V_5 B_6
  clear S_7
  clear x0 x1 x2 x3
  have v0 := V_11.out.cell 0 _ rfl
  have v1 := V_11.out.cell 1 _ rfl
  have kb0 := C_10.out.cell 0 _ rfl
  go_upto_region 3 with fail
  clear v0 v1 kb0
  have IS : Hid ((findL (nowL s0) a1).isSome = (findL (nowL s0) a1).isSome) := Lib.hid rfl
  obtain ⟨fi, hfi⟩ : ∃ b, (findL (nowL s0) a1).isSome = b := ⟨_, rfl⟩
  have FI := Lib.hid hfi; clear hfi IS
  go_cut [7, 8] (fun p1 p2 wx => Thing (thingL (nowL s0) a1) fi w2 p1 p2 wx)
  case first =>
    have lb := X_9.out.lt; have nlb := Nat.ne_of_lt lb; have nrb := Nat.ne_of_gt lb
    have lc := C_10.out.lt; have nlc := Nat.ne_of_lt lc; have nrc := Nat.ne_of_gt lc
    have x0 := X_9.out.cell 0 _ rfl
    have x1 := X_9.out.cell 1 _ rfl
    have x2 := X_9.out.cell 2 _ rfl
    have x3 := X_9.out.cell 3 _ rfl
    have y0 := C_10.out.cell 0 _ rfl
    have tk1 : True := trivial
    go_wp2
    go_region_held3 (fun w' => w'.cell? ⟨w.heap.size, 0, none⟩ = some (.int .i64 s0.rev) ∧ w'.cell? ⟨w.heap.size, 1, none⟩ = some (.int .i64 s0.low) ∧ w'.cell? ⟨w.heap.size, 2, none⟩ = some (.slice A0 n0 c0) ∧ w'.cell? ⟨w.heap.size, 3, none⟩ = some (.slice B0 m0 d0) ∧ w'.cell? ⟨w.heap.size + 1, 0, none⟩ = some (.string a1)) (go_keep) (first
      | (go_at_call 15; have _t := tk1; clear _t tk1; (with_reducible refine (now_any s0 A0 n0 c0 B0 m0 d0 _ (by first | exact K_8.out.keep (new_drew w2) | exact K_8.out.keep (then_ (new1 w2 _) (new_drew _)) | exact K_8.out.keep (then_ (new_drew w2) (new1 _ _))) (by have := HN.out; omega)).mono ?_); rintro e w4 ⟨Af, nf, cf, rfl, h4, hb⟩; have H4 : Hid (Below w2.heap.size w2 w4) := Lib.hid (by first | exact then_ (new_drew w2) hb | exact then_ (then_ (new1 w2 _) (new_drew _)) hb | exact then_ (then_ (new_drew w2) (new1 _ _)) hb); (try (have Z4 : Hid (Own w4 w2.heap.size 63 zKV) := Lib.hid (((own_new w2 zKV 63).below (new_drew _)).below hb))); have G4 := Lib.hid h4; clear h4 hb; obtain ⟨hc4, hf4⟩ := bcell H4.out; have l4b := (X_9.out.below H4.out).lt; have nl4b := Nat.ne_of_lt l4b; have nr4b := Nat.ne_of_gt l4b; have l4c := (C_10.out.below H4.out).lt; have nl4c := Nat.ne_of_lt l4c; have nr4c := Nat.ne_of_gt l4c; have tk2 : True := trivial)
      | (go_at_call 37; have _t := tk2; clear _t tk2; (with_reducible refine (find_is Af nf cf (nowL s0) a1 _ (by first | exact G4.out | exact G4.out.keep (new1 _ _)) (by have h1 := G4.out.len; have h2 := MS.out.now.len; omega)).mono ?_); rintro e w5 ⟨rfl, hb⟩; rw [FI.out]; have H5 : Hid (Below w2.heap.size w2 w5) := Lib.hid (by first | exact then_ H4.out hb | exact then_ (then_ H4.out (new1 _ _)) hb); (first | (have Z5 := Lib.hid (Z4.out.below hb)) | (have Z5 : Hid (Own w5 w4.heap.size 63 zKV) := Lib.hid ((own_new w4 zKV 63).below hb)) | skip); (first | (have zf := Z5.out.frozen; have zl := Z5.out.lt; have z0 := Z5.out.cell 0 _ rfl; have z1 := Z5.out.cell 1 _ rfl; have z2 := Z5.out.cell 2 _ rfl; have z3 := Z5.out.cell 3 _ rfl; have z4 := Z5.out.cell 4 _ rfl; have z5 := Z5.out.cell 5 _ rfl) | skip); clear hb; have q4 := H4.out.size; clear hc4 hf4; obtain ⟨hc5, hf5⟩ := bcell H5.out; have l5b := (X_9.out.below H5.out).lt; have nl5b := Nat.ne_of_lt l5b; have nr5b := Nat.ne_of_gt l5b; have l5c := (C_10.out.below H5.out).lt; have nl5c := Nat.ne_of_lt l5c; have nr5c := Nat.ne_of_gt l5c))
    all_goals
      clear hc5 hf5
    all_goals
      go_wp2_with fail
      go_meet
      first
        | (with_reducible exact thing_last H5.out)
        | ((with_reducible refine thing_old Z5.out H5.out ?_); omega)
  case rest =>
  rename World => Y1
  obtain ⟨e1, rfl, rfl, ho, hb⟩ := hcut
  have S_51 := Lib.hid hb; clear hb
  have K_13 := Lib.hid (K_8.out.keep S_51.out)
  have X_14 := Lib.hid (X_9.out.below S_51.out)
  have C_15 := Lib.hid (C_10.out.below S_51.out)
  have V_16 := Lib.hid (V_11.out.below S_51.out)
  have B_17 := Lib.hid (then_ B_12.out S_51.out)
  clear K_8 X_9 C_10 V_11 B_12
  clear S_51
  have T1_18 := Lib.hid (ho)
  clear ho
  go_upto_region 5 with fail
  go_cut [10, 11, 12, 13] (fun p1 p2 p3 p4 wx => Done s0 false [] (doE s0 (swapT a1 a2 (thingL (nowL s0) a1).mod)) Y1 p1 p2 p3 p4 wx)
  case first =>
    have lb := X_14.out.lt; have nlb := Nat.ne_of_lt lb; have nrb := Nat.ne_of_gt lb
    have x0 := X_14.out.cell 0 _ rfl
    have x1 := X_14.out.cell 1 _ rfl
    have x2 := X_14.out.cell 2 _ rfl
    have x3 := X_14.out.cell 3 _ rfl
    have lev := V_16.out.lt; have nlev := Nat.ne_of_lt lev; have nrev := Nat.ne_of_gt lev
    have y0 := V_16.out.cell 0 _ rfl
    have tk1 : True := trivial
    go_wp2
    go_region_held3 (fun w' => w'.cell? ⟨w.heap.size, 0, none⟩ = some (.int .i64 s0.rev) ∧ w'.cell? ⟨w.heap.size, 1, none⟩ = some (.int .i64 s0.low) ∧ w'.cell? ⟨w.heap.size, 2, none⟩ = some (.slice A0 n0 c0) ∧ w'.cell? ⟨w.heap.size, 3, none⟩ = some (.slice B0 m0 d0) ∧ w'.cell? ⟨w.heap.size + 1 + 1, 0, none⟩ = some (.string a2)) (go_keep) (first
      | (go_at_call 38; have _t := tk1; clear _t tk1; (with_reducible refine (swap_any a2 a1 (thingL (nowL s0) a1) ⟨w.heap.size + 1, 0, none⟩ ⟨e1, 0, none⟩ _ (by first | exact (C_15.out.below (new_drew Y1)).cell 0 _ rfl | exact (C_15.out.below (then_ (new1 Y1 _) (new_drew _))).cell 0 _ rfl | exact (C_15.out.below (then_ (new_drew Y1) (new1 _ _))).cell 0 _ rfl) (by first | exact (T1_18.out.below (new_drew Y1)).cell 3 _ rfl | exact (T1_18.out.below (then_ (new1 Y1 _) (new_drew _))).cell 3 _ rfl | exact (T1_18.out.below (then_ (new_drew Y1) (new1 _ _))).cell 3 _ rfl) Z1.out Z2.out HI.out).mono ?_); rintro e w4 ⟨Ax, nx, cx, Bx, mx, dx, Cx, ox, ex, rfl, h4, hb⟩; have H4 : Hid (Below Y1.heap.size Y1 w4) := Lib.hid (by first | exact then_ (new_drew Y1) hb | exact then_ (then_ (new1 Y1 _) (new_drew _)) hb | exact then_ (then_ (new_drew Y1) (new1 _ _)) hb); (try (have Z4 : Hid (Own w4 Y1.heap.size 25 zSt) := Lib.hid (((own_new Y1 zSt 25).below (new_drew _)).below hb))); have G4 := Lib.hid h4; clear h4 hb; obtain ⟨hc4, hf4⟩ := bcell H4.out; have l4b := (X_14.out.below H4.out).lt; have nl4b := Nat.ne_of_lt l4b; have nr4b := Nat.ne_of_gt l4b; have l4ev := (V_16.out.below H4.out).lt; have nl4ev := Nat.ne_of_lt l4ev; have nr4ev := Nat.ne_of_gt l4ev; have tk2 : True := trivial)
      | (go_at_call 26; have _t := tk2; clear _t tk2; (with_reducible refine ((do_any s0 A0 n0 c0 B0 m0 d0 (swapT a1 a2 (thingL (nowL s0) a1).mod) Ax nx cx Bx mx dx Cx ox ex _ (by first | exact K_13.out.keep H4.out | exact K_13.out.keep (then_ H4.out (new1 _ _))) (by first | exact G4.out | exact G4.out.keep (new1 _ _)) MS.out).mono fun e w' k => do_of (x := doE s0 (swapT a1 a2 (thingL (nowL s0) a1).mod)) (es := []) ⟨rfl, DS.out.1, DS.out.2.1, DS.out.2.2⟩ k).mono ?_); rintro e w5 ⟨A5, n5, c5, B5, m5, d5, E5, en5, ec5, rfl, h5, v5, hb⟩; have H5 : Hid (Below Y1.heap.size Y1 w5) := Lib.hid (by first | exact then_ H4.out hb | exact then_ (then_ H4.out (new1 _ _)) hb); (first | (have Z5 := Lib.hid (Z4.out.below hb)) | (have Z5 : Hid (Own w5 w4.heap.size 25 zSt) := Lib.hid ((own_new w4 zSt 25).below hb)) | skip); (first | (have zf := Z5.out.frozen; have zl := Z5.out.lt; have z0 := Z5.out.cell 0 _ rfl; have z1 := Z5.out.cell 1 _ rfl; have z2 := Z5.out.cell 2 _ rfl; have z3 := Z5.out.cell 3 _ rfl) | skip); have K5 := Lib.hid h5; have V5 := Lib.hid v5; clear h5 v5 hb; have q4 := H4.out.size; clear hc4 hf4; obtain ⟨hc5, hf5⟩ := bcell H5.out; have l5b := (X_14.out.below H5.out).lt; have nl5b := Nat.ne_of_lt l5b; have nr5b := Nat.ne_of_gt l5b; have l5ev := (V_16.out.below H5.out).lt; have nl5ev := Nat.ne_of_lt l5ev; have nr5ev := Nat.ne_of_gt l5ev))
    all_goals
      clear hc5 hf5
    all_goals
      go_wp2_with fail
      go_meet
      first
        | exact done_last K5.out V5.out H5.out
        | exact done_old Z5.out K5.out V5.out H5.out (by omega)
  case rest =>
  rename World => W1
  obtain ⟨b1, A1, n1, c1, B1, m1, d1, E1, en1, ec1, rfl, rfl, rfl, rfl, hk, hv, ho, hb⟩ := hcut
  have S_1 := Lib.hid hb; clear hb
  have K_19 := Lib.hid (K_13.out.keep S_1.out)
  have X_20 := Lib.hid (X_14.out.below S_1.out)
  have C_21 := Lib.hid (C_15.out.below S_1.out)
  have V_22 := Lib.hid (V_16.out.below S_1.out)
  have T1_23 := Lib.hid (T1_18.out.below S_1.out)
  have B_24 := Lib.hid (then_ B_17.out S_1.out)
  clear K_13 X_14 C_15 V_16 T1_18 B_17
  clear S_1
  have K1_25 := Lib.hid (hk)
  have R1_26 := Lib.hid (ho)
  clear hk hv ho
  obtain rfl : n0 = n1 := K_19.out.kv.len.symm.trans K1_25.out.kv.len
  obtain rfl : m0 = m1 := K_19.out.ev.len.symm.trans K1_25.out.ev.len
  have HL : Hid (n0 + m0 ≤ 90000) := Lib.hid HN.out
  have x0 := X_20.out.cell 0 _ rfl
  have x1 := X_20.out.cell 1 _ rfl
  have x2 := X_20.out.cell 2 _ rfl
  have x3 := X_20.out.cell 3 _ rfl
  have y0 := R1_26.out.cell 0 _ rfl
  have y1 := R1_26.out.cell 1 _ rfl
  have y2 := R1_26.out.cell 2 _ rfl
  have y3 := R1_26.out.cell 3 _ rfl
  go_wp2_with fail
  refine (st_same s0 A0 A1 n0 c0 c1 B0 B1 m0 d0 d1 _ K_19.out K1_25.out (by have := HL.out; omega) (by have := HL.out; omega)).mono ?_; rintro e w11 ⟨rfl, hb⟩
  have S_27 := Lib.hid hb; clear hb
  have K_28 := Lib.hid (K_19.out.keep S_27.out)
  have X_29 := Lib.hid (X_20.out.below S_27.out)
  have C_30 := Lib.hid (C_21.out.below S_27.out)
  have V_31 := Lib.hid (V_22.out.below S_27.out)
  have T1_32 := Lib.hid (T1_23.out.below S_27.out)
  have K1_33 := Lib.hid (K1_25.out.keep S_27.out)
  have R1_34 := Lib.hid (R1_26.out.below S_27.out)
  have B_35 := Lib.hid (then_ B_24.out S_27.out)
  clear K_19 X_20 C_21 V_22 T1_23 K1_25 R1_26 B_24
  clear S_27
  clear x0 x1 x2 x3
  clear y0 y1 y2 y3
  go_wp2_with fail
  refine (live_any _).mono ?_; rintro e w12 ⟨rfl, hb⟩
  have S_36 := Lib.hid hb; clear hb
  have K_37 := Lib.hid (K_28.out.keep S_36.out)
  have X_38 := Lib.hid (X_29.out.below S_36.out)
  have C_39 := Lib.hid (C_30.out.below S_36.out)
  have V_40 := Lib.hid (V_31.out.below S_36.out)
  have T1_41 := Lib.hid (T1_32.out.below S_36.out)
  have K1_42 := Lib.hid (K1_33.out.keep S_36.out)
  have R1_43 := Lib.hid (R1_34.out.below S_36.out)
  have B_44 := Lib.hid (then_ B_35.out S_36.out)
  clear K_28 X_29 C_30 V_31 T1_32 K1_33 R1_34 B_35
  clear S_36
  go_wp2
  go_ret
  exact ⟨rfl, B_44.out⟩
theorem good (w : World) (s0 : St) (A0 : Option Addr) (n0 c0 : Nat) (B0 : Option Addr) (m0 d0 : Nat) (a1 a2 b2 : ByteArray) (k0 : StAt w s0 A0 n0 c0 B0 m0 d0) (w1 : a1.size ≤ maxLen) (w2 : a2.size ≤ maxLen) (u2 : b2.size ≤ maxLen) (hf : fewS s0 = true) (hm : mayB s0 = true) (h1 : a1.size ≤ 60) (h2 : a2.size ≤ 60) (h3 : b2.size ≤ 60) (he : doE s0 (swapT a1 a2 (thingL (nowL s0) a1).mod) = 0) :
    Calls Try.prog 7 #[s0.agg A0 n0 c0 B0 m0 d0, .string a1, .agg #[.string a2, .string b2]] w fun e w' => e = .returned (.bool true) ∧ Below w.heap.size w w' := by
  unfold maxLen at w1 w2 u2
  have HF := Lib.hid hf; have HM := Lib.hid hm; have MS := Lib.hid (may_st.1 hm)
  have hb0 := k0.kv.len; have hb1 := k0.ev.len; have hb2 := MS.out.good.len; have hb3 := MS.out.len
  have HN : Hid (n0 + m0 ≤ 90000) := Lib.hid (by omega)
  have Z1 : Hid (a1.size ≤ maxLen) := Lib.hid (by unfold maxLen; omega); have Z2 : Hid (a2.size ≤ maxLen) := Lib.hid (by unfold maxLen; omega); have Z3 : Hid (b2.size ≤ maxLen) := Lib.hid (by unfold maxLen; omega)
  have M1 := Lib.hid (do_may MS.out (swapT a1 a2 (thingL (nowL s0) a1).mod))
  have HR0 := Lib.hid k0.rev
  have HI : Hid (inI (thingL (nowL s0) a1).mod) := Lib.hid (by have h1 := thing_mod MS.out a1; have h2 := HR0.out.2; have h3 := thing_low MS.out a1; exact ⟨by omega, by omega⟩)
  have SF := Lib.hid (swap_first MS.out rfl he)
  have SG := Lib.hid (swap_second (v2 := b2) MS.out rfl he)
  have HE := Lib.hid he
  have hwr : IntKind.i64.wrap (s0.rev + 1) = s0.rev + 1 := IntWalk.i64_in _ (by have h1 := MS.out.low; have h2 := MS.out.le; have h3 := rev_top MS.out; omega)
  clear hf hm he hb0 hb1 hb2 hb3
  have bb := then_ (then_ (new1 w (.cells (stCells s0 A0 n0 c0 B0 m0 d0) 25)) (new1 _ (.cells #[.string a1] 9))) (new1 _ (.cells #[.string a2, .string b2] 61))
  have K_0 := Lib.hid (k0.keep bb)
  have X_0 := Lib.hid (((own_new w (stCells s0 A0 n0 c0 B0 m0 d0) 25).alloc (.cells #[.string a1] 9)).alloc (.cells #[.string a2, .string b2] 61))
  have C_0 := Lib.hid ((own_new2 w (.cells (stCells s0 A0 n0 c0 B0 m0 d0) 25) #[.string a1] 9).alloc (.cells #[.string a2, .string b2] 61))
  have V_0 := Lib.hid (own_new3 w (.cells (stCells s0 A0 n0 c0 B0 m0 d0) 25) (.cells #[.string a1] 9) #[.string a2, .string b2] 61)
  have B_0 := Lib.hid bb
  clear bb k0
  go_enter Try.func7, Try.ntmps7
  have x0 := X_0.out.cell 0 _ rfl
  have x1 := X_0.out.cell 1 _ rfl
  have x2 := X_0.out.cell 2 _ rfl
  have x3 := X_0.out.cell 3 _ rfl
  go_wp2_with fail
  refine (few_st s0 A0 n0 c0 B0 m0 d0 _ K_0.out).mono ?_; rintro e w1 ⟨rfl, hb⟩
  rw [HF.out]
  have S_1 := Lib.hid hb; clear hb
  have K_2 := Lib.hid (K_0.out.keep S_1.out)
  have X_3 := Lib.hid (X_0.out.below S_1.out)
  have C_4 := Lib.hid (C_0.out.below S_1.out)
  have V_5 := Lib.hid (V_0.out.below S_1.out)
  have B_6 := Lib.hid (then_ B_0.out S_1.out)
  clear K_0 X_0 C_0 V_0 B_0
  clear S_1
  clear x0 x1 x2 x3
  have x0 := X_3.out.cell 0 _ rfl
  have x1 := X_3.out.cell 1 _ rfl
  have x2 := X_3.out.cell 2 _ rfl
  have x3 := X_3.out.cell 3 _ rfl
  go_wp2_with fail
  refine (mvmay_any s0 A0 n0 c0 B0 m0 d0 _ K_2.out).mono ?_; rintro e w2 ⟨rfl, hb⟩
  rw [HM.out]
  have S_7 := Lib.hid hb; clear hb
  have K_8 := Lib.hid (K_2.out.keep S_7.out)
  have X_9 := Lib.hid (X_3.out.below S_7.out)
  have C_10 := Lib.hid (C_4.out.below S_7.out)
  have V_11 := Lib.hid (V_5.out.below S_7.out)
  have B_12 := Lib.hid (then_ B_6.out S_7.out)
  clear K_2 X_3 C_4 V_5 B_6
  clear S_7
  clear x0 x1 x2 x3
  have v0 := V_11.out.cell 0 _ rfl
  have v1 := V_11.out.cell 1 _ rfl
  have kb0 := C_10.out.cell 0 _ rfl
  go_upto_region 3 with fail
  clear v0 v1 kb0
  have IS : Hid ((findL (nowL s0) a1).isSome = (findL (nowL s0) a1).isSome) := Lib.hid rfl
  obtain ⟨fi, hfi⟩ : ∃ b, (findL (nowL s0) a1).isSome = b := ⟨_, rfl⟩
  have FI := Lib.hid hfi; clear hfi IS
  go_cut [7, 8] (fun p1 p2 wx => Thing (thingL (nowL s0) a1) fi w2 p1 p2 wx)
  case first =>
    have lb := X_9.out.lt; have nlb := Nat.ne_of_lt lb; have nrb := Nat.ne_of_gt lb
    have lc := C_10.out.lt; have nlc := Nat.ne_of_lt lc; have nrc := Nat.ne_of_gt lc
    have x0 := X_9.out.cell 0 _ rfl
    have x1 := X_9.out.cell 1 _ rfl
    have x2 := X_9.out.cell 2 _ rfl
    have x3 := X_9.out.cell 3 _ rfl
    have y0 := C_10.out.cell 0 _ rfl
    have tk1 : True := trivial
    go_wp2
    go_region_held3 (fun w' => w'.cell? ⟨w.heap.size, 0, none⟩ = some (.int .i64 s0.rev) ∧ w'.cell? ⟨w.heap.size, 1, none⟩ = some (.int .i64 s0.low) ∧ w'.cell? ⟨w.heap.size, 2, none⟩ = some (.slice A0 n0 c0) ∧ w'.cell? ⟨w.heap.size, 3, none⟩ = some (.slice B0 m0 d0) ∧ w'.cell? ⟨w.heap.size + 1, 0, none⟩ = some (.string a1)) (go_keep) (first
      | (go_at_call 15; have _t := tk1; clear _t tk1; (with_reducible refine (now_any s0 A0 n0 c0 B0 m0 d0 _ (by first | exact K_8.out.keep (new_drew w2) | exact K_8.out.keep (then_ (new1 w2 _) (new_drew _)) | exact K_8.out.keep (then_ (new_drew w2) (new1 _ _))) (by have := HN.out; omega)).mono ?_); rintro e w4 ⟨Af, nf, cf, rfl, h4, hb⟩; have H4 : Hid (Below w2.heap.size w2 w4) := Lib.hid (by first | exact then_ (new_drew w2) hb | exact then_ (then_ (new1 w2 _) (new_drew _)) hb | exact then_ (then_ (new_drew w2) (new1 _ _)) hb); (try (have Z4 : Hid (Own w4 w2.heap.size 63 zKV) := Lib.hid (((own_new w2 zKV 63).below (new_drew _)).below hb))); have G4 := Lib.hid h4; clear h4 hb; obtain ⟨hc4, hf4⟩ := bcell H4.out; have l4b := (X_9.out.below H4.out).lt; have nl4b := Nat.ne_of_lt l4b; have nr4b := Nat.ne_of_gt l4b; have l4c := (C_10.out.below H4.out).lt; have nl4c := Nat.ne_of_lt l4c; have nr4c := Nat.ne_of_gt l4c; have tk2 : True := trivial)
      | (go_at_call 37; have _t := tk2; clear _t tk2; (with_reducible refine (find_is Af nf cf (nowL s0) a1 _ (by first | exact G4.out | exact G4.out.keep (new1 _ _)) (by have h1 := G4.out.len; have h2 := MS.out.now.len; omega)).mono ?_); rintro e w5 ⟨rfl, hb⟩; rw [FI.out]; have H5 : Hid (Below w2.heap.size w2 w5) := Lib.hid (by first | exact then_ H4.out hb | exact then_ (then_ H4.out (new1 _ _)) hb); (first | (have Z5 := Lib.hid (Z4.out.below hb)) | (have Z5 : Hid (Own w5 w4.heap.size 63 zKV) := Lib.hid ((own_new w4 zKV 63).below hb)) | skip); (first | (have zf := Z5.out.frozen; have zl := Z5.out.lt; have z0 := Z5.out.cell 0 _ rfl; have z1 := Z5.out.cell 1 _ rfl; have z2 := Z5.out.cell 2 _ rfl; have z3 := Z5.out.cell 3 _ rfl; have z4 := Z5.out.cell 4 _ rfl; have z5 := Z5.out.cell 5 _ rfl) | skip); clear hb; have q4 := H4.out.size; clear hc4 hf4; obtain ⟨hc5, hf5⟩ := bcell H5.out; have l5b := (X_9.out.below H5.out).lt; have nl5b := Nat.ne_of_lt l5b; have nr5b := Nat.ne_of_gt l5b; have l5c := (C_10.out.below H5.out).lt; have nl5c := Nat.ne_of_lt l5c; have nr5c := Nat.ne_of_gt l5c))
    all_goals
      clear hc5 hf5
    all_goals
      go_wp2_with fail
      go_meet
      first
        | (with_reducible exact thing_last H5.out)
        | ((with_reducible refine thing_old Z5.out H5.out ?_); omega)
  case rest =>
  rename World => Y1
  obtain ⟨e1, rfl, rfl, ho, hb⟩ := hcut
  have S_51 := Lib.hid hb; clear hb
  have K_13 := Lib.hid (K_8.out.keep S_51.out)
  have X_14 := Lib.hid (X_9.out.below S_51.out)
  have C_15 := Lib.hid (C_10.out.below S_51.out)
  have V_16 := Lib.hid (V_11.out.below S_51.out)
  have B_17 := Lib.hid (then_ B_12.out S_51.out)
  clear K_8 X_9 C_10 V_11 B_12
  clear S_51
  have T1_18 := Lib.hid (ho)
  clear ho
  go_upto_region 5 with fail
  go_cut [10, 11, 12, 13] (fun p1 p2 p3 p4 wx => Done (doS s0 (swapT a1 a2 (thingL (nowL s0) a1).mod)) true (doV s0 (swapT a1 a2 (thingL (nowL s0) a1).mod)) 0 Y1 p1 p2 p3 p4 wx)
  case first =>
    have lb := X_14.out.lt; have nlb := Nat.ne_of_lt lb; have nrb := Nat.ne_of_gt lb
    have x0 := X_14.out.cell 0 _ rfl
    have x1 := X_14.out.cell 1 _ rfl
    have x2 := X_14.out.cell 2 _ rfl
    have x3 := X_14.out.cell 3 _ rfl
    have lev := V_16.out.lt; have nlev := Nat.ne_of_lt lev; have nrev := Nat.ne_of_gt lev
    have y0 := V_16.out.cell 0 _ rfl
    have tk1 : True := trivial
    go_wp2
    go_region_held3 (fun w' => w'.cell? ⟨w.heap.size, 0, none⟩ = some (.int .i64 s0.rev) ∧ w'.cell? ⟨w.heap.size, 1, none⟩ = some (.int .i64 s0.low) ∧ w'.cell? ⟨w.heap.size, 2, none⟩ = some (.slice A0 n0 c0) ∧ w'.cell? ⟨w.heap.size, 3, none⟩ = some (.slice B0 m0 d0) ∧ w'.cell? ⟨w.heap.size + 1 + 1, 0, none⟩ = some (.string a2)) (go_keep) (first
      | (go_at_call 38; have _t := tk1; clear _t tk1; (with_reducible refine (swap_any a2 a1 (thingL (nowL s0) a1) ⟨w.heap.size + 1, 0, none⟩ ⟨e1, 0, none⟩ _ (by first | exact (C_15.out.below (new_drew Y1)).cell 0 _ rfl | exact (C_15.out.below (then_ (new1 Y1 _) (new_drew _))).cell 0 _ rfl | exact (C_15.out.below (then_ (new_drew Y1) (new1 _ _))).cell 0 _ rfl) (by first | exact (T1_18.out.below (new_drew Y1)).cell 3 _ rfl | exact (T1_18.out.below (then_ (new1 Y1 _) (new_drew _))).cell 3 _ rfl | exact (T1_18.out.below (then_ (new_drew Y1) (new1 _ _))).cell 3 _ rfl) Z1.out Z2.out HI.out).mono ?_); rintro e w4 ⟨Ax, nx, cx, Bx, mx, dx, Cx, ox, ex, rfl, h4, hb⟩; have H4 : Hid (Below Y1.heap.size Y1 w4) := Lib.hid (by first | exact then_ (new_drew Y1) hb | exact then_ (then_ (new1 Y1 _) (new_drew _)) hb | exact then_ (then_ (new_drew Y1) (new1 _ _)) hb); (try (have Z4 : Hid (Own w4 Y1.heap.size 25 zSt) := Lib.hid (((own_new Y1 zSt 25).below (new_drew _)).below hb))); have G4 := Lib.hid h4; clear h4 hb; obtain ⟨hc4, hf4⟩ := bcell H4.out; have l4b := (X_14.out.below H4.out).lt; have nl4b := Nat.ne_of_lt l4b; have nr4b := Nat.ne_of_gt l4b; have l4ev := (V_16.out.below H4.out).lt; have nl4ev := Nat.ne_of_lt l4ev; have nr4ev := Nat.ne_of_gt l4ev; have tk2 : True := trivial)
      | (go_at_call 26; have _t := tk2; clear _t tk2; (with_reducible refine ((do_any s0 A0 n0 c0 B0 m0 d0 (swapT a1 a2 (thingL (nowL s0) a1).mod) Ax nx cx Bx mx dx Cx ox ex _ (by first | exact K_13.out.keep H4.out | exact K_13.out.keep (then_ H4.out (new1 _ _))) (by first | exact G4.out | exact G4.out.keep (new1 _ _)) MS.out).mono fun e w' k => do_of (s' := (doS s0 (swapT a1 a2 (thingL (nowL s0) a1).mod))) (es := doV s0 (swapT a1 a2 (thingL (nowL s0) a1).mod)) ⟨HE.out, rfl, rfl, SF.out.1⟩ k).mono ?_); rintro e w5 ⟨A5, n5, c5, B5, m5, d5, E5, en5, ec5, rfl, h5, v5, hb⟩; have H5 : Hid (Below Y1.heap.size Y1 w5) := Lib.hid (by first | exact then_ H4.out hb | exact then_ (then_ H4.out (new1 _ _)) hb); (first | (have Z5 := Lib.hid (Z4.out.below hb)) | (have Z5 : Hid (Own w5 w4.heap.size 25 zSt) := Lib.hid ((own_new w4 zSt 25).below hb)) | skip); (first | (have zf := Z5.out.frozen; have zl := Z5.out.lt; have z0 := Z5.out.cell 0 _ rfl; have z1 := Z5.out.cell 1 _ rfl; have z2 := Z5.out.cell 2 _ rfl; have z3 := Z5.out.cell 3 _ rfl) | skip); have K5 := Lib.hid h5; have V5 := Lib.hid v5; clear h5 v5 hb; have q4 := H4.out.size; clear hc4 hf4; obtain ⟨hc5, hf5⟩ := bcell H5.out; have l5b := (X_14.out.below H5.out).lt; have nl5b := Nat.ne_of_lt l5b; have nr5b := Nat.ne_of_gt l5b; have l5ev := (V_16.out.below H5.out).lt; have nl5ev := Nat.ne_of_lt l5ev; have nr5ev := Nat.ne_of_gt l5ev))
    all_goals
      clear hc5 hf5
    all_goals
      go_wp2_with fail
      go_meet
      first
        | exact done_last K5.out V5.out H5.out
        | exact done_old Z5.out K5.out V5.out H5.out (by omega)
  case rest =>
  rename World => W1
  obtain ⟨b1, A1, n1, c1, B1, m1, d1, E1, en1, ec1, rfl, rfl, rfl, rfl, hk, hv, ho, hb⟩ := hcut
  have S_1 := Lib.hid hb; clear hb
  have K_19 := Lib.hid (K_13.out.keep S_1.out)
  have X_20 := Lib.hid (X_14.out.below S_1.out)
  have C_21 := Lib.hid (C_15.out.below S_1.out)
  have V_22 := Lib.hid (V_16.out.below S_1.out)
  have T1_23 := Lib.hid (T1_18.out.below S_1.out)
  have B_24 := Lib.hid (then_ B_17.out S_1.out)
  clear K_13 X_14 C_15 V_16 T1_18 B_17
  clear S_1
  have K1_25 := Lib.hid (hk)
  have R1_26 := Lib.hid (ho)
  clear hk hv ho
  go_upto_region 8 with fail
  go_cut [14, 15, 16, 17] (fun p1 p2 p3 p4 wx => Done (doS s0 (swapT a1 a2 (thingL (nowL s0) a1).mod)) false [] 0 W1 p1 p2 p3 p4 wx)
  case first =>
    have lb := R1_26.out.lt; have nlb := Nat.ne_of_lt lb; have nrb := Nat.ne_of_gt lb
    have x0 := R1_26.out.cell 0 _ rfl
    have x1 := R1_26.out.cell 1 _ rfl
    have x2 := R1_26.out.cell 2 _ rfl
    have x3 := R1_26.out.cell 3 _ rfl
    have lev := V_22.out.lt; have nlev := Nat.ne_of_lt lev; have nrev := Nat.ne_of_gt lev
    have y0 := V_22.out.cell 1 _ rfl
    have tk1 : True := trivial
    go_wp2
    go_region_held3 (fun w' => w'.cell? ⟨b1, 0, none⟩ = some (.int .i64 (doS s0 (swapT a1 a2 (thingL (nowL s0) a1).mod)).rev) ∧ w'.cell? ⟨b1, 1, none⟩ = some (.int .i64 (doS s0 (swapT a1 a2 (thingL (nowL s0) a1).mod)).low) ∧ w'.cell? ⟨b1, 2, none⟩ = some (.slice A1 n1 c1) ∧ w'.cell? ⟨b1, 3, none⟩ = some (.slice B1 m1 d1) ∧ w'.cell? ⟨w.heap.size + 1 + 1, 1, none⟩ = some (.string b2)) (go_keep) (first
      | (go_at_call 38; have _t := tk1; clear _t tk1; (with_reducible refine (swap_any b2 a1 (thingL (nowL s0) a1) ⟨w.heap.size + 1, 0, none⟩ ⟨e1, 0, none⟩ _ (by first | exact (C_21.out.below (new_drew W1)).cell 0 _ rfl | exact (C_21.out.below (then_ (new1 W1 _) (new_drew _))).cell 0 _ rfl | exact (C_21.out.below (then_ (new_drew W1) (new1 _ _))).cell 0 _ rfl) (by first | exact (T1_23.out.below (new_drew W1)).cell 3 _ rfl | exact (T1_23.out.below (then_ (new1 W1 _) (new_drew _))).cell 3 _ rfl | exact (T1_23.out.below (then_ (new_drew W1) (new1 _ _))).cell 3 _ rfl) Z1.out Z3.out HI.out).mono ?_); rintro e w4 ⟨Ax, nx, cx, Bx, mx, dx, Cx, ox, ex, rfl, h4, hb⟩; have H4 : Hid (Below W1.heap.size W1 w4) := Lib.hid (by first | exact then_ (new_drew W1) hb | exact then_ (then_ (new1 W1 _) (new_drew _)) hb | exact then_ (then_ (new_drew W1) (new1 _ _)) hb); (try (have Z4 : Hid (Own w4 W1.heap.size 25 zSt) := Lib.hid (((own_new W1 zSt 25).below (new_drew _)).below hb))); have G4 := Lib.hid h4; clear h4 hb; obtain ⟨hc4, hf4⟩ := bcell H4.out; have l4b := (R1_26.out.below H4.out).lt; have nl4b := Nat.ne_of_lt l4b; have nr4b := Nat.ne_of_gt l4b; have l4ev := (V_22.out.below H4.out).lt; have nl4ev := Nat.ne_of_lt l4ev; have nr4ev := Nat.ne_of_gt l4ev; have tk2 : True := trivial)
      | (go_at_call 26; have _t := tk2; clear _t tk2; (with_reducible refine ((do_any (doS s0 (swapT a1 a2 (thingL (nowL s0) a1).mod)) A1 n1 c1 B1 m1 d1 (swapT a1 b2 (thingL (nowL s0) a1).mod) Ax nx cx Bx mx dx Cx ox ex _ (by first | exact K1_25.out.keep H4.out | exact K1_25.out.keep (then_ H4.out (new1 _ _))) (by first | exact G4.out | exact G4.out.keep (new1 _ _)) M1.out).mono fun e w' k => do_of SG.out k).mono ?_); rintro e w5 ⟨A5, n5, c5, B5, m5, d5, E5, en5, ec5, rfl, h5, v5, hb⟩; have H5 : Hid (Below W1.heap.size W1 w5) := Lib.hid (by first | exact then_ H4.out hb | exact then_ (then_ H4.out (new1 _ _)) hb); (first | (have Z5 := Lib.hid (Z4.out.below hb)) | (have Z5 : Hid (Own w5 w4.heap.size 25 zSt) := Lib.hid ((own_new w4 zSt 25).below hb)) | skip); (first | (have zf := Z5.out.frozen; have zl := Z5.out.lt; have z0 := Z5.out.cell 0 _ rfl; have z1 := Z5.out.cell 1 _ rfl; have z2 := Z5.out.cell 2 _ rfl; have z3 := Z5.out.cell 3 _ rfl) | skip); have K5 := Lib.hid h5; have V5 := Lib.hid v5; clear h5 v5 hb; have q4 := H4.out.size; clear hc4 hf4; obtain ⟨hc5, hf5⟩ := bcell H5.out; have l5b := (R1_26.out.below H5.out).lt; have nl5b := Nat.ne_of_lt l5b; have nr5b := Nat.ne_of_gt l5b; have l5ev := (V_22.out.below H5.out).lt; have nl5ev := Nat.ne_of_lt l5ev; have nr5ev := Nat.ne_of_gt l5ev))
    all_goals
      clear hc5 hf5
    all_goals
      go_wp2_with fail
      go_meet
      first
        | exact done_last K5.out V5.out H5.out
        | exact done_old Z5.out K5.out V5.out H5.out (by omega)
  case rest =>
  rename World => W2
  obtain ⟨b2, A2, n2, c2, B2, m2, d2, E2, en2, ec2, rfl, rfl, rfl, rfl, hk, hv, ho, hb⟩ := hcut
  have S_2 := Lib.hid hb; clear hb
  have K_27 := Lib.hid (K_19.out.keep S_2.out)
  have X_28 := Lib.hid (X_20.out.below S_2.out)
  have C_29 := Lib.hid (C_21.out.below S_2.out)
  have V_30 := Lib.hid (V_22.out.below S_2.out)
  have T1_31 := Lib.hid (T1_23.out.below S_2.out)
  have K1_32 := Lib.hid (K1_25.out.keep S_2.out)
  have R1_33 := Lib.hid (R1_26.out.below S_2.out)
  have B_34 := Lib.hid (then_ B_24.out S_2.out)
  clear K_19 X_20 C_21 V_22 T1_23 K1_25 R1_26 B_24
  clear S_2
  have K2_35 := Lib.hid (hk)
  have R2_36 := Lib.hid (ho)
  clear hk hv ho
  obtain rfl : n1 = n2 := K1_32.out.kv.len.symm.trans K2_35.out.kv.len
  obtain rfl : m1 = m2 := K1_32.out.ev.len.symm.trans K2_35.out.ev.len
  have HL : Hid (n1 + m1 ≤ 90000) := Lib.hid (by have h1 := K1_32.out.kv.len; have h2 := K1_32.out.ev.len; have h3 := M1.out.good.len; have h4 := M1.out.len; omega)
  go_upto_region 11 with fail
  go_cut [18, 19] (fun p1 p2 wx => Thing (thingL (nowL (doS s0 (swapT a1 a2 (thingL (nowL s0) a1).mod))) a1) true W2 p1 p2 wx)
  case first =>
    have lb := R2_36.out.lt; have nlb := Nat.ne_of_lt lb; have nrb := Nat.ne_of_gt lb
    have lc := C_29.out.lt; have nlc := Nat.ne_of_lt lc; have nrc := Nat.ne_of_gt lc
    have x0 := R2_36.out.cell 0 _ rfl
    have x1 := R2_36.out.cell 1 _ rfl
    have x2 := R2_36.out.cell 2 _ rfl
    have x3 := R2_36.out.cell 3 _ rfl
    have y0 := C_29.out.cell 0 _ rfl
    have tk1 : True := trivial
    go_wp2
    go_region_held3 (fun w' => w'.cell? ⟨b2, 0, none⟩ = some (.int .i64 (doS s0 (swapT a1 a2 (thingL (nowL s0) a1).mod)).rev) ∧ w'.cell? ⟨b2, 1, none⟩ = some (.int .i64 (doS s0 (swapT a1 a2 (thingL (nowL s0) a1).mod)).low) ∧ w'.cell? ⟨b2, 2, none⟩ = some (.slice A2 n1 c2) ∧ w'.cell? ⟨b2, 3, none⟩ = some (.slice B2 m1 d2) ∧ w'.cell? ⟨w.heap.size + 1, 0, none⟩ = some (.string a1)) (go_keep) (first
      | (go_at_call 15; have _t := tk1; clear _t tk1; (with_reducible refine (now_any (doS s0 (swapT a1 a2 (thingL (nowL s0) a1).mod)) A2 n1 c2 B2 m1 d2 _ (by first | exact K2_35.out.keep (new_drew W2) | exact K2_35.out.keep (then_ (new1 W2 _) (new_drew _)) | exact K2_35.out.keep (then_ (new_drew W2) (new1 _ _))) (by have := HL.out; omega)).mono ?_); rintro e w4 ⟨Af, nf, cf, rfl, h4, hb⟩; have H4 : Hid (Below W2.heap.size W2 w4) := Lib.hid (by first | exact then_ (new_drew W2) hb | exact then_ (then_ (new1 W2 _) (new_drew _)) hb | exact then_ (then_ (new_drew W2) (new1 _ _)) hb); (try (have Z4 : Hid (Own w4 W2.heap.size 63 zKV) := Lib.hid (((own_new W2 zKV 63).below (new_drew _)).below hb))); have G4 := Lib.hid h4; clear h4 hb; obtain ⟨hc4, hf4⟩ := bcell H4.out; have l4b := (R2_36.out.below H4.out).lt; have nl4b := Nat.ne_of_lt l4b; have nr4b := Nat.ne_of_gt l4b; have l4c := (C_29.out.below H4.out).lt; have nl4c := Nat.ne_of_lt l4c; have nr4c := Nat.ne_of_gt l4c; have tk2 : True := trivial)
      | (go_at_call 37; have _t := tk2; clear _t tk2; (with_reducible refine (find_is Af nf cf (nowL (doS s0 (swapT a1 a2 (thingL (nowL s0) a1).mod))) a1 _ (by first | exact G4.out | exact G4.out.keep (new1 _ _)) (by have h1 := G4.out.len; have h2 := M1.out.now.len; omega)).mono ?_); rintro e w5 ⟨rfl, hb⟩; rw [SF.out.2.2.2]; have H5 : Hid (Below W2.heap.size W2 w5) := Lib.hid (by first | exact then_ H4.out hb | exact then_ (then_ H4.out (new1 _ _)) hb); (first | (have Z5 := Lib.hid (Z4.out.below hb)) | (have Z5 : Hid (Own w5 w4.heap.size 63 zKV) := Lib.hid ((own_new w4 zKV 63).below hb)) | skip); (first | (have zf := Z5.out.frozen; have zl := Z5.out.lt; have z0 := Z5.out.cell 0 _ rfl; have z1 := Z5.out.cell 1 _ rfl; have z2 := Z5.out.cell 2 _ rfl; have z3 := Z5.out.cell 3 _ rfl; have z4 := Z5.out.cell 4 _ rfl; have z5 := Z5.out.cell 5 _ rfl) | skip); clear hb; have q4 := H4.out.size; clear hc4 hf4; obtain ⟨hc5, hf5⟩ := bcell H5.out; have l5b := (R2_36.out.below H5.out).lt; have nl5b := Nat.ne_of_lt l5b; have nr5b := Nat.ne_of_gt l5b; have l5c := (C_29.out.below H5.out).lt; have nl5c := Nat.ne_of_lt l5c; have nr5c := Nat.ne_of_gt l5c))
    all_goals
      clear hc5 hf5
    all_goals
      go_wp2_with fail
      go_meet
      first
        | (with_reducible exact thing_last H5.out)
        | ((with_reducible refine thing_old Z5.out H5.out ?_); omega)
  case rest =>
  rename World => Y2
  obtain ⟨e2, rfl, rfl, ho, hb⟩ := hcut
  have S_52 := Lib.hid hb; clear hb
  have K_37 := Lib.hid (K_27.out.keep S_52.out)
  have X_38 := Lib.hid (X_28.out.below S_52.out)
  have C_39 := Lib.hid (C_29.out.below S_52.out)
  have V_40 := Lib.hid (V_30.out.below S_52.out)
  have T1_41 := Lib.hid (T1_31.out.below S_52.out)
  have K1_42 := Lib.hid (K1_32.out.keep S_52.out)
  have R1_43 := Lib.hid (R1_33.out.below S_52.out)
  have K2_44 := Lib.hid (K2_35.out.keep S_52.out)
  have R2_45 := Lib.hid (R2_36.out.below S_52.out)
  have B_46 := Lib.hid (then_ B_34.out S_52.out)
  clear K_27 X_28 C_29 V_30 T1_31 K1_32 R1_33 K2_35 R2_36 B_34
  clear S_52
  have T2_47 := Lib.hid (ho)
  clear ho
  have x0 := R1_43.out.cell 0 _ rfl
  have x1 := R1_43.out.cell 1 _ rfl
  have x2 := R1_43.out.cell 2 _ rfl
  have x3 := R1_43.out.cell 3 _ rfl
  have y0 := R2_45.out.cell 0 _ rfl
  have y1 := R2_45.out.cell 1 _ rfl
  have y2 := R2_45.out.cell 2 _ rfl
  have y3 := R2_45.out.cell 3 _ rfl
  have t1 := T2_47.out.cell 1 _ rfl
  have t3 := T2_47.out.cell 3 _ rfl
  have v0 := V_40.out.cell 0 _ rfl
  have s0_ := X_38.out.cell 0 _ rfl
  go_wp2_with fail
  refine (st_same (doS s0 (swapT a1 a2 (thingL (nowL s0) a1).mod)) A1 A2 n1 c1 c2 B1 B2 m1 d1 d2 _ K1_42.out K2_44.out (by have := HL.out; omega) (by have := HL.out; omega)).mono ?_; rintro e w21 ⟨rfl, hb⟩
  have S_48 := Lib.hid hb; clear hb
  have K_49 := Lib.hid (K_37.out.keep S_48.out)
  have X_50 := Lib.hid (X_38.out.below S_48.out)
  have C_51 := Lib.hid (C_39.out.below S_48.out)
  have V_52 := Lib.hid (V_40.out.below S_48.out)
  have T1_53 := Lib.hid (T1_41.out.below S_48.out)
  have K1_54 := Lib.hid (K1_42.out.keep S_48.out)
  have R1_55 := Lib.hid (R1_43.out.below S_48.out)
  have K2_56 := Lib.hid (K2_44.out.keep S_48.out)
  have R2_57 := Lib.hid (R2_45.out.below S_48.out)
  have T2_58 := Lib.hid (T2_47.out.below S_48.out)
  have B_59 := Lib.hid (then_ B_46.out S_48.out)
  clear K_37 X_38 C_39 V_40 T1_41 K1_42 R1_43 K2_44 R2_45 T2_47 B_46
  clear S_48
  clear x0 x1 x2 x3
  clear y0 y1 y2 y3
  clear t1 t3 v0 s0_
  have t1 : _ = some (Value.string _) := T2_58.out.cell 1 _ rfl
  have t3 : _ = some (Value.int .i64 _) := T2_58.out.cell 3 _ rfl
  have v0 := V_52.out.cell 0 _ rfl
  have s0_ := X_50.out.cell 0 _ rfl
  rw [SF.out.2.1] at t1
  rw [SF.out.2.2.1] at t3
  go_wp2_with fail
  refine (live_any _).mono ?_; rintro e w22 ⟨rfl, hb⟩
  have S_60 := Lib.hid hb; clear hb
  have K_61 := Lib.hid (K_49.out.keep S_60.out)
  have X_62 := Lib.hid (X_50.out.below S_60.out)
  have C_63 := Lib.hid (C_51.out.below S_60.out)
  have V_64 := Lib.hid (V_52.out.below S_60.out)
  have T1_65 := Lib.hid (T1_53.out.below S_60.out)
  have K1_66 := Lib.hid (K1_54.out.keep S_60.out)
  have R1_67 := Lib.hid (R1_55.out.below S_60.out)
  have K2_68 := Lib.hid (K2_56.out.keep S_60.out)
  have R2_69 := Lib.hid (R2_57.out.below S_60.out)
  have T2_70 := Lib.hid (T2_58.out.below S_60.out)
  have B_71 := Lib.hid (then_ B_59.out S_60.out)
  clear K_49 X_50 C_51 V_52 T1_53 K1_54 R1_55 K2_56 R2_57 T2_58 B_59
  clear S_60
  go_wp2
  go_ret
  exact ⟨rfl, B_71.out⟩
theorem walk (w : World) (s0 : St) (A0 : Option Addr) (n0 c0 : Nat) (B0 : Option Addr) (m0 d0 : Nat) (a1 a2 b2 : ByteArray) (k0 : StAt w s0 A0 n0 c0 B0 m0 d0) (w1 : a1.size ≤ maxLen) (w2 : a2.size ≤ maxLen) (u2 : b2.size ≤ maxLen) :
    Calls Try.prog 7 #[s0.agg A0 n0 c0 B0 m0 d0, .string a1, .agg #[.string a2, .string b2]] w fun e w' => e = .returned (.bool true) ∧ Below w.heap.size w w' := by
  cases hf : fewS s0 with
  | false => exact no_few w s0 A0 n0 c0 B0 m0 d0 a1 a2 b2 k0 w1 w2 u2 hf
  | true =>
    cases hm : mayB s0 with
    | false => exact no_may w s0 A0 n0 c0 B0 m0 d0 a1 a2 b2 k0 w1 w2 u2 hf hm
    | true =>
      by_cases h1 : a1.size ≤ 60
      · by_cases h2 : a2.size ≤ 60
        · by_cases h3 : b2.size ≤ 60
          · by_cases he : doE s0 (swapT a1 a2 (thingL (nowL s0) a1).mod) = 0
            · exact good w s0 A0 n0 c0 B0 m0 d0 a1 a2 b2 k0 w1 w2 u2 hf hm h1 h2 h3 he
            · exact err w s0 A0 n0 c0 B0 m0 d0 a1 a2 b2 k0 w1 w2 u2 hf hm h1 h2 h3 he
          · exact no_l3 w s0 A0 n0 c0 B0 m0 d0 a1 a2 b2 k0 w1 w2 u2 hf hm h1 h2 (by omega)
        · exact no_l2 w s0 A0 n0 c0 B0 m0 d0 a1 a2 b2 k0 w1 w2 u2 hf hm h1 (by omega)
      · exact no_l1 w s0 A0 n0 c0 B0 m0 d0 a1 a2 b2 k0 w1 w2 u2 hf hm (by omega)

theorem own : ownKnob Try.prog.godebug = none := by kernel_rfl
theorem laidOut : laidOutB Try.prog = true := by kernel_rfl

set_option maxRecDepth 100000 in
theorem lifted (os : Os) (started : os.Started) (H : Type) (enc : TypeId × Value → H) :
    ReturnsInHanded {} Try.checked os 7 .any (Rows.txnSwapsSpec.pre6 enc Try.prog Try.f7 Rows.txnSwapsRow.domain false) (Rows.txnSwapsSpec.post enc Try.prog Try.f7 false true false false) := by
  refine returnsInHanded_of_change (C := Try.checked) own started (by kernel_rfl) Try.func7
    (ChangeSpec.witness6 (enc := enc) (C := Try.checked) false ⟨#[], #[.agg #[.int .i64 0, .int .i64 0, .slice none 0 0, .slice none 0 0], .string ByteArray.empty, .agg #[.string ByteArray.empty, .string ByteArray.empty]], []⟩ 8 (by kernel_rfl) (by kernel_rfl) (by kernel_rfl) (by kernel_rfl)) ?_
  intro W base args ds gs before hval0 hW hcnd _
  have hval : ∀ (j : Nat) t v, Try.f7.params[j]? = some t → args[j]? = some v → Value.okWide Try.prog W .any base t v := hval0
  have hW' := hW
  obtain ⟨p, q, hA0, hV, rfl, hfz, hnd⟩ := hW
  have hA : DataW.TrodAll enc Try.prog W 0 (fun _ => true) true Try.f7.params.toList args.toList ds p := hA0
  rw [Try.params7] at hA hval
  obtain ⟨v0, vs0, d0, ds0, p0, q0, hargs, rfl, rfl, h0, r0⟩ := trodAll_cons hA
  obtain ⟨v1, vs1, d1, ds1, p1, q1, rfl, rfl, rfl, h1, r1⟩ := trodAll_cons r0
  obtain ⟨v2, vs2, d2, ds2, p2, q2, rfl, rfl, rfl, h2, r2⟩ := trodAll_cons r1
  obtain ⟨rfl, rfl, rfl⟩ := trodAll_nil r2
  obtain rfl : args = #[v0, v1, v2] := by cases args; simp_all
  obtain ⟨rfl, rfl⟩ := trodVars_none hV
  obtain ⟨s0, A0, n0, c0, B0, m0, d0, rfl, k0⟩ := open_st (hval 0 25 v0 rfl rfl) h0
  obtain ⟨a1, rfl, rfl, rfl, w1⟩ := open_string Try.underlying9 (hval 1 9 v1 rfl rfl) h1
  obtain ⟨a2, b2, rfl, rfl, rfl, w2, u2⟩ := open_two_string Try.underlying61 Try.underlying9 (by kernel_rfl) (by kernel_rfl) (hval 2 61 v2 rfl rfl) h2
  clear hA0 hval0
  refine (walk W s0 A0 n0 c0 B0 m0 d0 a1 a2 b2 k0 w1 w2 u2).mono fun e W' ⟨he, bel⟩ => ?_
  subst he
  exact ⟨_, rfl, _, _, _, [], _, [], hW', trodAll_mk1 (shut_bool Try.underlying4 _), (trodAll_cons_mk (Below.trod laidOut (by kernel_rfl) (of_decide_eq_true (by kernel_rfl)) h0 bel (fun x hx => hW'.lt x (by simp [hx]))) (trodAll_cons_mk (shut_string Try.underlying9 w1) (trodAll_cons_mk (shut_two_string Try.underlying61 Try.underlying9 (by kernel_rfl) (by kernel_rfl) w2 u2) trodAll_mk0))), rfl, bel.frame _, fun h => by cases h⟩

theorem over : Rows.txnSwapsRow.holds Try.pinned (OpenSpec.ofChange Rows.txnSwapsSpec) :=
  OpenClaim.holds_of_wide 7 Try.f7 rfl rfl rfl rfl rfl rfl rfl ⟨rfl, rfl, rfl, rfl, rfl⟩ rfl rfl rfl rfl rfl (by kernel_rfl) Try.func7 (by kernel_rfl)
    (of_decide_eq_true (by kernel_rfl)) (by unfold Func.isWrapper; first | (rw [if_pos (by decide +kernel)]; kernel_rfl) | (rw [if_neg (by decide +kernel)]; exact ⟨rfl, rfl⟩))
    (fun os started H enc _ => lifted os started H enc)

theorem proved : Rows.TxnSwapsSaid := over
#print axioms proved
end Go.Proofs.Ytgafkpngnoecaaa.txnSwaps
