/- For every store that may be, every key and any two values the law TxnPuts answers true: of two Puts of one key the second one changes nothing; a Drop takes away what the first one made, and a second Drop nothing more. No condition. -/
import Derived.Deep.RegionHeld3
import Derived.Deep.Cut
import Derived.Deep.DeepCutAuto
import Derived.Test.YtlffhehpeeiogaaTxLive
import Derived.Test.YtlffhehpeeiogaaTxPutPure
import Derived.Test.YtlffhehpeeiogaaTxRef
import Derived.Test.YtlffhehpeeiogaaKeyTwo
import Derived.Test.YtlffhehpeeiogaaMvOpen
namespace Go.Proofs.Ytlffhehpeeiogaa.txnPuts
open Go.ChangeShapes Go.WideShapes Go.ChangeAt Go.RowKit Go.Proofs.Ytlffhehpeeiogaa.P
open Go.ChangeMaps (open_string shut_string)
set_option linter.unusedVariables false
set_option linter.unusedSimpArgs false
set_option maxHeartbeats 20000000
set_option maxRecDepth 100000

theorem find_isA (A : Option Addr) (n c : Nat) (l : List KV) (k : ByteArray) (w : World) (h : KVs w A n c l) (hn : n ≤ 1000000) :
    Calls Try.prog 49 #[.slice A n c, .string k] w fun e w' => e = .returned (.tuple #[(thingL l k).agg, .bool (findL l k).isSome]) ∧ Below w.heap.size w w' := by
  have t := find_ref A n c l k w h hn
  cases hf : findL l k with
  | none =>
    rw [hf] at t
    have hx : thingL l k = ⟨⟨#[]⟩, ⟨#[]⟩, 0, 0, 0, 0⟩ := by unfold thingL; rw [hf]; rfl
    rw [hx]
    exact t.mono fun e w' h => ⟨h.none_.1, h.none_.2⟩
  | some y =>
    rw [hf] at t
    have hx : thingL l k = y := by unfold thingL; rw [hf]; rfl
    rw [hx]
    exact t.mono fun e w' h => ⟨h.some_.1, h.some_.2⟩
theorem no_few (w : World) (s0 : St) (A0 : Option Addr) (n0 c0 : Nat) (B0 : Option Addr) (m0 d0 : Nat) (a1 a2 b2 : ByteArray) (k0 : StAt w s0 A0 n0 c0 B0 m0 d0) (w1 : a1.size ≤ maxLen) (w2 : a2.size ≤ maxLen) (u2 : b2.size ≤ maxLen) (hf : fewS s0 = false) :
    Calls Try.prog 13 #[s0.agg A0 n0 c0 B0 m0 d0, .string a1, .agg #[.string a2, .string b2]] w fun e w' => e = .returned (.bool true) ∧ Below w.heap.size w w' := by
  unfold maxLen at w1 w2 u2
  have HF := Lib.hid hf; clear hf
  have bb := then_ (new1 w (.cells (stCells s0 A0 n0 c0 B0 m0 d0) 25)) (new1 _ (.cells #[.string a2, .string b2] 71))
  have K_0 := Lib.hid (k0.keep bb)
  have X_0 := Lib.hid ((own_new w (stCells s0 A0 n0 c0 B0 m0 d0) 25).alloc (.cells #[.string a2, .string b2] 71))
  have V_0 := Lib.hid (own_new2 w (.cells (stCells s0 A0 n0 c0 B0 m0 d0) 25) #[.string a2, .string b2] 71)
  have B_0 := Lib.hid bb
  clear bb k0
  go_enter Try.func13, Try.ntmps13
  have x0 := X_0.out.cell 0 _ rfl
  have x1 := X_0.out.cell 1 _ rfl
  have x2 := X_0.out.cell 2 _ rfl
  have x3 := X_0.out.cell 3 _ rfl
  go_wp2_with fail
  refine (few_st s0 A0 n0 c0 B0 m0 d0 _ K_0.out).mono ?_; rintro e w1 ⟨rfl, hb⟩
  rw [HF.out]
  have S_1 := Lib.hid hb; clear hb
  have K_2 := Lib.hid (K_0.out.keep S_1.out)
  have X_3 := Lib.hid (X_0.out.below S_1.out)
  have V_4 := Lib.hid (V_0.out.below S_1.out)
  have B_5 := Lib.hid (then_ B_0.out S_1.out)
  clear K_0 X_0 V_0 B_0
  clear S_1
  clear x0 x1 x2 x3
  go_wp2_with fail
  refine (live_any _).mono ?_; rintro e w2 ⟨rfl, hb⟩
  have S_6 := Lib.hid hb; clear hb
  have K_7 := Lib.hid (K_2.out.keep S_6.out)
  have X_8 := Lib.hid (X_3.out.below S_6.out)
  have V_9 := Lib.hid (V_4.out.below S_6.out)
  have B_10 := Lib.hid (then_ B_5.out S_6.out)
  clear K_2 X_3 V_4 B_5
  clear S_6
  go_wp2
  go_ret
  exact ⟨rfl, B_10.out⟩
theorem no_may (w : World) (s0 : St) (A0 : Option Addr) (n0 c0 : Nat) (B0 : Option Addr) (m0 d0 : Nat) (a1 a2 b2 : ByteArray) (k0 : StAt w s0 A0 n0 c0 B0 m0 d0) (w1 : a1.size ≤ maxLen) (w2 : a2.size ≤ maxLen) (u2 : b2.size ≤ maxLen) (hf : fewS s0 = true) (hm : mayB s0 = false) :
    Calls Try.prog 13 #[s0.agg A0 n0 c0 B0 m0 d0, .string a1, .agg #[.string a2, .string b2]] w fun e w' => e = .returned (.bool true) ∧ Below w.heap.size w w' := by
  unfold maxLen at w1 w2 u2
  have HF := Lib.hid hf; clear hf
  have HM := Lib.hid hm; clear hm
  have bb := then_ (new1 w (.cells (stCells s0 A0 n0 c0 B0 m0 d0) 25)) (new1 _ (.cells #[.string a2, .string b2] 71))
  have K_0 := Lib.hid (k0.keep bb)
  have X_0 := Lib.hid ((own_new w (stCells s0 A0 n0 c0 B0 m0 d0) 25).alloc (.cells #[.string a2, .string b2] 71))
  have V_0 := Lib.hid (own_new2 w (.cells (stCells s0 A0 n0 c0 B0 m0 d0) 25) #[.string a2, .string b2] 71)
  have B_0 := Lib.hid bb
  clear bb k0
  go_enter Try.func13, Try.ntmps13
  have x0 := X_0.out.cell 0 _ rfl
  have x1 := X_0.out.cell 1 _ rfl
  have x2 := X_0.out.cell 2 _ rfl
  have x3 := X_0.out.cell 3 _ rfl
  go_wp2_with fail
  refine (few_st s0 A0 n0 c0 B0 m0 d0 _ K_0.out).mono ?_; rintro e w1 ⟨rfl, hb⟩
  rw [HF.out]
  have S_1 := Lib.hid hb; clear hb
  have K_2 := Lib.hid (K_0.out.keep S_1.out)
  have X_3 := Lib.hid (X_0.out.below S_1.out)
  have V_4 := Lib.hid (V_0.out.below S_1.out)
  have B_5 := Lib.hid (then_ B_0.out S_1.out)
  clear K_0 X_0 V_0 B_0
  clear S_1
  clear x0 x1 x2 x3
  have x0 := X_3.out.cell 0 _ rfl
  have x1 := X_3.out.cell 1 _ rfl
  have x2 := X_3.out.cell 2 _ rfl
  have x3 := X_3.out.cell 3 _ rfl
  go_wp2_with fail
  refine (mvmay_any s0 A0 n0 c0 B0 m0 d0 _ K_2.out).mono ?_; rintro e w2 ⟨rfl, hb⟩
  rw [HM.out]
  have S_6 := Lib.hid hb; clear hb
  have K_7 := Lib.hid (K_2.out.keep S_6.out)
  have X_8 := Lib.hid (X_3.out.below S_6.out)
  have V_9 := Lib.hid (V_4.out.below S_6.out)
  have B_10 := Lib.hid (then_ B_5.out S_6.out)
  clear K_2 X_3 V_4 B_5
  clear S_6
  clear x0 x1 x2 x3
  go_wp2_with fail
  refine (live_any _).mono ?_; rintro e w3 ⟨rfl, hb⟩
  have S_11 := Lib.hid hb; clear hb
  have K_12 := Lib.hid (K_7.out.keep S_11.out)
  have X_13 := Lib.hid (X_8.out.below S_11.out)
  have V_14 := Lib.hid (V_9.out.below S_11.out)
  have B_15 := Lib.hid (then_ B_10.out S_11.out)
  clear K_7 X_8 V_9 B_10
  clear S_11
  go_wp2
  go_ret
  exact ⟨rfl, B_15.out⟩
theorem no_l1 (w : World) (s0 : St) (A0 : Option Addr) (n0 c0 : Nat) (B0 : Option Addr) (m0 d0 : Nat) (a1 a2 b2 : ByteArray) (k0 : StAt w s0 A0 n0 c0 B0 m0 d0) (w1 : a1.size ≤ maxLen) (w2 : a2.size ≤ maxLen) (u2 : b2.size ≤ maxLen) (hf : fewS s0 = true) (hm : mayB s0 = true) (h1 : 60 < a1.size) :
    Calls Try.prog 13 #[s0.agg A0 n0 c0 B0 m0 d0, .string a1, .agg #[.string a2, .string b2]] w fun e w' => e = .returned (.bool true) ∧ Below w.heap.size w w' := by
  unfold maxLen at w1 w2 u2
  have HF := Lib.hid hf; clear hf
  have HM := Lib.hid hm; clear hm
  have bb := then_ (new1 w (.cells (stCells s0 A0 n0 c0 B0 m0 d0) 25)) (new1 _ (.cells #[.string a2, .string b2] 71))
  have K_0 := Lib.hid (k0.keep bb)
  have X_0 := Lib.hid ((own_new w (stCells s0 A0 n0 c0 B0 m0 d0) 25).alloc (.cells #[.string a2, .string b2] 71))
  have V_0 := Lib.hid (own_new2 w (.cells (stCells s0 A0 n0 c0 B0 m0 d0) 25) #[.string a2, .string b2] 71)
  have B_0 := Lib.hid bb
  clear bb k0
  go_enter Try.func13, Try.ntmps13
  have x0 := X_0.out.cell 0 _ rfl
  have x1 := X_0.out.cell 1 _ rfl
  have x2 := X_0.out.cell 2 _ rfl
  have x3 := X_0.out.cell 3 _ rfl
  go_wp2_with fail
  refine (few_st s0 A0 n0 c0 B0 m0 d0 _ K_0.out).mono ?_; rintro e w1 ⟨rfl, hb⟩
  rw [HF.out]
  have S_1 := Lib.hid hb; clear hb
  have K_2 := Lib.hid (K_0.out.keep S_1.out)
  have X_3 := Lib.hid (X_0.out.below S_1.out)
  have V_4 := Lib.hid (V_0.out.below S_1.out)
  have B_5 := Lib.hid (then_ B_0.out S_1.out)
  clear K_0 X_0 V_0 B_0
  clear S_1
  clear x0 x1 x2 x3
  have x0 := X_3.out.cell 0 _ rfl
  have x1 := X_3.out.cell 1 _ rfl
  have x2 := X_3.out.cell 2 _ rfl
  have x3 := X_3.out.cell 3 _ rfl
  go_wp2_with fail
  refine (mvmay_any s0 A0 n0 c0 B0 m0 d0 _ K_2.out).mono ?_; rintro e w2 ⟨rfl, hb⟩
  rw [HM.out]
  have S_6 := Lib.hid hb; clear hb
  have K_7 := Lib.hid (K_2.out.keep S_6.out)
  have X_8 := Lib.hid (X_3.out.below S_6.out)
  have V_9 := Lib.hid (V_4.out.below S_6.out)
  have B_10 := Lib.hid (then_ B_5.out S_6.out)
  clear K_2 X_3 V_4 B_5
  clear S_6
  clear x0 x1 x2 x3
  have v0 := V_9.out.cell 0 _ rfl
  have v1 := V_9.out.cell 1 _ rfl
  go_wp2_with fail
  refine (live_any _).mono ?_; rintro e w3 ⟨rfl, hb⟩
  have S_11 := Lib.hid hb; clear hb
  have K_12 := Lib.hid (K_7.out.keep S_11.out)
  have X_13 := Lib.hid (X_8.out.below S_11.out)
  have V_14 := Lib.hid (V_9.out.below S_11.out)
  have B_15 := Lib.hid (then_ B_10.out S_11.out)
  clear K_7 X_8 V_9 B_10
  clear S_11
  go_wp2
  go_ret
  exact ⟨rfl, B_15.out⟩
theorem no_l2 (w : World) (s0 : St) (A0 : Option Addr) (n0 c0 : Nat) (B0 : Option Addr) (m0 d0 : Nat) (a1 a2 b2 : ByteArray) (k0 : StAt w s0 A0 n0 c0 B0 m0 d0) (w1 : a1.size ≤ maxLen) (w2 : a2.size ≤ maxLen) (u2 : b2.size ≤ maxLen) (hf : fewS s0 = true) (hm : mayB s0 = true) (h1 : a1.size ≤ 60) (h2 : 60 < a2.size) :
    Calls Try.prog 13 #[s0.agg A0 n0 c0 B0 m0 d0, .string a1, .agg #[.string a2, .string b2]] w fun e w' => e = .returned (.bool true) ∧ Below w.heap.size w w' := by
  unfold maxLen at w1 w2 u2
  have HF := Lib.hid hf; clear hf
  have HM := Lib.hid hm; clear hm
  have bb := then_ (new1 w (.cells (stCells s0 A0 n0 c0 B0 m0 d0) 25)) (new1 _ (.cells #[.string a2, .string b2] 71))
  have K_0 := Lib.hid (k0.keep bb)
  have X_0 := Lib.hid ((own_new w (stCells s0 A0 n0 c0 B0 m0 d0) 25).alloc (.cells #[.string a2, .string b2] 71))
  have V_0 := Lib.hid (own_new2 w (.cells (stCells s0 A0 n0 c0 B0 m0 d0) 25) #[.string a2, .string b2] 71)
  have B_0 := Lib.hid bb
  clear bb k0
  go_enter Try.func13, Try.ntmps13
  have x0 := X_0.out.cell 0 _ rfl
  have x1 := X_0.out.cell 1 _ rfl
  have x2 := X_0.out.cell 2 _ rfl
  have x3 := X_0.out.cell 3 _ rfl
  go_wp2_with fail
  refine (few_st s0 A0 n0 c0 B0 m0 d0 _ K_0.out).mono ?_; rintro e w1 ⟨rfl, hb⟩
  rw [HF.out]
  have S_1 := Lib.hid hb; clear hb
  have K_2 := Lib.hid (K_0.out.keep S_1.out)
  have X_3 := Lib.hid (X_0.out.below S_1.out)
  have V_4 := Lib.hid (V_0.out.below S_1.out)
  have B_5 := Lib.hid (then_ B_0.out S_1.out)
  clear K_0 X_0 V_0 B_0
  clear S_1
  clear x0 x1 x2 x3
  have x0 := X_3.out.cell 0 _ rfl
  have x1 := X_3.out.cell 1 _ rfl
  have x2 := X_3.out.cell 2 _ rfl
  have x3 := X_3.out.cell 3 _ rfl
  go_wp2_with fail
  refine (mvmay_any s0 A0 n0 c0 B0 m0 d0 _ K_2.out).mono ?_; rintro e w2 ⟨rfl, hb⟩
  rw [HM.out]
  have S_6 := Lib.hid hb; clear hb
  have K_7 := Lib.hid (K_2.out.keep S_6.out)
  have X_8 := Lib.hid (X_3.out.below S_6.out)
  have V_9 := Lib.hid (V_4.out.below S_6.out)
  have B_10 := Lib.hid (then_ B_5.out S_6.out)
  clear K_2 X_3 V_4 B_5
  clear S_6
  clear x0 x1 x2 x3
  have v0 := V_9.out.cell 0 _ rfl
  have v1 := V_9.out.cell 1 _ rfl
  go_wp2_with fail
  refine (live_any _).mono ?_; rintro e w3 ⟨rfl, hb⟩
  have S_11 := Lib.hid hb; clear hb
  have K_12 := Lib.hid (K_7.out.keep S_11.out)
  have X_13 := Lib.hid (X_8.out.below S_11.out)
  have V_14 := Lib.hid (V_9.out.below S_11.out)
  have B_15 := Lib.hid (then_ B_10.out S_11.out)
  clear K_7 X_8 V_9 B_10
  clear S_11
  go_wp2
  go_ret
  exact ⟨rfl, B_15.out⟩
theorem no_l3 (w : World) (s0 : St) (A0 : Option Addr) (n0 c0 : Nat) (B0 : Option Addr) (m0 d0 : Nat) (a1 a2 b2 : ByteArray) (k0 : StAt w s0 A0 n0 c0 B0 m0 d0) (w1 : a1.size ≤ maxLen) (w2 : a2.size ≤ maxLen) (u2 : b2.size ≤ maxLen) (hf : fewS s0 = true) (hm : mayB s0 = true) (h1 : a1.size ≤ 60) (h2 : a2.size ≤ 60) (h3 : 60 < b2.size) :
    Calls Try.prog 13 #[s0.agg A0 n0 c0 B0 m0 d0, .string a1, .agg #[.string a2, .string b2]] w fun e w' => e = .returned (.bool true) ∧ Below w.heap.size w w' := by
  unfold maxLen at w1 w2 u2
  have HF := Lib.hid hf; clear hf
  have HM := Lib.hid hm; clear hm
  have bb := then_ (new1 w (.cells (stCells s0 A0 n0 c0 B0 m0 d0) 25)) (new1 _ (.cells #[.string a2, .string b2] 71))
  have K_0 := Lib.hid (k0.keep bb)
  have X_0 := Lib.hid ((own_new w (stCells s0 A0 n0 c0 B0 m0 d0) 25).alloc (.cells #[.string a2, .string b2] 71))
  have V_0 := Lib.hid (own_new2 w (.cells (stCells s0 A0 n0 c0 B0 m0 d0) 25) #[.string a2, .string b2] 71)
  have B_0 := Lib.hid bb
  clear bb k0
  go_enter Try.func13, Try.ntmps13
  have x0 := X_0.out.cell 0 _ rfl
  have x1 := X_0.out.cell 1 _ rfl
  have x2 := X_0.out.cell 2 _ rfl
  have x3 := X_0.out.cell 3 _ rfl
  go_wp2_with fail
  refine (few_st s0 A0 n0 c0 B0 m0 d0 _ K_0.out).mono ?_; rintro e w1 ⟨rfl, hb⟩
  rw [HF.out]
  have S_1 := Lib.hid hb; clear hb
  have K_2 := Lib.hid (K_0.out.keep S_1.out)
  have X_3 := Lib.hid (X_0.out.below S_1.out)
  have V_4 := Lib.hid (V_0.out.below S_1.out)
  have B_5 := Lib.hid (then_ B_0.out S_1.out)
  clear K_0 X_0 V_0 B_0
  clear S_1
  clear x0 x1 x2 x3
  have x0 := X_3.out.cell 0 _ rfl
  have x1 := X_3.out.cell 1 _ rfl
  have x2 := X_3.out.cell 2 _ rfl
  have x3 := X_3.out.cell 3 _ rfl
  go_wp2_with fail
  refine (mvmay_any s0 A0 n0 c0 B0 m0 d0 _ K_2.out).mono ?_; rintro e w2 ⟨rfl, hb⟩
  rw [HM.out]
  have S_6 := Lib.hid hb; clear hb
  have K_7 := Lib.hid (K_2.out.keep S_6.out)
  have X_8 := Lib.hid (X_3.out.below S_6.out)
  have V_9 := Lib.hid (V_4.out.below S_6.out)
  have B_10 := Lib.hid (then_ B_5.out S_6.out)
  clear K_2 X_3 V_4 B_5
  clear S_6
  clear x0 x1 x2 x3
  have v0 := V_9.out.cell 0 _ rfl
  have v1 := V_9.out.cell 1 _ rfl
  go_wp2_with fail
  refine (live_any _).mono ?_; rintro e w3 ⟨rfl, hb⟩
  have S_11 := Lib.hid hb; clear hb
  have K_12 := Lib.hid (K_7.out.keep S_11.out)
  have X_13 := Lib.hid (X_8.out.below S_11.out)
  have V_14 := Lib.hid (V_9.out.below S_11.out)
  have B_15 := Lib.hid (then_ B_10.out S_11.out)
  clear K_7 X_8 V_9 B_10
  clear S_11
  go_wp2
  go_ret
  exact ⟨rfl, B_15.out⟩
theorem err (w : World) (s0 : St) (A0 : Option Addr) (n0 c0 : Nat) (B0 : Option Addr) (m0 d0 : Nat) (a1 a2 b2 : ByteArray) (k0 : StAt w s0 A0 n0 c0 B0 m0 d0) (w1 : a1.size ≤ maxLen) (w2 : a2.size ≤ maxLen) (u2 : b2.size ≤ maxLen) (hf : fewS s0 = true) (hm : mayB s0 = true) (h1 : a1.size ≤ 60) (h2 : a2.size ≤ 60) (h3 : b2.size ≤ 60) (he : doE s0 (putT a1 a2 1) ≠ 0) :
    Calls Try.prog 13 #[s0.agg A0 n0 c0 B0 m0 d0, .string a1, .agg #[.string a2, .string b2]] w fun e w' => e = .returned (.bool true) ∧ Below w.heap.size w w' := by
  unfold maxLen at w1 w2 u2
  have HF := Lib.hid hf; have HM := Lib.hid hm; have MS := Lib.hid (may_st.1 hm)
  have hb0 := k0.kv.len; have hb1 := k0.ev.len; have hb2 := MS.out.good.len; have hb3 := MS.out.len
  have HN : Hid (n0 + m0 ≤ 90000) := Lib.hid (by omega)
  have Z1 : Hid (a1.size ≤ maxLen) := Lib.hid (by unfold maxLen; omega); have Z2 : Hid (a2.size ≤ maxLen) := Lib.hid (by unfold maxLen; omega); have Z3 : Hid (b2.size ≤ maxLen) := Lib.hid (by unfold maxLen; omega)
  have M1 := Lib.hid (do_may MS.out (putT a1 a2 1))
  have DS := Lib.hid (do_same he)
  have he1 : (doE s0 (putT a1 a2 1) != 0) = true := by simp [he]
  clear hf hm he hb0 hb1 hb2 hb3
  have bb := then_ (new1 w (.cells (stCells s0 A0 n0 c0 B0 m0 d0) 25)) (new1 _ (.cells #[.string a2, .string b2] 71))
  have K_0 := Lib.hid (k0.keep bb)
  have X_0 := Lib.hid ((own_new w (stCells s0 A0 n0 c0 B0 m0 d0) 25).alloc (.cells #[.string a2, .string b2] 71))
  have V_0 := Lib.hid (own_new2 w (.cells (stCells s0 A0 n0 c0 B0 m0 d0) 25) #[.string a2, .string b2] 71)
  have B_0 := Lib.hid bb
  clear bb k0
  go_enter Try.func13, Try.ntmps13
  have x0 := X_0.out.cell 0 _ rfl
  have x1 := X_0.out.cell 1 _ rfl
  have x2 := X_0.out.cell 2 _ rfl
  have x3 := X_0.out.cell 3 _ rfl
  go_wp2_with fail
  refine (few_st s0 A0 n0 c0 B0 m0 d0 _ K_0.out).mono ?_; rintro e w1 ⟨rfl, hb⟩
  rw [HF.out]
  have S_1 := Lib.hid hb; clear hb
  have K_2 := Lib.hid (K_0.out.keep S_1.out)
  have X_3 := Lib.hid (X_0.out.below S_1.out)
  have V_4 := Lib.hid (V_0.out.below S_1.out)
  have B_5 := Lib.hid (then_ B_0.out S_1.out)
  clear K_0 X_0 V_0 B_0
  clear S_1
  clear x0 x1 x2 x3
  have x0 := X_3.out.cell 0 _ rfl
  have x1 := X_3.out.cell 1 _ rfl
  have x2 := X_3.out.cell 2 _ rfl
  have x3 := X_3.out.cell 3 _ rfl
  go_wp2_with fail
  refine (mvmay_any s0 A0 n0 c0 B0 m0 d0 _ K_2.out).mono ?_; rintro e w2 ⟨rfl, hb⟩
  rw [HM.out]
  have S_6 := Lib.hid hb; clear hb
  have K_7 := Lib.hid (K_2.out.keep S_6.out)
  have X_8 := Lib.hid (X_3.out.below S_6.out)
  have V_9 := Lib.hid (V_4.out.below S_6.out)
  have B_10 := Lib.hid (then_ B_5.out S_6.out)
  clear K_2 X_3 V_4 B_5
  clear S_6
  clear x0 x1 x2 x3
  have v0 := V_9.out.cell 0 _ rfl
  have v1 := V_9.out.cell 1 _ rfl
  go_upto_region 3 with fail
  clear v0 v1
  go_cut [7, 8, 9, 10] (fun p1 p2 p3 p4 wx => Done s0 false [] (doE s0 (putT a1 a2 1)) w2 p1 p2 p3 p4 wx)
  case first =>
    have lb := X_8.out.lt; have nlb := Nat.ne_of_lt lb; have nrb := Nat.ne_of_gt lb
    have x0 := X_8.out.cell 0 _ rfl
    have x1 := X_8.out.cell 1 _ rfl
    have x2 := X_8.out.cell 2 _ rfl
    have x3 := X_8.out.cell 3 _ rfl
    have lev := V_9.out.lt; have nlev := Nat.ne_of_lt lev; have nrev := Nat.ne_of_gt lev
    have y0 := V_9.out.cell 0 _ rfl
    have tk1 : True := trivial
    go_wp2
    go_region_held3 (fun w' => w'.cell? ⟨w.heap.size, 0, none⟩ = some (.int .i64 s0.rev) ∧ w'.cell? ⟨w.heap.size, 1, none⟩ = some (.int .i64 s0.low) ∧ w'.cell? ⟨w.heap.size, 2, none⟩ = some (.slice A0 n0 c0) ∧ w'.cell? ⟨w.heap.size, 3, none⟩ = some (.slice B0 m0 d0) ∧ w'.cell? ⟨w.heap.size + 1, 0, none⟩ = some (.string a2)) (go_keep) (first
      | (go_at_call 40; have _t := tk1; clear _t tk1; (with_reducible refine (put_any a1 a2 1 _ Z1.out Z2.out (by simp [inI])).mono ?_); rintro e w4 ⟨Ax, nx, cx, Bx, mx, dx, Cx, ox, ex, rfl, h4, hb⟩; have H4 : Hid (Below w2.heap.size w2 w4) := Lib.hid (by first | exact then_ (new_drew w2) hb | exact then_ (then_ (new1 w2 _) (new_drew _)) hb | exact then_ (then_ (new_drew w2) (new1 _ _)) hb); (try (have Z4 : Hid (Own w4 w2.heap.size 25 zSt) := Lib.hid (((own_new w2 zSt 25).below (new_drew _)).below hb))); have G4 := Lib.hid h4; clear h4 hb; obtain ⟨hc4, hf4⟩ := bcell H4.out; have l4b := (X_8.out.below H4.out).lt; have nl4b := Nat.ne_of_lt l4b; have nr4b := Nat.ne_of_gt l4b; have l4ev := (V_9.out.below H4.out).lt; have nl4ev := Nat.ne_of_lt l4ev; have nr4ev := Nat.ne_of_gt l4ev; have tk2 : True := trivial)
      | (go_at_call 38; have _t := tk2; clear _t tk2; (with_reducible refine ((do_any s0 A0 n0 c0 B0 m0 d0 (putT a1 a2 1) Ax nx cx Bx mx dx Cx ox ex _ (by first | exact K_7.out.keep H4.out | exact K_7.out.keep (then_ H4.out (new1 _ _))) (by first | exact G4.out | exact G4.out.keep (new1 _ _)) MS.out).mono fun e w' k => do_of (x := doE s0 (putT a1 a2 1)) (es := []) ⟨rfl, DS.out.1, DS.out.2.1, DS.out.2.2⟩ k).mono ?_); rintro e w5 ⟨A5, n5, c5, B5, m5, d5, E5, en5, ec5, rfl, h5, v5, hb⟩; have H5 : Hid (Below w2.heap.size w2 w5) := Lib.hid (by first | exact then_ H4.out hb | exact then_ (then_ H4.out (new1 _ _)) hb); (first | (have Z5 := Lib.hid (Z4.out.below hb)) | (have Z5 : Hid (Own w5 w4.heap.size 25 zSt) := Lib.hid ((own_new w4 zSt 25).below hb)) | skip); (first | (have zf := Z5.out.frozen; have zl := Z5.out.lt; have z0 := Z5.out.cell 0 _ rfl; have z1 := Z5.out.cell 1 _ rfl; have z2 := Z5.out.cell 2 _ rfl; have z3 := Z5.out.cell 3 _ rfl) | skip); have K5 := Lib.hid h5; have V5 := Lib.hid v5; clear h5 v5 hb; have q4 := H4.out.size; clear hc4 hf4; obtain ⟨hc5, hf5⟩ := bcell H5.out; have l5b := (X_8.out.below H5.out).lt; have nl5b := Nat.ne_of_lt l5b; have nr5b := Nat.ne_of_gt l5b; have l5ev := (V_9.out.below H5.out).lt; have nl5ev := Nat.ne_of_lt l5ev; have nr5ev := Nat.ne_of_gt l5ev))
    all_goals
      clear hc5 hf5
    all_goals
      go_wp2_with fail
      go_meet
      first
        | exact done_last K5.out V5.out H5.out
        | exact done_old Z5.out K5.out V5.out H5.out (by omega)
  case rest =>
  rename World => W1
  obtain ⟨b1, A1, n1, c1, B1, m1, d1, E1, en1, ec1, rfl, rfl, rfl, rfl, hk, hv, ho, hb⟩ := hcut
  have S_1 := Lib.hid hb; clear hb
  have K_11 := Lib.hid (K_7.out.keep S_1.out)
  have X_12 := Lib.hid (X_8.out.below S_1.out)
  have V_13 := Lib.hid (V_9.out.below S_1.out)
  have B_14 := Lib.hid (then_ B_10.out S_1.out)
  clear K_7 X_8 V_9 B_10
  clear S_1
  have K1_15 := Lib.hid (hk)
  have R1_16 := Lib.hid (ho)
  clear hk hv ho
  obtain rfl : n0 = n1 := K_11.out.kv.len.symm.trans K1_15.out.kv.len
  obtain rfl : m0 = m1 := K_11.out.ev.len.symm.trans K1_15.out.ev.len
  have HL : Hid (n0 + m0 ≤ 90000) := Lib.hid HN.out
  have x0 := X_12.out.cell 0 _ rfl
  have x1 := X_12.out.cell 1 _ rfl
  have x2 := X_12.out.cell 2 _ rfl
  have x3 := X_12.out.cell 3 _ rfl
  have y0 := R1_16.out.cell 0 _ rfl
  have y1 := R1_16.out.cell 1 _ rfl
  have y2 := R1_16.out.cell 2 _ rfl
  have y3 := R1_16.out.cell 3 _ rfl
  go_wp2_with fail
  refine (st_same s0 A0 A1 n0 c0 c1 B0 B1 m0 d0 d1 _ K_11.out K1_15.out (by have := HL.out; omega) (by have := HL.out; omega)).mono ?_; rintro e w11 ⟨rfl, hb⟩
  have S_17 := Lib.hid hb; clear hb
  have K_18 := Lib.hid (K_11.out.keep S_17.out)
  have X_19 := Lib.hid (X_12.out.below S_17.out)
  have V_20 := Lib.hid (V_13.out.below S_17.out)
  have K1_21 := Lib.hid (K1_15.out.keep S_17.out)
  have R1_22 := Lib.hid (R1_16.out.below S_17.out)
  have B_23 := Lib.hid (then_ B_14.out S_17.out)
  clear K_11 X_12 V_13 K1_15 R1_16 B_14
  clear S_17
  clear x0 x1 x2 x3
  clear y0 y1 y2 y3
  go_wp2_with fail
  refine (live_any _).mono ?_; rintro e w12 ⟨rfl, hb⟩
  have S_24 := Lib.hid hb; clear hb
  have K_25 := Lib.hid (K_18.out.keep S_24.out)
  have X_26 := Lib.hid (X_19.out.below S_24.out)
  have V_27 := Lib.hid (V_20.out.below S_24.out)
  have K1_28 := Lib.hid (K1_21.out.keep S_24.out)
  have R1_29 := Lib.hid (R1_22.out.below S_24.out)
  have B_30 := Lib.hid (then_ B_23.out S_24.out)
  clear K_18 X_19 V_20 K1_21 R1_22 B_23
  clear S_24
  go_wp2
  go_ret
  exact ⟨rfl, B_30.out⟩
theorem idle (w : World) (s0 : St) (A0 : Option Addr) (n0 c0 : Nat) (B0 : Option Addr) (m0 d0 : Nat) (a1 a2 b2 : ByteArray) (k0 : StAt w s0 A0 n0 c0 B0 m0 d0) (w1 : a1.size ≤ maxLen) (w2 : a2.size ≤ maxLen) (u2 : b2.size ≤ maxLen) (hf : fewS s0 = true) (hm : mayB s0 = true) (h1 : a1.size ≤ 60) (h2 : a2.size ≤ 60) (h3 : b2.size ≤ 60) (he : doE s0 (putT a1 a2 1) = 0) (hy : doY s0 (putT a1 a2 1) = false) :
    Calls Try.prog 13 #[s0.agg A0 n0 c0 B0 m0 d0, .string a1, .agg #[.string a2, .string b2]] w fun e w' => e = .returned (.bool true) ∧ Below w.heap.size w w' := by
  unfold maxLen at w1 w2 u2
  have HF := Lib.hid hf; have HM := Lib.hid hm; have MS := Lib.hid (may_st.1 hm)
  have hb0 := k0.kv.len; have hb1 := k0.ev.len; have hb2 := MS.out.good.len; have hb3 := MS.out.len
  have HN : Hid (n0 + m0 ≤ 90000) := Lib.hid (by omega)
  have Z1 : Hid (a1.size ≤ maxLen) := Lib.hid (by unfold maxLen; omega); have Z2 : Hid (a2.size ≤ maxLen) := Lib.hid (by unfold maxLen; omega); have Z3 : Hid (b2.size ≤ maxLen) := Lib.hid (by unfold maxLen; omega)
  have M1 := Lib.hid (do_may MS.out (putT a1 a2 1))
  have HE := Lib.hid he; have HY := Lib.hid hy
  have HS := Lib.hid (put_no MS.out he hy)
  have AG := put_again (v2 := b2) (l2 := 2) MS.out he; rw [put_no MS.out he hy] at AG
  have HT : Hid ((findL (nowL s0) a1).isSome = true) := Lib.hid (by have h := put_yes MS.out he; rw [hy] at h; cases hh : (findL (nowL s0) a1).isSome with | true => rfl | false => rw [hh] at h; cases h)
  have GA := Lib.hid AG; clear AG
  clear hf hm he hb0 hb1 hb2 hb3 hy
  have bb := then_ (new1 w (.cells (stCells s0 A0 n0 c0 B0 m0 d0) 25)) (new1 _ (.cells #[.string a2, .string b2] 71))
  have K_0 := Lib.hid (k0.keep bb)
  have X_0 := Lib.hid ((own_new w (stCells s0 A0 n0 c0 B0 m0 d0) 25).alloc (.cells #[.string a2, .string b2] 71))
  have V_0 := Lib.hid (own_new2 w (.cells (stCells s0 A0 n0 c0 B0 m0 d0) 25) #[.string a2, .string b2] 71)
  have B_0 := Lib.hid bb
  clear bb k0
  go_enter Try.func13, Try.ntmps13
  have x0 := X_0.out.cell 0 _ rfl
  have x1 := X_0.out.cell 1 _ rfl
  have x2 := X_0.out.cell 2 _ rfl
  have x3 := X_0.out.cell 3 _ rfl
  go_wp2_with fail
  refine (few_st s0 A0 n0 c0 B0 m0 d0 _ K_0.out).mono ?_; rintro e w1 ⟨rfl, hb⟩
  rw [HF.out]
  have S_1 := Lib.hid hb; clear hb
  have K_2 := Lib.hid (K_0.out.keep S_1.out)
  have X_3 := Lib.hid (X_0.out.below S_1.out)
  have V_4 := Lib.hid (V_0.out.below S_1.out)
  have B_5 := Lib.hid (then_ B_0.out S_1.out)
  clear K_0 X_0 V_0 B_0
  clear S_1
  clear x0 x1 x2 x3
  have x0 := X_3.out.cell 0 _ rfl
  have x1 := X_3.out.cell 1 _ rfl
  have x2 := X_3.out.cell 2 _ rfl
  have x3 := X_3.out.cell 3 _ rfl
  go_wp2_with fail
  refine (mvmay_any s0 A0 n0 c0 B0 m0 d0 _ K_2.out).mono ?_; rintro e w2 ⟨rfl, hb⟩
  rw [HM.out]
  have S_6 := Lib.hid hb; clear hb
  have K_7 := Lib.hid (K_2.out.keep S_6.out)
  have X_8 := Lib.hid (X_3.out.below S_6.out)
  have V_9 := Lib.hid (V_4.out.below S_6.out)
  have B_10 := Lib.hid (then_ B_5.out S_6.out)
  clear K_2 X_3 V_4 B_5
  clear S_6
  clear x0 x1 x2 x3
  have v0 := V_9.out.cell 0 _ rfl
  have v1 := V_9.out.cell 1 _ rfl
  go_upto_region 3 with fail
  clear v0 v1
  go_cut [7, 8, 9, 10] (fun p1 p2 p3 p4 wx => Done s0 false (doV s0 (putT a1 a2 1)) 0 w2 p1 p2 p3 p4 wx)
  case first =>
    have lb := X_8.out.lt; have nlb := Nat.ne_of_lt lb; have nrb := Nat.ne_of_gt lb
    have x0 := X_8.out.cell 0 _ rfl
    have x1 := X_8.out.cell 1 _ rfl
    have x2 := X_8.out.cell 2 _ rfl
    have x3 := X_8.out.cell 3 _ rfl
    have lev := V_9.out.lt; have nlev := Nat.ne_of_lt lev; have nrev := Nat.ne_of_gt lev
    have y0 := V_9.out.cell 0 _ rfl
    have tk1 : True := trivial
    go_wp2
    go_region_held3 (fun w' => w'.cell? ⟨w.heap.size, 0, none⟩ = some (.int .i64 s0.rev) ∧ w'.cell? ⟨w.heap.size, 1, none⟩ = some (.int .i64 s0.low) ∧ w'.cell? ⟨w.heap.size, 2, none⟩ = some (.slice A0 n0 c0) ∧ w'.cell? ⟨w.heap.size, 3, none⟩ = some (.slice B0 m0 d0) ∧ w'.cell? ⟨w.heap.size + 1, 0, none⟩ = some (.string a2)) (go_keep) (first
      | (go_at_call 40; have _t := tk1; clear _t tk1; (with_reducible refine (put_any a1 a2 1 _ Z1.out Z2.out (by simp [inI])).mono ?_); rintro e w4 ⟨Ax, nx, cx, Bx, mx, dx, Cx, ox, ex, rfl, h4, hb⟩; have H4 : Hid (Below w2.heap.size w2 w4) := Lib.hid (by first | exact then_ (new_drew w2) hb | exact then_ (then_ (new1 w2 _) (new_drew _)) hb | exact then_ (then_ (new_drew w2) (new1 _ _)) hb); (try (have Z4 : Hid (Own w4 w2.heap.size 25 zSt) := Lib.hid (((own_new w2 zSt 25).below (new_drew _)).below hb))); have G4 := Lib.hid h4; clear h4 hb; obtain ⟨hc4, hf4⟩ := bcell H4.out; have l4b := (X_8.out.below H4.out).lt; have nl4b := Nat.ne_of_lt l4b; have nr4b := Nat.ne_of_gt l4b; have l4ev := (V_9.out.below H4.out).lt; have nl4ev := Nat.ne_of_lt l4ev; have nr4ev := Nat.ne_of_gt l4ev; have tk2 : True := trivial)
      | (go_at_call 38; have _t := tk2; clear _t tk2; (with_reducible refine ((do_any s0 A0 n0 c0 B0 m0 d0 (putT a1 a2 1) Ax nx cx Bx mx dx Cx ox ex _ (by first | exact K_7.out.keep H4.out | exact K_7.out.keep (then_ H4.out (new1 _ _))) (by first | exact G4.out | exact G4.out.keep (new1 _ _)) MS.out).mono fun e w' k => do_of (es := doV s0 (putT a1 a2 1)) ⟨HE.out, HS.out, rfl, HY.out⟩ k).mono ?_); rintro e w5 ⟨A5, n5, c5, B5, m5, d5, E5, en5, ec5, rfl, h5, v5, hb⟩; have H5 : Hid (Below w2.heap.size w2 w5) := Lib.hid (by first | exact then_ H4.out hb | exact then_ (then_ H4.out (new1 _ _)) hb); (first | (have Z5 := Lib.hid (Z4.out.below hb)) | (have Z5 : Hid (Own w5 w4.heap.size 25 zSt) := Lib.hid ((own_new w4 zSt 25).below hb)) | skip); (first | (have zf := Z5.out.frozen; have zl := Z5.out.lt; have z0 := Z5.out.cell 0 _ rfl; have z1 := Z5.out.cell 1 _ rfl; have z2 := Z5.out.cell 2 _ rfl; have z3 := Z5.out.cell 3 _ rfl) | skip); have K5 := Lib.hid h5; have V5 := Lib.hid v5; clear h5 v5 hb; have q4 := H4.out.size; clear hc4 hf4; obtain ⟨hc5, hf5⟩ := bcell H5.out; have l5b := (X_8.out.below H5.out).lt; have nl5b := Nat.ne_of_lt l5b; have nr5b := Nat.ne_of_gt l5b; have l5ev := (V_9.out.below H5.out).lt; have nl5ev := Nat.ne_of_lt l5ev; have nr5ev := Nat.ne_of_gt l5ev))
    all_goals
      clear hc5 hf5
    all_goals
      go_wp2_with fail
      go_meet
      first
        | exact done_last K5.out V5.out H5.out
        | exact done_old Z5.out K5.out V5.out H5.out (by omega)
  case rest =>
  rename World => W1
  obtain ⟨b1, A1, n1, c1, B1, m1, d1, E1, en1, ec1, rfl, rfl, rfl, rfl, hk, hv, ho, hb⟩ := hcut
  have S_1 := Lib.hid hb; clear hb
  have K_11 := Lib.hid (K_7.out.keep S_1.out)
  have X_12 := Lib.hid (X_8.out.below S_1.out)
  have V_13 := Lib.hid (V_9.out.below S_1.out)
  have B_14 := Lib.hid (then_ B_10.out S_1.out)
  clear K_7 X_8 V_9 B_10
  clear S_1
  have K1_15 := Lib.hid (hk)
  have R1_16 := Lib.hid (ho)
  clear hk hv ho
  obtain rfl : n0 = n1 := K_11.out.kv.len.symm.trans K1_15.out.kv.len
  obtain rfl : m0 = m1 := K_11.out.ev.len.symm.trans K1_15.out.ev.len
  have HL : Hid (n0 + m0 ≤ 90000) := Lib.hid HN.out
  have x0 := X_12.out.cell 0 _ rfl
  have x1 := X_12.out.cell 1 _ rfl
  have x2 := X_12.out.cell 2 _ rfl
  have x3 := X_12.out.cell 3 _ rfl
  go_wp2_with fail
  refine (now_any s0 A0 n0 c0 B0 m0 d0 _ K_11.out (by have := HN.out; omega)).mono ?_; rintro e w11 ⟨Af, nf, cf, rfl, hq, hb⟩
  have S_17 := Lib.hid hb; clear hb
  have K_18 := Lib.hid (K_11.out.keep S_17.out)
  have X_19 := Lib.hid (X_12.out.below S_17.out)
  have V_20 := Lib.hid (V_13.out.below S_17.out)
  have K1_21 := Lib.hid (K1_15.out.keep S_17.out)
  have R1_22 := Lib.hid (R1_16.out.below S_17.out)
  have B_23 := Lib.hid (then_ B_14.out S_17.out)
  clear K_11 X_12 V_13 K1_15 R1_16 B_14
  clear S_17
  have NQ_24 := Lib.hid (hq)
  clear hq
  clear x0 x1 x2 x3
  obtain ⟨x, hx⟩ : ∃ x, x = thingL (nowL s0) a1 := ⟨_, rfl⟩
  have HX := Lib.hid hx; clear hx
  go_wp2_with fail
  refine (find_isA Af nf cf (nowL s0) a1 _ NQ_24.out (by have h1 := NQ_24.out.len; have h2 := MS.out.now.len; omega)).mono ?_; rintro e w12 ⟨rfl, hb⟩
  rw [← HX.out, HT.out]
  have S_25 := Lib.hid hb; clear hb
  have K_26 := Lib.hid (K_18.out.keep S_25.out)
  have X_27 := Lib.hid (X_19.out.below S_25.out)
  have V_28 := Lib.hid (V_20.out.below S_25.out)
  have K1_29 := Lib.hid (K1_21.out.keep S_25.out)
  have R1_30 := Lib.hid (R1_22.out.below S_25.out)
  have NQ_31 := Lib.hid (NQ_24.out.keep S_25.out)
  have B_32 := Lib.hid (then_ B_23.out S_25.out)
  clear K_18 X_19 V_20 K1_21 R1_22 NQ_24 B_23
  clear S_25
  go_upto_region 7 with fail
  have K_33 := Lib.hid (K_26.out.keep (new1 w12 (x.obj 45)))
  have X_34 := Lib.hid (X_27.out.below (new1 w12 (x.obj 45)))
  have V_35 := Lib.hid (V_28.out.below (new1 w12 (x.obj 45)))
  have K1_36 := Lib.hid (K1_29.out.keep (new1 w12 (x.obj 45)))
  have R1_37 := Lib.hid (R1_30.out.below (new1 w12 (x.obj 45)))
  have NQ_38 := Lib.hid (NQ_31.out.keep (new1 w12 (x.obj 45)))
  have B_39 := Lib.hid (then_ B_32.out (new1 w12 (x.obj 45)))
  clear K_26 X_27 V_28 K1_29 R1_30 NQ_31 B_32
  obtain ⟨WA, hWA⟩ : ∃ WA, WA = w12.alloc (x.obj 45) := ⟨_, rfl⟩
  rw [← hWA]
  rw [← hWA] at K_33 X_34 V_35 K1_36 R1_37 NQ_38 B_39
  clear hWA
  clear NQ_38
  go_cut [13, 14, 15, 16] (fun p1 p2 p3 p4 wx => Done s0 false [] 0 WA p1 p2 p3 p4 wx)
  case first =>
    have lb := R1_37.out.lt; have nlb := Nat.ne_of_lt lb; have nrb := Nat.ne_of_gt lb
    have x0 := R1_37.out.cell 0 _ rfl
    have x1 := R1_37.out.cell 1 _ rfl
    have x2 := R1_37.out.cell 2 _ rfl
    have x3 := R1_37.out.cell 3 _ rfl
    have lev := V_35.out.lt; have nlev := Nat.ne_of_lt lev; have nrev := Nat.ne_of_gt lev
    have y0 := V_35.out.cell 1 _ rfl
    have tk1 : True := trivial
    go_wp2
    go_region_held3 (fun w' => w'.cell? ⟨b1, 0, none⟩ = some (.int .i64 s0.rev) ∧ w'.cell? ⟨b1, 1, none⟩ = some (.int .i64 s0.low) ∧ w'.cell? ⟨b1, 2, none⟩ = some (.slice A1 n0 c1) ∧ w'.cell? ⟨b1, 3, none⟩ = some (.slice B1 m0 d1) ∧ w'.cell? ⟨w.heap.size + 1, 1, none⟩ = some (.string b2)) (go_keep) (first
      | (go_at_call 40; have _t := tk1; clear _t tk1; (with_reducible refine (put_any a1 b2 2 _ Z1.out Z3.out (by simp [inI])).mono ?_); rintro e w4 ⟨Ax, nx, cx, Bx, mx, dx, Cx, ox, ex, rfl, h4, hb⟩; have H4 : Hid (Below WA.heap.size WA w4) := Lib.hid (by first | exact then_ (new_drew WA) hb | exact then_ (then_ (new1 WA _) (new_drew _)) hb | exact then_ (then_ (new_drew WA) (new1 _ _)) hb); (try (have Z4 : Hid (Own w4 WA.heap.size 25 zSt) := Lib.hid (((own_new WA zSt 25).below (new_drew _)).below hb))); have G4 := Lib.hid h4; clear h4 hb; obtain ⟨hc4, hf4⟩ := bcell H4.out; have l4b := (R1_37.out.below H4.out).lt; have nl4b := Nat.ne_of_lt l4b; have nr4b := Nat.ne_of_gt l4b; have l4ev := (V_35.out.below H4.out).lt; have nl4ev := Nat.ne_of_lt l4ev; have nr4ev := Nat.ne_of_gt l4ev; have tk2 : True := trivial)
      | (go_at_call 38; have _t := tk2; clear _t tk2; (with_reducible refine ((do_any s0 A1 n0 c1 B1 m0 d1 (putT a1 b2 2) Ax nx cx Bx mx dx Cx ox ex _ (by first | exact K1_36.out.keep H4.out | exact K1_36.out.keep (then_ H4.out (new1 _ _))) (by first | exact G4.out | exact G4.out.keep (new1 _ _)) MS.out).mono fun e w' k => do_of GA.out k).mono ?_); rintro e w5 ⟨A5, n5, c5, B5, m5, d5, E5, en5, ec5, rfl, h5, v5, hb⟩; have H5 : Hid (Below WA.heap.size WA w5) := Lib.hid (by first | exact then_ H4.out hb | exact then_ (then_ H4.out (new1 _ _)) hb); (first | (have Z5 := Lib.hid (Z4.out.below hb)) | (have Z5 : Hid (Own w5 w4.heap.size 25 zSt) := Lib.hid ((own_new w4 zSt 25).below hb)) | skip); (first | (have zf := Z5.out.frozen; have zl := Z5.out.lt; have z0 := Z5.out.cell 0 _ rfl; have z1 := Z5.out.cell 1 _ rfl; have z2 := Z5.out.cell 2 _ rfl; have z3 := Z5.out.cell 3 _ rfl) | skip); have K5 := Lib.hid h5; have V5 := Lib.hid v5; clear h5 v5 hb; have q4 := H4.out.size; clear hc4 hf4; obtain ⟨hc5, hf5⟩ := bcell H5.out; have l5b := (R1_37.out.below H5.out).lt; have nl5b := Nat.ne_of_lt l5b; have nr5b := Nat.ne_of_gt l5b; have l5ev := (V_35.out.below H5.out).lt; have nl5ev := Nat.ne_of_lt l5ev; have nr5ev := Nat.ne_of_gt l5ev))
    all_goals
      clear hc5 hf5
    all_goals
      go_wp2_with fail
      go_meet
      first
        | exact done_last K5.out V5.out H5.out
        | exact done_old Z5.out K5.out V5.out H5.out (by omega)
  case rest =>
  rename World => W2
  obtain ⟨b2, A2, n2, c2, B2, m2, d2, E2, en2, ec2, rfl, rfl, rfl, rfl, hk, hv, ho, hb⟩ := hcut
  have S_2 := Lib.hid hb; clear hb
  have K_40 := Lib.hid (K_33.out.keep S_2.out)
  have X_41 := Lib.hid (X_34.out.below S_2.out)
  have V_42 := Lib.hid (V_35.out.below S_2.out)
  have K1_43 := Lib.hid (K1_36.out.keep S_2.out)
  have R1_44 := Lib.hid (R1_37.out.below S_2.out)
  have B_45 := Lib.hid (then_ B_39.out S_2.out)
  clear K_33 X_34 V_35 K1_36 R1_37 B_39
  clear S_2
  have K2_46 := Lib.hid (hk)
  have R2_47 := Lib.hid (ho)
  clear hk hv ho
  obtain rfl : n0 = n2 := K1_43.out.kv.len.symm.trans K2_46.out.kv.len
  obtain rfl : m0 = m2 := K1_43.out.ev.len.symm.trans K2_46.out.ev.len
  have x0 := R1_44.out.cell 0 _ rfl
  have x1 := R1_44.out.cell 1 _ rfl
  have x2 := R1_44.out.cell 2 _ rfl
  have x3 := R1_44.out.cell 3 _ rfl
  have y0 := R2_47.out.cell 0 _ rfl
  have y1 := R2_47.out.cell 1 _ rfl
  have y2 := R2_47.out.cell 2 _ rfl
  have y3 := R2_47.out.cell 3 _ rfl
  go_wp2_with fail
  refine (st_same s0 A1 A2 n0 c1 c2 B1 B2 m0 d1 d2 _ K1_43.out K2_46.out (by have := HL.out; omega) (by have := HL.out; omega)).mono ?_; rintro e w21 ⟨rfl, hb⟩
  have S_48 := Lib.hid hb; clear hb
  have K_49 := Lib.hid (K_40.out.keep S_48.out)
  have X_50 := Lib.hid (X_41.out.below S_48.out)
  have V_51 := Lib.hid (V_42.out.below S_48.out)
  have K1_52 := Lib.hid (K1_43.out.keep S_48.out)
  have R1_53 := Lib.hid (R1_44.out.below S_48.out)
  have K2_54 := Lib.hid (K2_46.out.keep S_48.out)
  have R2_55 := Lib.hid (R2_47.out.below S_48.out)
  have B_56 := Lib.hid (then_ B_45.out S_48.out)
  clear K_40 X_41 V_42 K1_43 R1_44 K2_46 R2_47 B_45
  clear S_48
  clear x0 x1 x2 x3
  clear y0 y1 y2 y3
  have x0 := X_50.out.cell 0 _ rfl
  have x1 := X_50.out.cell 1 _ rfl
  have x2 := X_50.out.cell 2 _ rfl
  have x3 := X_50.out.cell 3 _ rfl
  have y0 := R1_53.out.cell 0 _ rfl
  have y1 := R1_53.out.cell 1 _ rfl
  have y2 := R1_53.out.cell 2 _ rfl
  have y3 := R1_53.out.cell 3 _ rfl
  go_wp2_with fail
  refine (st_same s0 A0 A1 n0 c0 c1 B0 B1 m0 d0 d1 _ K_49.out K1_52.out (by have := HL.out; omega) (by have := HL.out; omega)).mono ?_; rintro e w22 ⟨rfl, hb⟩
  have S_57 := Lib.hid hb; clear hb
  have K_58 := Lib.hid (K_49.out.keep S_57.out)
  have X_59 := Lib.hid (X_50.out.below S_57.out)
  have V_60 := Lib.hid (V_51.out.below S_57.out)
  have K1_61 := Lib.hid (K1_52.out.keep S_57.out)
  have R1_62 := Lib.hid (R1_53.out.below S_57.out)
  have K2_63 := Lib.hid (K2_54.out.keep S_57.out)
  have R2_64 := Lib.hid (R2_55.out.below S_57.out)
  have B_65 := Lib.hid (then_ B_56.out S_57.out)
  clear K_49 X_50 V_51 K1_52 R1_53 K2_54 R2_55 B_56
  clear S_57
  clear x0 x1 x2 x3
  clear y0 y1 y2 y3
  go_wp2_with fail
  refine (live_any _).mono ?_; rintro e w23 ⟨rfl, hb⟩
  have S_66 := Lib.hid hb; clear hb
  have K_67 := Lib.hid (K_58.out.keep S_66.out)
  have X_68 := Lib.hid (X_59.out.below S_66.out)
  have V_69 := Lib.hid (V_60.out.below S_66.out)
  have K1_70 := Lib.hid (K1_61.out.keep S_66.out)
  have R1_71 := Lib.hid (R1_62.out.below S_66.out)
  have K2_72 := Lib.hid (K2_63.out.keep S_66.out)
  have R2_73 := Lib.hid (R2_64.out.below S_66.out)
  have B_74 := Lib.hid (then_ B_65.out S_66.out)
  clear K_58 X_59 V_60 K1_61 R1_62 K2_63 R2_64 B_65
  clear S_66
  go_wp2
  go_ret
  exact ⟨rfl, B_74.out⟩
end Go.Proofs.Ytlffhehpeeiogaa.txnPuts
