/- For every machine, every two numbers and every value the law LockStarts answers true: how a machine starts, how it joins, and what it asks are the document's. -/
import Derived.Test.YtnpknpgmlkaplaaDoorKeyLaid
import Derived.Test.YtnpknpgmlkaplaaDoorKeyTwo
import Derived.Test.YtnpknpgmlkaplaaDoorKvOpen
import Derived.Test.YtnpknpgmlkaplaaDoorLkLive
import Derived.Test.YtnpknpgmlkaplaaDoorMcAskR
import Derived.Test.YtnpknpgmlkaplaaDoorMcSame
import Derived.Test.YtnpknpgmlkaplaaDoorMcStep
import Derived.Test.YtnpknpgmlkaplaaDoorMcOpen
import Derived.Lib.QuietBelow
namespace Go.Proofs.YtnpknpgmlkaplaaDoor.lockStarts
open Go.ChangeShapes Go.WideShapes Go.ChangeAt Go.RowKit Go.Sort Go.Proofs.YtnpknpgmlkaplaaDoor.P
open Go.ChangeMaps (open_string shut_string)
set_option linter.unusedVariables false
set_option linter.unusedSimpArgs false
set_option maxHeartbeats 4000000
set_option maxRecDepth 100000

theorem start_ok (kind : Int) (name : ByteArray) (n : Int) (v : ByteArray) (hk : inI kind) (hn : name.size ≤ maxLen) (h : inI n) (hv : v.size ≤ maxLen) : (startL kind name n v).1.ok := by
  have z : inI 0 := ⟨by decide, by decide⟩
  have o : inI 1 := ⟨by decide, by decide⟩
  have e : (⟨#[]⟩ : ByteArray).size ≤ maxLen := by unfold maxLen; decide
  unfold startL
  split
  · refine ⟨hk, hn, ?_, ?_, e, z, o, z, z, z⟩
    · show inI (if kind = 4 then n else 0)
      split
      · exact h
      · exact z
    · show (if kind = 5 then v else signB kind).size ≤ maxLen
      split
      · exact hv
      · unfold signB; split
        · unfold maxLen; decide
        · split
          · unfold maxLen; decide
          · exact e
  · exact ⟨z, e, z, e, e, z, z, z, z, z⟩
theorem bare (w : World) (m0 : Mc) (a1 b1 : Int) (a2 : ByteArray) (k0 : m0.ok) (hs : short16B m0 = false) (hL : Letters w) :
    Calls Tryd.prog 3 #[m0.agg, .agg #[.int .i64 a1, .int .i64 b1], .string a2] w fun e w' => e = .returned (.bool true) ∧ Below w.heap.size w w' := by
  have HS := Lib.hid hs; clear hs
  have b0 := then_ (new1 w (.cells (mcc m0) 24)) (new1 _ (.cells #[.int .i64 a1, .int .i64 b1] 25))
  have X0 := Lib.hid ((own_new w (mcc m0) 24).alloc (.cells #[.int .i64 a1, .int .i64 b1] 25))
  have B0 := Lib.hid b0
  have L0 := Lib.hid (hL.below b0)
  clear b0 hL
  go_enter Tryd.func3, Tryd.ntmps3
  have x0 := X0.out.cell 0 _ rfl
  have x1 := X0.out.cell 1 _ rfl
  have x2 := X0.out.cell 2 _ rfl
  have x3 := X0.out.cell 3 _ rfl
  have x4 := X0.out.cell 4 _ rfl
  have x5 := X0.out.cell 5 _ rfl
  have x6 := X0.out.cell 6 _ rfl
  have x7 := X0.out.cell 7 _ rfl
  have x8 := X0.out.cell 8 _ rfl
  have x9 := X0.out.cell 9 _ rfl
  go_wp2_with fail
  refine (short16_any m0 _ k0).mono ?_; rintro e w1 ⟨rfl, hb⟩
  rw [HS.out]
  have B1 := Lib.hid (then_ B0.out hb)
  have L1 := Lib.hid (L0.out.below hb)
  clear hb x0 x1 x2 x3 x4 x5 x6 x7 x8 x9
  go_wp2_with fail
  refine (lklive_any _ L1.out).mono ?_; rintro e w2 ⟨rfl, hb⟩
  have B2 := Lib.hid (then_ B1.out hb); clear hb
  go_wp2
  go_ret
  exact ⟨rfl, B2.out⟩
theorem long (w : World) (m0 : Mc) (a1 b1 : Int) (a2 : ByteArray) (k0 : m0.ok) (hs : short16B m0 = true) (hv : ¬ a2.size ≤ 60) (hL : Letters w) :
    Calls Tryd.prog 3 #[m0.agg, .agg #[.int .i64 a1, .int .i64 b1], .string a2] w fun e w' => e = .returned (.bool true) ∧ Below w.heap.size w w' := by
  have HS := Lib.hid hs; clear hs
  have v1 : (60 : Int) < (a2.size : Int) := by omega
  have b0 := then_ (new1 w (.cells (mcc m0) 24)) (new1 _ (.cells #[.int .i64 a1, .int .i64 b1] 25))
  have X0 := Lib.hid ((own_new w (mcc m0) 24).alloc (.cells #[.int .i64 a1, .int .i64 b1] 25))
  have B0 := Lib.hid b0
  have L0 := Lib.hid (hL.below b0)
  clear b0 hL
  go_enter Tryd.func3, Tryd.ntmps3
  have x0 := X0.out.cell 0 _ rfl
  have x1 := X0.out.cell 1 _ rfl
  have x2 := X0.out.cell 2 _ rfl
  have x3 := X0.out.cell 3 _ rfl
  have x4 := X0.out.cell 4 _ rfl
  have x5 := X0.out.cell 5 _ rfl
  have x6 := X0.out.cell 6 _ rfl
  have x7 := X0.out.cell 7 _ rfl
  have x8 := X0.out.cell 8 _ rfl
  have x9 := X0.out.cell 9 _ rfl
  go_wp2_with fail
  refine (short16_any m0 _ k0).mono ?_; rintro e w1 ⟨rfl, hb⟩
  rw [HS.out]
  have B1 := Lib.hid (then_ B0.out hb)
  have L1 := Lib.hid (L0.out.below hb)
  clear hb x0 x1 x2 x3 x4 x5 x6 x7 x8 x9
  go_wp2_with fail
  refine (lklive_any _ L1.out).mono ?_; rintro e w2 ⟨rfl, hb⟩
  have B2 := Lib.hid (then_ B1.out hb); clear hb
  go_wp2
  go_ret
  exact ⟨rfl, B2.out⟩
theorem main (w : World) (m0 : Mc) (a1 b1 : Int) (a2 : ByteArray) (k0 : m0.ok) (w1 : inI a1) (u1 : inI b1) (hs : short16B m0 = true) (hv : a2.size ≤ 60) (hL : Letters w) :
    Calls Tryd.prog 3 #[m0.agg, .agg #[.int .i64 a1, .int .i64 b1], .string a2] w fun e w' => e = .returned (.bool true) ∧ Below w.heap.size w w' := by
  have HS := Lib.hid hs; clear hs
  have v1 : ¬ ((60 : Int) < (a2.size : Int)) := by omega
  have hv2 : a2.size ≤ maxLen := by unfold maxLen; omega
  have OK := Lib.hid (start_ok m0.kind m0.name a1 a2 k0.kind k0.name w1 hv2)
  have hbb : ∀ b : Bool, (b == b) = true := fun b => by simp
  have b0 := then_ (new1 w (.cells (mcc m0) 24)) (new1 _ (.cells #[.int .i64 a1, .int .i64 b1] 25))
  have X0 := Lib.hid ((own_new w (mcc m0) 24).alloc (.cells #[.int .i64 a1, .int .i64 b1] 25))
  have Y0 := Lib.hid (own_new2 w (.cells (mcc m0) 24) #[.int .i64 a1, .int .i64 b1] 25)
  have B0 := Lib.hid b0
  have L0 := Lib.hid (hL.below b0)
  have CS := fun w => start_any m0.kind m0.name a1 a2 w k0.name hv2
  have CSR := fun w => startr_any m0.kind m0.name a1 a2 w k0.name hv2
  generalize startL m0.kind m0.name a1 a2 = st at *
  obtain ⟨x, a⟩ := st
  have CA := fun w => ask_any m0 w k0
  have CAR := fun w => askr_any m0 w k0
  generalize askL m0 = aq at *
  obtain ⟨⟨kind, once, key, rev, iff, thn⟩, c⟩ := aq
  have eqlx := eql_mc_same
  clear b0 hL
  go_enter Tryd.func3, Tryd.ntmps3
  have x0 := X0.out.cell 0 _ rfl
  have x1 := X0.out.cell 1 _ rfl
  have x2 := X0.out.cell 2 _ rfl
  have x3 := X0.out.cell 3 _ rfl
  have x4 := X0.out.cell 4 _ rfl
  have x5 := X0.out.cell 5 _ rfl
  have x6 := X0.out.cell 6 _ rfl
  have x7 := X0.out.cell 7 _ rfl
  have x8 := X0.out.cell 8 _ rfl
  have x9 := X0.out.cell 9 _ rfl
  go_wp2_with fail
  refine (short16_any m0 _ k0).mono ?_; rintro e w1 ⟨rfl, hb⟩
  rw [HS.out]
  have B1 := Lib.hid (then_ B0.out hb)
  have L1 := Lib.hid (L0.out.below hb)
  have X1 := Lib.hid (X0.out.below hb)
  have Y1 := Lib.hid (Y0.out.below hb)
  clear hb x0 x1 x2 x3 x4 x5 x6 x7 x8 x9 B0 L0 X0 Y0
  have x0 := X1.out.cell 0 _ rfl
  have x1 := X1.out.cell 1 _ rfl
  have x2 := X1.out.cell 2 _ rfl
  have x3 := X1.out.cell 3 _ rfl
  have x4 := X1.out.cell 4 _ rfl
  have x5 := X1.out.cell 5 _ rfl
  have x6 := X1.out.cell 6 _ rfl
  have x7 := X1.out.cell 7 _ rfl
  have x8 := X1.out.cell 8 _ rfl
  have x9 := X1.out.cell 9 _ rfl
  have y0 := Y1.out.cell 0 _ rfl
  have y1 := Y1.out.cell 1 _ rfl
  go_wp2_with fail
  refine (CS _).mono ?_; rintro e w2 ⟨rfl, hb⟩
  have N_ := Lib.hid (own_new w2 #[.int .i64 0, .string ⟨#[]⟩, .int .i64 0, .string ⟨#[]⟩, .string ⟨#[]⟩, .int .i64 0, .int .i64 0, .int .i64 0, .int .i64 0, .int .i64 0] 24)
  have bz := below_setRow (new1 w2 (.cells #[.int .i64 0, .string ⟨#[]⟩, .int .i64 0, .string ⟨#[]⟩, .string ⟨#[]⟩, .int .i64 0, .int .i64 0, .int .i64 0, .int .i64 0, .int .i64 0] 24)) (Nat.le_refl _) (mcc x)
  have B2 := Lib.hid (then_ (then_ B1.out hb) bz)
  have L2 := Lib.hid ((L1.out.below hb).below bz)
  have X2 := Lib.hid ((X1.out.below hb).below bz)
  have Y2 := Lib.hid ((Y1.out.below hb).below bz)
  have P2 := Lib.hid (N_.out.row (mcc x))
  clear x0 x1 x2 x3 x4 x5 x6 x7 x8 x9 y0 y1
  clear hb bz B1 L1 X1 Y1
  have x0 := X2.out.cell 0 _ rfl
  have x1 := X2.out.cell 1 _ rfl
  have x2 := X2.out.cell 2 _ rfl
  have x3 := X2.out.cell 3 _ rfl
  have x4 := X2.out.cell 4 _ rfl
  have x5 := X2.out.cell 5 _ rfl
  have x6 := X2.out.cell 6 _ rfl
  have x7 := X2.out.cell 7 _ rfl
  have x8 := X2.out.cell 8 _ rfl
  have x9 := X2.out.cell 9 _ rfl
  have y0 := Y2.out.cell 0 _ rfl
  have y1 := Y2.out.cell 1 _ rfl
  go_wp2_with (refine wpList_store_row rfl 24 _ _ rfl _ _ rfl rfl 24 _ N_.out.ex (by kernel_rfl) rfl (by simp [Value.oneCell']) ?_)
  clear N_
  generalize (w2.alloc (.cells #[.int .i64 0, .string ⟨#[]⟩, .int .i64 0, .string ⟨#[]⟩, .string ⟨#[]⟩, .int .i64 0, .int .i64 0, .int .i64 0, .int .i64 0, .int .i64 0] 24)).setRow w2.heap.size (mcc x) = W2 at *
  generalize w2.heap.size = g2 at *
  refine (CSR _).mono ?_; rintro e w3 ⟨rfl, hb⟩
  have N_ := Lib.hid (own_new w3 #[.int .i64 0, .string ⟨#[]⟩, .int .i64 0, .string ⟨#[]⟩, .string ⟨#[]⟩, .int .i64 0, .int .i64 0, .int .i64 0, .int .i64 0, .int .i64 0] 24)
  have bz := below_setRow (new1 w3 (.cells #[.int .i64 0, .string ⟨#[]⟩, .int .i64 0, .string ⟨#[]⟩, .string ⟨#[]⟩, .int .i64 0, .int .i64 0, .int .i64 0, .int .i64 0, .int .i64 0] 24)) (Nat.le_refl _) (mcc x)
  have B3 := Lib.hid (then_ (then_ B2.out hb) bz)
  have L3 := Lib.hid ((L2.out.below hb).below bz)
  have X3 := Lib.hid ((X2.out.below hb).below bz)
  have Y3 := Lib.hid ((Y2.out.below hb).below bz)
  have P3 := Lib.hid ((P2.out.below hb).below bz)
  have Q3 := Lib.hid (N_.out.row (mcc x))
  clear x0 x1 x2 x3 x4 x5 x6 x7 x8 x9 y0 y1
  clear hb bz B2 L2 X2 Y2 P2
  have x0 := X3.out.cell 0 _ rfl
  have x1 := X3.out.cell 1 _ rfl
  have x2 := X3.out.cell 2 _ rfl
  have x3 := X3.out.cell 3 _ rfl
  have x4 := X3.out.cell 4 _ rfl
  have x5 := X3.out.cell 5 _ rfl
  have x6 := X3.out.cell 6 _ rfl
  have x7 := X3.out.cell 7 _ rfl
  have x8 := X3.out.cell 8 _ rfl
  have x9 := X3.out.cell 9 _ rfl
  go_wp2_with (refine wpList_store_row rfl 24 _ _ rfl _ _ rfl rfl 24 _ N_.out.ex (by kernel_rfl) rfl (by simp [Value.oneCell']) ?_)
  clear N_
  generalize (w3.alloc (.cells #[.int .i64 0, .string ⟨#[]⟩, .int .i64 0, .string ⟨#[]⟩, .string ⟨#[]⟩, .int .i64 0, .int .i64 0, .int .i64 0, .int .i64 0, .int .i64 0] 24)).setRow w3.heap.size (mcc x) = W3 at *
  generalize w3.heap.size = g3 at *
  refine (CA _ L3.out).mono ?_; rintro e w4 ⟨A1, n1, c1, A2, n2, c2, rfl, hi, ht, hb⟩
  have I3 := Lib.hid hi; have T3 := Lib.hid ht; clear hi ht
  have N_ := Lib.hid (own_new w4 #[.int .i64 0, .int .i64 0, .int .i64 0, .bool false, .string ⟨#[]⟩, .string ⟨#[]⟩, .int .i64 0, .int .i64 0, .int .i64 0, .int .i64 0, .slice none 0 0, .slice none 0 0, .slice none 0 0] 35)
  have bz := below_setRow (new1 w4 (.cells #[.int .i64 0, .int .i64 0, .int .i64 0, .bool false, .string ⟨#[]⟩, .string ⟨#[]⟩, .int .i64 0, .int .i64 0, .int .i64 0, .int .i64 0, .slice none 0 0, .slice none 0 0, .slice none 0 0] 35)) (Nat.le_refl _) (reqc kind once key rev A1 n1 c1 A2 n2 c2)
  have B4 := Lib.hid (then_ (then_ B3.out hb) bz)
  have L4 := Lib.hid ((L3.out.below hb).below bz)
  have X4 := Lib.hid ((X3.out.below hb).below bz)
  have Y4 := Lib.hid ((Y3.out.below hb).below bz)
  have P4 := Lib.hid ((P3.out.below hb).below bz)
  have Q4 := Lib.hid ((Q3.out.below hb).below bz)
  have I4 := Lib.hid (I3.out.below bz)
  have T4 := Lib.hid (T3.out.below bz)
  have R4 := Lib.hid (N_.out.row (reqc kind once key rev A1 n1 c1 A2 n2 c2))
  clear x0 x1 x2 x3 x4 x5 x6 x7 x8 x9
  clear hb bz B3 L3 X3 Y3 P3 Q3 I3 T3
  have x0 := X4.out.cell 0 _ rfl
  have x1 := X4.out.cell 1 _ rfl
  have x2 := X4.out.cell 2 _ rfl
  have x3 := X4.out.cell 3 _ rfl
  have x4 := X4.out.cell 4 _ rfl
  have x5 := X4.out.cell 5 _ rfl
  have x6 := X4.out.cell 6 _ rfl
  have x7 := X4.out.cell 7 _ rfl
  have x8 := X4.out.cell 8 _ rfl
  have x9 := X4.out.cell 9 _ rfl
  go_wp2_with (refine wpList_store_row rfl 35 _ _ rfl _ _ rfl rfl 35 _ N_.out.ex (by kernel_rfl) rfl (by simp [Value.oneCell']) ?_)
  clear N_
  generalize (w4.alloc (.cells #[.int .i64 0, .int .i64 0, .int .i64 0, .bool false, .string ⟨#[]⟩, .string ⟨#[]⟩, .int .i64 0, .int .i64 0, .int .i64 0, .int .i64 0, .slice none 0 0, .slice none 0 0, .slice none 0 0] 35)).setRow w4.heap.size (reqc kind once key rev A1 n1 c1 A2 n2 c2) = W4 at *
  generalize w4.heap.size = g4 at *
  refine (CAR _).mono ?_; rintro e w5 ⟨A3, n3, c3, A4, n4, c4, rfl, hi, ht, hb⟩
  have J4 := Lib.hid hi; have U4 := Lib.hid ht; clear hi ht
  have N_ := Lib.hid (own_new w5 #[.int .i64 0, .int .i64 0, .int .i64 0, .bool false, .string ⟨#[]⟩, .string ⟨#[]⟩, .int .i64 0, .int .i64 0, .int .i64 0, .int .i64 0, .slice none 0 0, .slice none 0 0, .slice none 0 0] 35)
  have bz := below_setRow (new1 w5 (.cells #[.int .i64 0, .int .i64 0, .int .i64 0, .bool false, .string ⟨#[]⟩, .string ⟨#[]⟩, .int .i64 0, .int .i64 0, .int .i64 0, .int .i64 0, .slice none 0 0, .slice none 0 0, .slice none 0 0] 35)) (Nat.le_refl _) (reqc kind once key rev A3 n3 c3 A4 n4 c4)
  have B5 := Lib.hid (then_ (then_ B4.out hb) bz)
  have L5 := Lib.hid ((L4.out.below hb).below bz)
  have X5 := Lib.hid ((X4.out.below hb).below bz)
  have Y5 := Lib.hid ((Y4.out.below hb).below bz)
  have P5 := Lib.hid ((P4.out.below hb).below bz)
  have Q5 := Lib.hid ((Q4.out.below hb).below bz)
  have R5 := Lib.hid ((R4.out.below hb).below bz)
  have I5 := Lib.hid ((I4.out.below hb).below bz)
  have T5 := Lib.hid ((T4.out.below hb).below bz)
  have J5 := Lib.hid (J4.out.below bz)
  have U5 := Lib.hid (U4.out.below bz)
  have S5 := Lib.hid (N_.out.row (reqc kind once key rev A3 n3 c3 A4 n4 c4))
  clear x0 x1 x2 x3 x4 x5 x6 x7 x8 x9
  clear hb bz B4 L4 X4 Y4 P4 Q4 R4 I4 T4 J4 U4
  go_wp2_with (refine wpList_store_row rfl 35 _ _ rfl _ _ rfl rfl 35 _ N_.out.ex (by kernel_rfl) rfl (by simp [Value.oneCell']) ?_)
  clear N_
  generalize (w5.alloc (.cells #[.int .i64 0, .int .i64 0, .int .i64 0, .bool false, .string ⟨#[]⟩, .string ⟨#[]⟩, .int .i64 0, .int .i64 0, .int .i64 0, .int .i64 0, .slice none 0 0, .slice none 0 0, .slice none 0 0] 35)).setRow w5.heap.size (reqc kind once key rev A3 n3 c3 A4 n4 c4) = W5 at *
  generalize w5.heap.size = g5 at *
  have y1 := Y5.out.cell 1 _ rfl
  have ry1 := fun d os => cell_regrown y1 d os
  have cA := fun d os => Calls.regrown_of (d := d) (os := os) (w := W5) (join_any m0 b1 _ k0 u1.1 u1.2 (L5.out.below (below_regrown W5 d os)))
  have cB := fun d os => Calls.regrown_of (d := d) (os := os) (w := W5) (joinr_any m0 b1 _ k0 u1.1 u1.2)
  have cC := fun d os => Calls.regrown_of (d := d) (os := os) (w := W5) (join_any x b1 _ OK.out u1.1 u1.2 (L5.out.below (below_regrown W5 d os)))
  have cD := fun d os => Calls.regrown_of (d := d) (os := os) (w := W5) (joinr_any x b1 _ OK.out u1.1 u1.2)
  have cE := fun d os => Calls.regrown_of (d := d) (os := os) (w := W5) (same_rq kind once key rev iff thn A1 n1 c1 A2 n2 c2 A3 n3 c3 A4 n4 c4 _ (I5.out.below (below_regrown W5 d os)) (T5.out.below (below_regrown W5 d os)) (J5.out.below (below_regrown W5 d os)) (U5.out.below (below_regrown W5 d os)))
  have cL := fun d os => Calls.regrown_of (d := d) (os := os) (w := W5) (lklive_any _ (L5.out.below (below_regrown W5 d os)))
  have hmc := eqlx
  generalize joinL m0 b1 = j1 at *
  generalize joinL x b1 = j2 at *
  refine wp_region_quiet_below (by kernel_rfl) (by kernel_rfl) ?_
  repeat (first | (go_big_quiet_want; refine quiet_row 24 _ rfl _ rfl 24 _ _ X5.out.held Tryd.underlying24 rfl (by kernel_rfl) ?_; simp only [Act.put, List.setIfInBounds_toArray, List.set_cons_succ, List.set_cons_zero]; go_big_quiet_on) | (go_big_quiet_want; refine quiet_row 24 _ rfl _ rfl 24 _ _ P5.out.held Tryd.underlying24 rfl (by kernel_rfl) ?_; simp only [Act.put, List.setIfInBounds_toArray, List.set_cons_succ, List.set_cons_zero]; go_big_quiet_on) | (go_big_quiet_want; refine quiet_row 24 _ rfl _ rfl 24 _ _ Q5.out.held Tryd.underlying24 rfl (by kernel_rfl) ?_; simp only [Act.put, List.setIfInBounds_toArray, List.set_cons_succ, List.set_cons_zero]; go_big_quiet_on) | (go_big_quiet_want; refine quiet_row 35 _ rfl _ rfl 35 _ _ R5.out.held Tryd.underlying35 rfl (by kernel_rfl) ?_; simp only [Act.put, List.setIfInBounds_toArray, List.set_cons_succ, List.set_cons_zero]; go_big_quiet_on) | (go_big_quiet_want; refine quiet_row 35 _ rfl _ rfl 35 _ _ S5.out.held Tryd.underlying35 rfl (by kernel_rfl) ?_; simp only [Act.put, List.setIfInBounds_toArray, List.set_cons_succ, List.set_cons_zero]; go_big_quiet_on) | go_big_quiet_step (first | (with_reducible exact cA _ _) | (with_reducible exact cB _ _) | (with_reducible exact cC _ _) | (with_reducible exact cD _ _) | (with_reducible exact cE _ _) | (with_reducible exact cL _ _)))

  refine wpQuiet_nil ?_
  intro _ hw'
  obtain ⟨⟨d, os⟩, rfl⟩ := hw'
  go_wp2
  go_ret
  exact ⟨rfl, below_grow B5.out B5.out.size _ _⟩
theorem walk (w : World) (m0 : Mc) (a1 b1 : Int) (a2 : ByteArray) (k0 : m0.ok) (w1 : (Lit.int .i64 a1).wf = true) (u1 : (Lit.int .i64 b1).wf = true) (w2 : a2.size ≤ maxLen) (hL : Letters w) :
    Calls Tryd.prog 3 #[m0.agg, .agg #[.int .i64 a1, .int .i64 b1], .string a2] w fun e w' => e = .returned (.bool true) ∧ Below w.heap.size w w' := by
  cases hs : short16B m0 with
  | false => exact bare w m0 a1 b1 a2 k0 hs hL
  | true =>
    by_cases hv : a2.size ≤ 60
    · exact main w m0 a1 b1 a2 k0 (inI_of w1) (inI_of u1) hs hv hL
    · exact long w m0 a1 b1 a2 k0 hs hv hL
theorem laidOut : laidOutB Tryd.prog = true := by kernel_rfl
set_option maxRecDepth 100000 in
theorem lifted (os : Os) (started : os.Started) (H : Type) (enc : TypeId × Value → H) :
    ReturnsInHanded {} Tryd.checked os 3 .any (fun w args => (Rows.lockStartsSpec.pre enc Tryd.prog Tryd.f3 [] false w args ∧ laidMetH Tryd.prog laidK w) ∧ sizedMet enc Tryd.prog Tryd.f3 (OpenSpec.ofChange Rows.lockStartsSpec) false w args)
      (Rows.lockStartsSpec.post enc Tryd.prog Tryd.f3 false true false false) := by
  refine returnsInHanded_of_change_and (C := Tryd.checked) (X := fun w _ => laidMetH Tryd.prog laidK w) (fun _ _ _ hh h => h.of_heap hh) own started (by kernel_rfl) Tryd.func3
    (ChangeSpec.witness_shaped (enc := enc) (C := Tryd.checked) (os := os) (X := fun w _ => laidMetH Tryd.prog laidK w) false (World.doorLaid Tryd.prog 400 os) #[.agg #[.int .i64 0, .string ByteArray.empty, .int .i64 0, .string ByteArray.empty, .string ByteArray.empty, .int .i64 0, .int .i64 0, .int .i64 0, .int .i64 0, .int .i64 0], .agg #[.int .i64 0, .int .i64 0], .string ByteArray.empty] 8 rfl (World.shaped_of_RefB (by kernel_rfl) (by kernel_rfl)) (by kernel_rfl) (by kernel_rfl) (by kernel_rfl) (door_met os _)) ?_
  intro W base args ds gs before hval0 hW _ _ hL _
  have hval : ∀ (j : Nat) t v, Tryd.f3.params[j]? = some t → args[j]? = some v → Value.okWide Tryd.prog W .any base t v := hval0
  have hW' := hW
  obtain ⟨p, q, hA0, hV, rfl, hfz, hnd⟩ := hW
  have hA : DataW.TrodAll enc Tryd.prog W 0 (fun _ => true) true Tryd.f3.params.toList args.toList ds p := hA0
  rw [Tryd.params3] at hA hval
  obtain ⟨v0, vs0, d0, ds0, p0, q0, hargs, rfl, rfl, h0, r0⟩ := trodAll_cons hA
  obtain ⟨v1, vs1, d1, ds1, p1, q1, rfl, rfl, rfl, h1, r1⟩ := trodAll_cons r0
  obtain ⟨v2, vs2, d2, ds2, p2, q2, rfl, rfl, rfl, h2, r2⟩ := trodAll_cons r1
  obtain ⟨rfl, rfl, rfl⟩ := trodAll_nil r2
  obtain rfl : args = #[v0, v1, v2] := by cases args; simp_all
  obtain ⟨rfl, rfl⟩ := trodVars_none hV
  obtain ⟨m0, rfl, k0⟩ := open_mc (hval 0 24 v0 rfl rfl) h0
  obtain ⟨a1, b1, rfl, rfl, rfl, w1, u1⟩ := open_two_int Tryd.underlying25 Tryd.underlying3 (by kernel_rfl) (by kernel_rfl) (hval 1 25 v1 rfl rfl) h1
  obtain ⟨a2, rfl, rfl, rfl, w2⟩ := open_string Tryd.underlying9 (hval 2 9 v2 rfl rfl) h2
  have hlet := letters_of_laid hL
  clear hA0 hval0 hL
  refine (walk W m0 a1 b1 a2 k0 w1 u1 w2 hlet).mono fun e W' ⟨he, bel⟩ => ?_
  subst he
  exact ⟨_, rfl, _, _, _, [], _, [], hW', trodAll_mk1 (shut_bool Tryd.underlying4 _), (trodAll_cons_mk (Below.trod laidOut (by kernel_rfl) (of_decide_eq_true (by kernel_rfl)) h0 bel (fun x hx => hW'.lt x (by simp [hx]))) (trodAll_cons_mk (shut_two_int Tryd.underlying25 Tryd.underlying3 (by kernel_rfl) (by kernel_rfl) w1 u1) (trodAll_cons_mk (shut_string Tryd.underlying9 w2) trodAll_mk0))), rfl, bel.frame _, fun h => by cases h⟩

theorem over : Rows.LockStartsSaid :=
  OpenClaim.holds_of_wide 3 Tryd.f3 rfl rfl rfl rfl rfl rfl rfl ⟨rfl, rfl, rfl, rfl, rfl⟩ rfl rfl rfl rfl rfl (by kernel_rfl) Tryd.func3 (by kernel_rfl)
    (of_decide_eq_true (by kernel_rfl)) (by unfold Func.isWrapper; first | (rw [if_pos (by decide +kernel)]; kernel_rfl) | (rw [if_neg (by decide +kernel)]; exact ⟨rfl, rfl⟩))
    (fun os started H enc _ => lifted os started H enc)

theorem plain (f : FuncId) (fn : Func) (hf : Tryd.pinned.checked.prog.funcNamed "baton/batonlaw16.LockStarts" = some f) (hfn : Tryd.pinned.checked.prog.funcs[f]? = some fn) :
    false = Tryd.pinned.checked.prog.looks [] ∧ ∀ (j : Nat) t, fn.params[j]? = some t → Tryd.pinned.checked.prog.wantsStandIn t = false := by
  obtain rfl : f = 3 := Option.some.inj ((show Tryd.prog.funcNamed "baton/batonlaw16.LockStarts" = some 3 by kernel_rfl).symm.trans hf) |>.symm
  obtain rfl : fn = Tryd.f3 := (Option.some.inj (Tryd.func3.symm.trans hfn)).symm
  refine ⟨by kernel_rfl, fun j t ht => ?_⟩
  rw [Tryd.params3] at ht
  have hm : t ∈ [24, 25, 9] := by simpa using Array.mem_of_getElem? ht
  have hall : ([24, 25, 9].all fun u => !Tryd.prog.wantsStandIn u) = true := by kernel_rfl
  exact (show Tryd.prog.wantsStandIn t = false by simpa using List.all_eq_true.1 hall t hm)

theorem proved : Rows.LockStartsCardSaid :=
  Claim7.holds_tied_plain_at .later [] _ _ _ _ over (fun _ h => by cases h) (by kernel_rfl) (fun _ h => by cases h) lockStarts_row_tie rfl ⟨rfl, rfl⟩ (by kernel_rfl) rfl plain (by kernel_rfl)
#print axioms proved
end Go.Proofs.YtnpknpgmlkaplaaDoor.lockStarts
