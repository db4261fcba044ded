/- For all leases, keys, Ids and times the law LeaseEnds answers true: End, Due and Drops answer what the document asks. No condition. -/
import Derived.Test.YtelepkofhdjagabLsOpen
import Derived.Test.YtelepkofhdjagabLsLive
import Derived.Test.YtelepkofhdjagabLsMayR
import Derived.Test.YtelepkofhdjagabLsGrantR
import Derived.Test.YtelepkofhdjagabLsKeepR
import Derived.Test.YtelepkofhdjagabLsStopR
import Derived.Test.YtelepkofhdjagabRows
import Derived.Deep.RegionHeld3
namespace Go.Proofs.Ytelepkofhdjagab.leaseEnds
open Go.ChangeShapes Go.WideShapes Go.ChangeAt Go.RowKit Go.Proofs.Ytelepkofhdjagab.P
open Go.ChangeMaps (open_string shut_string)
set_option linter.unusedVariables false
set_option linter.unusedSimpArgs false
set_option maxHeartbeats 4000000
set_option maxRecDepth 100000

theorem end_len (s : Ls) (id : Int) : (endS s id).l.length ≤ s.l.length := by
  unfold endS; split
  · simp; omega
  · exact Nat.le_refl _
theorem due_le (l : List Le) (now : Int) : (dueL l now).length ≤ l.length := by
  unfold dueL; rw [List.length_map]; exact List.length_filter_le _ _
theorem drops_le (l : List KV) (id : Int) : (dropsL l id).length ≤ l.length := by
  unfold dropsL; split
  · simp
  · rw [List.length_map]; exact List.length_filter_le _ _
theorem walk (w : World) (s0 : Ls) (A0 : Option Addr) (n0 c0 : Nat) (A1 : Option Addr) (n1 c1 : Nat) (l1 : List KV) (a2 b2 : Int) (k0 : LsAt w s0 A0 n0 c0) (k1 : KVs w A1 n1 c1 l1) (w2 : (Lit.int .i64 a2).wf = true) (u2 : (Lit.int .i64 b2).wf = true) :
    Calls Try.prog 4 #[s0.agg A0 n0 c0, .slice A1 n1 c1, .agg #[.int .i64 a2, .int .i64 b2]] w fun e w' => e = .returned (.bool true) ∧ Below w.heap.size w w' := by
  by_cases h20 : 20 < n0
  · have K_0 := Lib.hid (k0.keep (then_ (new1 w (.cells #[.int .i64 s0.next, .slice A0 n0 c0] 24)) (new1 _ (.cells #[.int .i64 a2, .int .i64 b2] 25))))
    have V_0 := Lib.hid (k1.keep (then_ (new1 w (.cells #[.int .i64 s0.next, .slice A0 n0 c0] 24)) (new1 _ (.cells #[.int .i64 a2, .int .i64 b2] 25))))
    have X_0 := Lib.hid ((own_new w #[.int .i64 s0.next, .slice A0 n0 c0] 24).alloc (.cells #[.int .i64 a2, .int .i64 b2] 25))
    have Y_0 := Lib.hid (own_new2 w (.cells #[.int .i64 s0.next, .slice A0 n0 c0] 24) #[.int .i64 a2, .int .i64 b2] 25)
    have B_0 := Lib.hid (then_ (new1 w (.cells #[.int .i64 s0.next, .slice A0 n0 c0] 24)) (new1 _ (.cells #[.int .i64 a2, .int .i64 b2] 25)))
    have hn0 := k0.row.row.len
    have hn1 := k1.len
    have hm0 := Nat.le_trans k0.row.row.le k0.row.row.max
    unfold maxLen at hm0
    clear k0 k1
    go_enter Try.func4, Try.ntmps4
    have x0 := X_0.out.cell 0 _ rfl
    have x1 := X_0.out.cell 1 _ rfl
    go_wp2_with fail
    refine (live_any _).mono ?_; rintro e w1 ⟨rfl, hb⟩
    have S_1 := Lib.hid hb; clear hb
    have K_2 := Lib.hid (K_0.out.keep S_1.out)
    have V_3 := Lib.hid (V_0.out.keep S_1.out)
    have X_4 := Lib.hid (X_0.out.below S_1.out)
    have Y_5 := Lib.hid (Y_0.out.below S_1.out)
    have B_6 := Lib.hid (then_ B_0.out S_1.out)
    clear K_0 V_0 X_0 Y_0 B_0
    clear S_1
    go_wp2
    go_ret
    exact ⟨rfl, B_6.out⟩
  · cases hf : fewB 40 l1 with
    | false =>
      have HF := Lib.hid hf; clear hf
      have K_0 := Lib.hid (k0.keep (then_ (new1 w (.cells #[.int .i64 s0.next, .slice A0 n0 c0] 24)) (new1 _ (.cells #[.int .i64 a2, .int .i64 b2] 25))))
      have V_0 := Lib.hid (k1.keep (then_ (new1 w (.cells #[.int .i64 s0.next, .slice A0 n0 c0] 24)) (new1 _ (.cells #[.int .i64 a2, .int .i64 b2] 25))))
      have X_0 := Lib.hid ((own_new w #[.int .i64 s0.next, .slice A0 n0 c0] 24).alloc (.cells #[.int .i64 a2, .int .i64 b2] 25))
      have Y_0 := Lib.hid (own_new2 w (.cells #[.int .i64 s0.next, .slice A0 n0 c0] 24) #[.int .i64 a2, .int .i64 b2] 25)
      have B_0 := Lib.hid (then_ (new1 w (.cells #[.int .i64 s0.next, .slice A0 n0 c0] 24)) (new1 _ (.cells #[.int .i64 a2, .int .i64 b2] 25)))
      have hn0 := k0.row.row.len
      have hn1 := k1.len
      have hm0 := Nat.le_trans k0.row.row.le k0.row.row.max
      unfold maxLen at hm0
      clear k0 k1
      go_enter Try.func4, Try.ntmps4
      have x0 := X_0.out.cell 0 _ rfl
      have x1 := X_0.out.cell 1 _ rfl
      go_wp2_with fail
      refine (few_any A1 n1 c1 l1 40 _ V_0.out (by omega)).mono ?_; rintro e w' ⟨rfl, rfl⟩
      rw [HF.out]
      clear x0 x1
      go_wp2_with fail
      refine (live_any _).mono ?_; rintro e w1 ⟨rfl, hb⟩
      have S_1 := Lib.hid hb; clear hb
      have K_2 := Lib.hid (K_0.out.keep S_1.out)
      have V_3 := Lib.hid (V_0.out.keep S_1.out)
      have X_4 := Lib.hid (X_0.out.below S_1.out)
      have Y_5 := Lib.hid (Y_0.out.below S_1.out)
      have B_6 := Lib.hid (then_ B_0.out S_1.out)
      clear K_0 V_0 X_0 Y_0 B_0
      clear S_1
      go_wp2
      go_ret
      exact ⟨rfl, B_6.out⟩
    | true =>
      have HF := Lib.hid hf
      have hn40 : l1.length ≤ 40 := by simp only [fewB, Bool.and_eq_true, decide_eq_true_eq] at hf; omega
      clear hf
      have K_0 := Lib.hid (k0.keep (then_ (new1 w (.cells #[.int .i64 s0.next, .slice A0 n0 c0] 24)) (new1 _ (.cells #[.int .i64 a2, .int .i64 b2] 25))))
      have V_0 := Lib.hid (k1.keep (then_ (new1 w (.cells #[.int .i64 s0.next, .slice A0 n0 c0] 24)) (new1 _ (.cells #[.int .i64 a2, .int .i64 b2] 25))))
      have X_0 := Lib.hid ((own_new w #[.int .i64 s0.next, .slice A0 n0 c0] 24).alloc (.cells #[.int .i64 a2, .int .i64 b2] 25))
      have Y_0 := Lib.hid (own_new2 w (.cells #[.int .i64 s0.next, .slice A0 n0 c0] 24) #[.int .i64 a2, .int .i64 b2] 25)
      have B_0 := Lib.hid (then_ (new1 w (.cells #[.int .i64 s0.next, .slice A0 n0 c0] 24)) (new1 _ (.cells #[.int .i64 a2, .int .i64 b2] 25)))
      have hn0 := k0.row.row.len
      have hn1 := k1.len
      have hm0 := Nat.le_trans k0.row.row.le k0.row.row.max
      unfold maxLen at hm0
      clear k0 k1
      go_enter Try.func4, Try.ntmps4
      have x0 := X_0.out.cell 0 _ rfl
      have x1 := X_0.out.cell 1 _ rfl
      go_wp2_with fail
      refine (few_any A1 n1 c1 l1 40 _ V_0.out (by omega)).mono ?_; rintro e w' ⟨rfl, rfl⟩
      rw [HF.out]
      clear x0 x1
      have x0 := X_0.out.cell 0 _ rfl
      have x1 := X_0.out.cell 1 _ rfl
      have y0 := Y_0.out.cell 0 _ rfl
      have y1 := Y_0.out.cell 1 _ rfl
      go_wp2_with fail
      refine (end_any s0 A0 n0 c0 a2 _ K_0.out (by omega)).mono ?_; rintro e w1 ⟨A2, n2, c2, rfl, h2, hb⟩
      have S_1 := Lib.hid hb; clear hb
      have K_2 := Lib.hid (K_0.out.keep S_1.out)
      have V_3 := Lib.hid (V_0.out.keep S_1.out)
      have X_4 := Lib.hid (X_0.out.below S_1.out)
      have Y_5 := Lib.hid (Y_0.out.below S_1.out)
      have B_6 := Lib.hid (then_ B_0.out S_1.out)
      clear K_0 V_0 X_0 Y_0 B_0
      clear S_1
      have L2_7 := Lib.hid (h2)
      clear h2
      have K_8 := Lib.hid (K_2.out.keep (new1 w1 (.cells #[.int .i64 (endS s0 a2).next, .slice A2 n2 c2] 24)))
      have V_9 := Lib.hid (V_3.out.keep (new1 w1 (.cells #[.int .i64 (endS s0 a2).next, .slice A2 n2 c2] 24)))
      have X_10 := Lib.hid (X_4.out.below (new1 w1 (.cells #[.int .i64 (endS s0 a2).next, .slice A2 n2 c2] 24)))
      have Y_11 := Lib.hid (Y_5.out.below (new1 w1 (.cells #[.int .i64 (endS s0 a2).next, .slice A2 n2 c2] 24)))
      have L2_12 := Lib.hid (L2_7.out.keep (new1 w1 (.cells #[.int .i64 (endS s0 a2).next, .slice A2 n2 c2] 24)))
      have B_13 := Lib.hid (then_ B_6.out (new1 w1 (.cells #[.int .i64 (endS s0 a2).next, .slice A2 n2 c2] 24)))
      clear K_2 V_3 X_4 Y_5 L2_7 B_6
      have R2_14 := Lib.hid (own_new w1 #[.int .i64 (endS s0 a2).next, .slice A2 n2 c2] 24)
      clear x0 x1
      clear y0 y1
      have x0 := X_10.out.cell 0 _ rfl
      have x1 := X_10.out.cell 1 _ rfl
      have y0 := Y_11.out.cell 0 _ rfl
      have y1 := Y_11.out.cell 1 _ rfl
      go_wp2_with fail
      refine (end_ref s0 A0 n0 c0 a2 _ K_8.out (by omega)).mono ?_; rintro e w2 ⟨A3, n3, c3, rfl, h3, hb⟩
      obtain rfl : n3 = n2 := h3.row.row.len.symm.trans L2_12.out.row.row.len
      have S_15 := Lib.hid hb; clear hb
      have K_16 := Lib.hid (K_8.out.keep S_15.out)
      have V_17 := Lib.hid (V_9.out.keep S_15.out)
      have X_18 := Lib.hid (X_10.out.below S_15.out)
      have Y_19 := Lib.hid (Y_11.out.below S_15.out)
      have L2_20 := Lib.hid (L2_12.out.keep S_15.out)
      have R2_21 := Lib.hid (R2_14.out.below S_15.out)
      have B_22 := Lib.hid (then_ B_13.out S_15.out)
      clear K_8 V_9 X_10 Y_11 L2_12 R2_14 B_13
      clear S_15
      have L3_23 := Lib.hid (h3)
      clear h3
      have K_24 := Lib.hid (K_16.out.keep (new1 w2 (.cells #[.int .i64 (endS s0 a2).next, .slice A3 n3 c3] 24)))
      have V_25 := Lib.hid (V_17.out.keep (new1 w2 (.cells #[.int .i64 (endS s0 a2).next, .slice A3 n3 c3] 24)))
      have X_26 := Lib.hid (X_18.out.below (new1 w2 (.cells #[.int .i64 (endS s0 a2).next, .slice A3 n3 c3] 24)))
      have Y_27 := Lib.hid (Y_19.out.below (new1 w2 (.cells #[.int .i64 (endS s0 a2).next, .slice A3 n3 c3] 24)))
      have L2_28 := Lib.hid (L2_20.out.keep (new1 w2 (.cells #[.int .i64 (endS s0 a2).next, .slice A3 n3 c3] 24)))
      have R2_29 := Lib.hid (R2_21.out.below (new1 w2 (.cells #[.int .i64 (endS s0 a2).next, .slice A3 n3 c3] 24)))
      have L3_30 := Lib.hid (L3_23.out.keep (new1 w2 (.cells #[.int .i64 (endS s0 a2).next, .slice A3 n3 c3] 24)))
      have B_31 := Lib.hid (then_ B_22.out (new1 w2 (.cells #[.int .i64 (endS s0 a2).next, .slice A3 n3 c3] 24)))
      clear K_16 V_17 X_18 Y_19 L2_20 R2_21 L3_23 B_22
      have R3_32 := Lib.hid (own_new w2 #[.int .i64 (endS s0 a2).next, .slice A3 n3 c3] 24)
      clear x0 x1
      clear y0 y1
      have hn3 : n3 ≤ 1000000 := by have h1 := L3_30.out.row.row.len; have h2 := end_len s0 a2; omega
      have e4 : (endE s0 a2 == endE s0 a2) = true := by simp
      go_wp2
      have x0 : (w2.alloc (.cells #[.int .i64 (endS s0 a2).next, .slice A3 n3 c3] 24)).cell? ⟨w.heap.size, 0, none⟩ = some (.int .i64 s0.next) := X_26.out.cell 0 _ rfl
      have x1 : (w2.alloc (.cells #[.int .i64 (endS s0 a2).next, .slice A3 n3 c3] 24)).cell? ⟨w.heap.size, 1, none⟩ = some (.slice A0 n0 c0) := X_26.out.cell 1 _ rfl
      have y0 : (w2.alloc (.cells #[.int .i64 (endS s0 a2).next, .slice A3 n3 c3] 24)).cell? ⟨(w.heap.size + 1), 0, none⟩ = some (.int .i64 a2) := Y_27.out.cell 0 _ rfl
      have y1 : (w2.alloc (.cells #[.int .i64 (endS s0 a2).next, .slice A3 n3 c3] 24)).cell? ⟨(w.heap.size + 1), 1, none⟩ = some (.int .i64 b2) := Y_27.out.cell 1 _ rfl
      have r0 : (w2.alloc (.cells #[.int .i64 (endS s0 a2).next, .slice A3 n3 c3] 24)).cell? ⟨w1.heap.size, 0, none⟩ = some (.int .i64 (endS s0 a2).next) := R2_29.out.cell 0 _ rfl
      have r1 : (w2.alloc (.cells #[.int .i64 (endS s0 a2).next, .slice A3 n3 c3] 24)).cell? ⟨w1.heap.size, 1, none⟩ = some (.slice A2 n3 c2) := R2_29.out.cell 1 _ rfl
      have q0 : (w2.alloc (.cells #[.int .i64 (endS s0 a2).next, .slice A3 n3 c3] 24)).cell? ⟨w2.heap.size, 0, none⟩ = some (.int .i64 (endS s0 a2).next) := R3_32.out.cell 0 _ rfl
      have q1 : (w2.alloc (.cells #[.int .i64 (endS s0 a2).next, .slice A3 n3 c3] 24)).cell? ⟨w2.heap.size, 1, none⟩ = some (.slice A3 n3 c3) := R3_32.out.cell 1 _ rfl
      go_region_held3 (fun w' => w'.cell? ⟨w.heap.size, 0, none⟩ = some (.int .i64 s0.next) ∧ w'.cell? ⟨w.heap.size, 1, none⟩ = some (.slice A0 n0 c0) ∧ w'.cell? ⟨(w.heap.size + 1), 0, none⟩ = some (.int .i64 a2) ∧ w'.cell? ⟨(w.heap.size + 1), 1, none⟩ = some (.int .i64 b2) ∧ w'.cell? ⟨w1.heap.size, 0, none⟩ = some (.int .i64 (endS s0 a2).next) ∧ w'.cell? ⟨w1.heap.size, 1, none⟩ = some (.slice A2 n3 c2) ∧ w'.cell? ⟨w2.heap.size, 0, none⟩ = some (.int .i64 (endS s0 a2).next) ∧ w'.cell? ⟨w2.heap.size, 1, none⟩ = some (.slice A3 n3 c3)) (go_keep) (first
        | (go_at_call 21; refine (ls_same (endS s0 a2) A2 A3 n3 c2 c3 _ (L2_28.out.keep (Below.drew (Below.refl _ _))) (L3_30.out.keep (Below.drew (Below.refl _ _))) hn3).mono ?_; rintro e v1 ⟨rfl, hb⟩; have HR1 : Hid (Below (w2.alloc (.cells #[.int .i64 (endS s0 a2).next, .slice A3 n3 c3] 24)).heap.size (w2.alloc (.cells #[.int .i64 (endS s0 a2).next, .slice A3 n3 c3] 24)) v1) := Lib.hid ((Below.drew (Below.refl _ _)).trans hb); have x0_1 : v1.cell? ⟨w.heap.size, 0, none⟩ = some (.int .i64 s0.next) := (X_26.out.below HR1.out).cell 0 _ rfl; have x1_1 : v1.cell? ⟨w.heap.size, 1, none⟩ = some (.slice A0 n0 c0) := (X_26.out.below HR1.out).cell 1 _ rfl; have y0_1 : v1.cell? ⟨(w.heap.size + 1), 0, none⟩ = some (.int .i64 a2) := (Y_27.out.below HR1.out).cell 0 _ rfl; have y1_1 : v1.cell? ⟨(w.heap.size + 1), 1, none⟩ = some (.int .i64 b2) := (Y_27.out.below HR1.out).cell 1 _ rfl; have r0_1 : v1.cell? ⟨w1.heap.size, 0, none⟩ = some (.int .i64 (endS s0 a2).next) := (R2_29.out.below HR1.out).cell 0 _ rfl; have r1_1 : v1.cell? ⟨w1.heap.size, 1, none⟩ = some (.slice A2 n3 c2) := (R2_29.out.below HR1.out).cell 1 _ rfl; have q0_1 : v1.cell? ⟨w2.heap.size, 0, none⟩ = some (.int .i64 (endS s0 a2).next) := (R3_32.out.below HR1.out).cell 0 _ rfl; have q1_1 : v1.cell? ⟨w2.heap.size, 1, none⟩ = some (.slice A3 n3 c3) := (R3_32.out.below HR1.out).cell 1 _ rfl; skip; clear hb)
        | (go_at_call 30; refine (due_any s0 A0 n0 c0 b2 _ (K_24.out.keep HR1.out) (by omega)).mono ?_; rintro e v2 ⟨A5, n5, c5, rfl, h5, hb⟩; have HR2 : Hid (Below (w2.alloc (.cells #[.int .i64 (endS s0 a2).next, .slice A3 n3 c3] 24)).heap.size (w2.alloc (.cells #[.int .i64 (endS s0 a2).next, .slice A3 n3 c3] 24)) v2) := Lib.hid (then_ HR1.out hb); have x0_2 : v2.cell? ⟨w.heap.size, 0, none⟩ = some (.int .i64 s0.next) := (X_26.out.below HR2.out).cell 0 _ rfl; have x1_2 : v2.cell? ⟨w.heap.size, 1, none⟩ = some (.slice A0 n0 c0) := (X_26.out.below HR2.out).cell 1 _ rfl; have y0_2 : v2.cell? ⟨(w.heap.size + 1), 0, none⟩ = some (.int .i64 a2) := (Y_27.out.below HR2.out).cell 0 _ rfl; have y1_2 : v2.cell? ⟨(w.heap.size + 1), 1, none⟩ = some (.int .i64 b2) := (Y_27.out.below HR2.out).cell 1 _ rfl; have r0_2 : v2.cell? ⟨w1.heap.size, 0, none⟩ = some (.int .i64 (endS s0 a2).next) := (R2_29.out.below HR2.out).cell 0 _ rfl; have r1_2 : v2.cell? ⟨w1.heap.size, 1, none⟩ = some (.slice A2 n3 c2) := (R2_29.out.below HR2.out).cell 1 _ rfl; have q0_2 : v2.cell? ⟨w2.heap.size, 0, none⟩ = some (.int .i64 (endS s0 a2).next) := (R3_32.out.below HR2.out).cell 0 _ rfl; have q1_2 : v2.cell? ⟨w2.heap.size, 1, none⟩ = some (.slice A3 n3 c3) := (R3_32.out.below HR2.out).cell 1 _ rfl; have D5 := Lib.hid h5; clear h5; clear hb)
        | (go_at_call 31; refine (due_ref s0 A0 n0 c0 b2 _ (K_24.out.keep HR2.out) (by omega)).mono ?_; rintro e v3 ⟨A6, n6, c6, rfl, h6, hb⟩; have HR3 : Hid (Below (w2.alloc (.cells #[.int .i64 (endS s0 a2).next, .slice A3 n3 c3] 24)).heap.size (w2.alloc (.cells #[.int .i64 (endS s0 a2).next, .slice A3 n3 c3] 24)) v3) := Lib.hid (then_ HR2.out hb); have x0_3 : v3.cell? ⟨w.heap.size, 0, none⟩ = some (.int .i64 s0.next) := (X_26.out.below HR3.out).cell 0 _ rfl; have x1_3 : v3.cell? ⟨w.heap.size, 1, none⟩ = some (.slice A0 n0 c0) := (X_26.out.below HR3.out).cell 1 _ rfl; have y0_3 : v3.cell? ⟨(w.heap.size + 1), 0, none⟩ = some (.int .i64 a2) := (Y_27.out.below HR3.out).cell 0 _ rfl; have y1_3 : v3.cell? ⟨(w.heap.size + 1), 1, none⟩ = some (.int .i64 b2) := (Y_27.out.below HR3.out).cell 1 _ rfl; have r0_3 : v3.cell? ⟨w1.heap.size, 0, none⟩ = some (.int .i64 (endS s0 a2).next) := (R2_29.out.below HR3.out).cell 0 _ rfl; have r1_3 : v3.cell? ⟨w1.heap.size, 1, none⟩ = some (.slice A2 n3 c2) := (R2_29.out.below HR3.out).cell 1 _ rfl; have q0_3 : v3.cell? ⟨w2.heap.size, 0, none⟩ = some (.int .i64 (endS s0 a2).next) := (R3_32.out.below HR3.out).cell 0 _ rfl; have q1_3 : v3.cell? ⟨w2.heap.size, 1, none⟩ = some (.slice A3 n3 c3) := (R3_32.out.below HR3.out).cell 1 _ rfl; obtain rfl : n6 = n5 := h6.len.symm.trans D5.out.len; have D6 := Lib.hid h6; have D5b := Lib.hid (RowsOf.below D5.out hb); clear h6; clear hb)
        | (go_at_call 29; refine (ints_same A5 A6 n6 c5 c6 _ _ D5b.out D6.out (by have := D6.out.len; have := due_le s0.l b2; omega)).mono ?_; rintro e v4 ⟨rfl, hb⟩; have HR4 : Hid (Below (w2.alloc (.cells #[.int .i64 (endS s0 a2).next, .slice A3 n3 c3] 24)).heap.size (w2.alloc (.cells #[.int .i64 (endS s0 a2).next, .slice A3 n3 c3] 24)) v4) := Lib.hid (then_ HR3.out hb); have x0_4 : v4.cell? ⟨w.heap.size, 0, none⟩ = some (.int .i64 s0.next) := (X_26.out.below HR4.out).cell 0 _ rfl; have x1_4 : v4.cell? ⟨w.heap.size, 1, none⟩ = some (.slice A0 n0 c0) := (X_26.out.below HR4.out).cell 1 _ rfl; have y0_4 : v4.cell? ⟨(w.heap.size + 1), 0, none⟩ = some (.int .i64 a2) := (Y_27.out.below HR4.out).cell 0 _ rfl; have y1_4 : v4.cell? ⟨(w.heap.size + 1), 1, none⟩ = some (.int .i64 b2) := (Y_27.out.below HR4.out).cell 1 _ rfl; have r0_4 : v4.cell? ⟨w1.heap.size, 0, none⟩ = some (.int .i64 (endS s0 a2).next) := (R2_29.out.below HR4.out).cell 0 _ rfl; have r1_4 : v4.cell? ⟨w1.heap.size, 1, none⟩ = some (.slice A2 n3 c2) := (R2_29.out.below HR4.out).cell 1 _ rfl; have q0_4 : v4.cell? ⟨w2.heap.size, 0, none⟩ = some (.int .i64 (endS s0 a2).next) := (R3_32.out.below HR4.out).cell 0 _ rfl; have q1_4 : v4.cell? ⟨w2.heap.size, 1, none⟩ = some (.slice A3 n3 c3) := (R3_32.out.below HR4.out).cell 1 _ rfl; skip; clear hb)
        | (go_at_call 33; refine (drops_any A1 n1 c1 l1 a2 _ (V_25.out.keep HR4.out) (by omega)).mono ?_; rintro e v5 ⟨A7, n7, c7, rfl, h7, hb⟩; have HR5 : Hid (Below (w2.alloc (.cells #[.int .i64 (endS s0 a2).next, .slice A3 n3 c3] 24)).heap.size (w2.alloc (.cells #[.int .i64 (endS s0 a2).next, .slice A3 n3 c3] 24)) v5) := Lib.hid (then_ HR4.out hb); have x0_5 : v5.cell? ⟨w.heap.size, 0, none⟩ = some (.int .i64 s0.next) := (X_26.out.below HR5.out).cell 0 _ rfl; have x1_5 : v5.cell? ⟨w.heap.size, 1, none⟩ = some (.slice A0 n0 c0) := (X_26.out.below HR5.out).cell 1 _ rfl; have y0_5 : v5.cell? ⟨(w.heap.size + 1), 0, none⟩ = some (.int .i64 a2) := (Y_27.out.below HR5.out).cell 0 _ rfl; have y1_5 : v5.cell? ⟨(w.heap.size + 1), 1, none⟩ = some (.int .i64 b2) := (Y_27.out.below HR5.out).cell 1 _ rfl; have r0_5 : v5.cell? ⟨w1.heap.size, 0, none⟩ = some (.int .i64 (endS s0 a2).next) := (R2_29.out.below HR5.out).cell 0 _ rfl; have r1_5 : v5.cell? ⟨w1.heap.size, 1, none⟩ = some (.slice A2 n3 c2) := (R2_29.out.below HR5.out).cell 1 _ rfl; have q0_5 : v5.cell? ⟨w2.heap.size, 0, none⟩ = some (.int .i64 (endS s0 a2).next) := (R3_32.out.below HR5.out).cell 0 _ rfl; have q1_5 : v5.cell? ⟨w2.heap.size, 1, none⟩ = some (.slice A3 n3 c3) := (R3_32.out.below HR5.out).cell 1 _ rfl; have D7 := Lib.hid h7; clear h7; clear hb)
        | (go_at_call 34; refine (drops_ref A1 n1 c1 l1 a2 _ (V_25.out.keep HR5.out) (by omega)).mono ?_; rintro e v6 ⟨A8, n8, c8, rfl, h8, hb⟩; have HR6 : Hid (Below (w2.alloc (.cells #[.int .i64 (endS s0 a2).next, .slice A3 n3 c3] 24)).heap.size (w2.alloc (.cells #[.int .i64 (endS s0 a2).next, .slice A3 n3 c3] 24)) v6) := Lib.hid (then_ HR5.out hb); have x0_6 : v6.cell? ⟨w.heap.size, 0, none⟩ = some (.int .i64 s0.next) := (X_26.out.below HR6.out).cell 0 _ rfl; have x1_6 : v6.cell? ⟨w.heap.size, 1, none⟩ = some (.slice A0 n0 c0) := (X_26.out.below HR6.out).cell 1 _ rfl; have y0_6 : v6.cell? ⟨(w.heap.size + 1), 0, none⟩ = some (.int .i64 a2) := (Y_27.out.below HR6.out).cell 0 _ rfl; have y1_6 : v6.cell? ⟨(w.heap.size + 1), 1, none⟩ = some (.int .i64 b2) := (Y_27.out.below HR6.out).cell 1 _ rfl; have r0_6 : v6.cell? ⟨w1.heap.size, 0, none⟩ = some (.int .i64 (endS s0 a2).next) := (R2_29.out.below HR6.out).cell 0 _ rfl; have r1_6 : v6.cell? ⟨w1.heap.size, 1, none⟩ = some (.slice A2 n3 c2) := (R2_29.out.below HR6.out).cell 1 _ rfl; have q0_6 : v6.cell? ⟨w2.heap.size, 0, none⟩ = some (.int .i64 (endS s0 a2).next) := (R3_32.out.below HR6.out).cell 0 _ rfl; have q1_6 : v6.cell? ⟨w2.heap.size, 1, none⟩ = some (.slice A3 n3 c3) := (R3_32.out.below HR6.out).cell 1 _ rfl; obtain rfl : n8 = n7 := h8.len.symm.trans D7.out.len; have D8 := Lib.hid h8; have D7b := Lib.hid (RowsOf.below D7.out hb); clear h8; clear hb)
        | (go_at_call 32; refine (muts_same A7 A8 n8 c7 c8 _ _ D7b.out D8.out (by have := D8.out.len; have := drops_le l1 a2; omega)).mono ?_; rintro e v7 ⟨rfl, hb⟩; have HR7 : Hid (Below (w2.alloc (.cells #[.int .i64 (endS s0 a2).next, .slice A3 n3 c3] 24)).heap.size (w2.alloc (.cells #[.int .i64 (endS s0 a2).next, .slice A3 n3 c3] 24)) v7) := Lib.hid (then_ HR6.out hb); have x0_7 : v7.cell? ⟨w.heap.size, 0, none⟩ = some (.int .i64 s0.next) := (X_26.out.below HR7.out).cell 0 _ rfl; have x1_7 : v7.cell? ⟨w.heap.size, 1, none⟩ = some (.slice A0 n0 c0) := (X_26.out.below HR7.out).cell 1 _ rfl; have y0_7 : v7.cell? ⟨(w.heap.size + 1), 0, none⟩ = some (.int .i64 a2) := (Y_27.out.below HR7.out).cell 0 _ rfl; have y1_7 : v7.cell? ⟨(w.heap.size + 1), 1, none⟩ = some (.int .i64 b2) := (Y_27.out.below HR7.out).cell 1 _ rfl; have r0_7 : v7.cell? ⟨w1.heap.size, 0, none⟩ = some (.int .i64 (endS s0 a2).next) := (R2_29.out.below HR7.out).cell 0 _ rfl; have r1_7 : v7.cell? ⟨w1.heap.size, 1, none⟩ = some (.slice A2 n3 c2) := (R2_29.out.below HR7.out).cell 1 _ rfl; have q0_7 : v7.cell? ⟨w2.heap.size, 0, none⟩ = some (.int .i64 (endS s0 a2).next) := (R3_32.out.below HR7.out).cell 0 _ rfl; have q1_7 : v7.cell? ⟨w2.heap.size, 1, none⟩ = some (.slice A3 n3 c3) := (R3_32.out.below HR7.out).cell 1 _ rfl; skip; clear hb)
        | (go_at_call 16; refine (live_any _).mono ?_; rintro e v8 ⟨rfl, hb⟩; have HR8 : Hid (Below (w2.alloc (.cells #[.int .i64 (endS s0 a2).next, .slice A3 n3 c3] 24)).heap.size (w2.alloc (.cells #[.int .i64 (endS s0 a2).next, .slice A3 n3 c3] 24)) v8) := Lib.hid (then_ HR7.out hb); have x0_8 : v8.cell? ⟨w.heap.size, 0, none⟩ = some (.int .i64 s0.next) := (X_26.out.below HR8.out).cell 0 _ rfl; have x1_8 : v8.cell? ⟨w.heap.size, 1, none⟩ = some (.slice A0 n0 c0) := (X_26.out.below HR8.out).cell 1 _ rfl; have y0_8 : v8.cell? ⟨(w.heap.size + 1), 0, none⟩ = some (.int .i64 a2) := (Y_27.out.below HR8.out).cell 0 _ rfl; have y1_8 : v8.cell? ⟨(w.heap.size + 1), 1, none⟩ = some (.int .i64 b2) := (Y_27.out.below HR8.out).cell 1 _ rfl; have r0_8 : v8.cell? ⟨w1.heap.size, 0, none⟩ = some (.int .i64 (endS s0 a2).next) := (R2_29.out.below HR8.out).cell 0 _ rfl; have r1_8 : v8.cell? ⟨w1.heap.size, 1, none⟩ = some (.slice A2 n3 c2) := (R2_29.out.below HR8.out).cell 1 _ rfl; have q0_8 : v8.cell? ⟨w2.heap.size, 0, none⟩ = some (.int .i64 (endS s0 a2).next) := (R3_32.out.below HR8.out).cell 0 _ rfl; have q1_8 : v8.cell? ⟨w2.heap.size, 1, none⟩ = some (.slice A3 n3 c3) := (R3_32.out.below HR8.out).cell 1 _ rfl; skip; clear hb))
      all_goals
        go_wp2
        go_ret
        exact ⟨rfl, then_ B_31.out HR8.out⟩

theorem own : ownKnob Try.prog.godebug = none := by kernel_rfl
theorem laidOut : laidOutB Try.prog = true := by kernel_rfl

set_option maxRecDepth 100000 in
theorem lifted (os : Os) (started : os.Started) (H : Type) (enc : TypeId × Value → H) :
    ReturnsInHanded {} Try.checked os 4 .any (Rows.leaseEndsSpec.pre6 enc Try.prog Try.f4 Rows.leaseEndsRow.domain false) (Rows.leaseEndsSpec.post enc Try.prog Try.f4 false true false false) := by
  refine returnsInHanded_of_change (C := Try.checked) own started (by kernel_rfl) Try.func4
    (ChangeSpec.witness6 (enc := enc) (C := Try.checked) false ⟨#[], #[.agg #[.int .i64 0, .slice none 0 0], .slice none 0 0, .agg #[.int .i64 0, .int .i64 0]], []⟩ 8 (by kernel_rfl) (by kernel_rfl) (by kernel_rfl) (by kernel_rfl)) ?_
  intro W base args ds gs before hval0 hW hcnd _
  have hval : ∀ (j : Nat) t v, Try.f4.params[j]? = some t → args[j]? = some v → Value.okWide Try.prog W .any base t v := hval0
  have hW' := hW
  obtain ⟨p, q, hA0, hV, rfl, hfz, hnd⟩ := hW
  have hA : DataW.TrodAll enc Try.prog W 0 (fun _ => true) true Try.f4.params.toList args.toList ds p := hA0
  rw [Try.params4] at hA hval
  obtain ⟨v0, vs0, d0, ds0, p0, q0, hargs, rfl, rfl, h0, r0⟩ := trodAll_cons hA
  obtain ⟨v1, vs1, d1, ds1, p1, q1, rfl, rfl, rfl, h1, r1⟩ := trodAll_cons r0
  obtain ⟨v2, vs2, d2, ds2, p2, q2, rfl, rfl, rfl, h2, r2⟩ := trodAll_cons r1
  obtain ⟨rfl, rfl, rfl⟩ := trodAll_nil r2
  obtain rfl : args = #[v0, v1, v2] := by cases args; simp_all
  obtain ⟨rfl, rfl⟩ := trodVars_none hV
  obtain ⟨s0, A0, n0, c0, rfl, k0⟩ := open_ls (hval 0 24 v0 rfl rfl) h0
  obtain ⟨A1, n1, c1, l1, rfl, k1⟩ := open_kvs (hval 1 34 v1 rfl rfl) h1
  obtain ⟨a2, b2, rfl, rfl, rfl, w2, u2⟩ := open_two_int Try.underlying25 Try.underlying3 (by kernel_rfl) (by kernel_rfl) (hval 2 25 v2 rfl rfl) h2
  clear hA0 hval0
  refine (walk W s0 A0 n0 c0 A1 n1 c1 l1 a2 b2 k0 k1 w2 u2).mono fun e W' ⟨he, bel⟩ => ?_
  subst he
  exact ⟨_, rfl, _, _, _, [], _, [], hW', trodAll_mk1 (shut_bool Try.underlying4 _), (trodAll_cons_mk (Below.trod laidOut (by kernel_rfl) (of_decide_eq_true (by kernel_rfl)) h0 bel (fun x hx => hW'.lt x (by simp [hx]))) (trodAll_cons_mk (Below.trod laidOut (by kernel_rfl) (of_decide_eq_true (by kernel_rfl)) h1 bel (fun x hx => hW'.lt x (by simp [hx]))) (trodAll_cons_mk (shut_two_int Try.underlying25 Try.underlying3 (by kernel_rfl) (by kernel_rfl) w2 u2) trodAll_mk0))), rfl, bel.frame _, fun h => by cases h⟩

theorem over : Rows.leaseEndsRow.holds Try.pinned (OpenSpec.ofChange Rows.leaseEndsSpec) :=
  OpenClaim.holds_of_wide 4 Try.f4 rfl rfl rfl rfl rfl rfl rfl ⟨rfl, rfl, rfl, rfl, rfl⟩ rfl rfl rfl rfl rfl (by kernel_rfl) Try.func4 (by kernel_rfl)
    (of_decide_eq_true (by kernel_rfl)) (by unfold Func.isWrapper; first | (rw [if_pos (by decide +kernel)]; kernel_rfl) | (rw [if_neg (by decide +kernel)]; exact ⟨rfl, rfl⟩))
    (fun os started H enc _ => lifted os started H enc)

theorem proved : Rows.LeaseEndsSaid := over
#print axioms proved
end Go.Proofs.Ytelepkofhdjagab.leaseEnds
