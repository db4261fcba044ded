/- Layer 4's examples, which each law asks for, too. -/
import Derived.Test.YtlpnnbjdolodcaaKvEv
import Derived.Test.YtlpnnbjdolodcaaKvMay
import Derived.Test.YtlpnnbjdolodcaaKvFrom
namespace Go.Proofs.Ytlpnnbjdolodcaa.P
open Go.RowKit Go.Sort
set_option maxHeartbeats 1000000
set_option linter.unusedVariables false
set_option maxRecDepth 100000

theorem new_drew (w : World) : Below w.heap.size w w.drew := Below.drew (Below.refl _ _)
abbrev zeroKV : KV := ⟨⟨#[]⟩, ⟨#[]⟩, 0, 0, 0, 0⟩
def mkKV (k : ByteArray) (n : Int) : KV := ⟨k, ⟨#[]⟩, n, n, 1, 0⟩
theorem mk_any (k : ByteArray) (n : Int) (w : World) :
    Calls Try.prog 26 #[.string k, .int .i64 n] w fun e w' => e = .returned (mkKV k n).agg ∧ Below w.heap.size w w' := by
  go_enter Try.func26, Try.ntmps26
  go_wp2
  refine bodyPost_ret (v := (mkKV k n).agg) (by simp [results, Try.results26, go_sem, mkKV]) rfl ⟨rfl, ?_⟩
  exact (Below.refl _ _).alloc (Nat.le_refl _) _

/-- A list that is written out. -/
theorem kvs_lit (w : World) (l : List KV) (cs : Array Value) (hcs : cs.toList = cellsL l) (ok : ∀ x ∈ l, x.ok) (hn : l.length ≤ 1000) : KVs (w.alloc (.cells cs 26)) (some ⟨w.heap.size, 0, none⟩) l.length l.length l := by
  have hs : cs.size = l.length * 6 := by rw [← Array.length_toList, hcs, cellsL_len]
  have := World.ownsRow_lit (base := w.heap.size) (e := 26) (size := 6) w cs l.length (Nat.le_refl _) (by simp only [maxLen]; omega) hs
  rw [hcs] at this
  exact own_kvs this ok
def bA : ByteArray := ⟨#[97]⟩
def bB : ByteArray := ⟨#[98]⟩
def bBB : ByteArray := ⟨#[98, 98]⟩
def bC : ByteArray := ⟨#[99]⟩
def bD : ByteArray := ⟨#[100]⟩
def bZ : ByteArray := ⟨#[122]⟩
theorem mk_ok (k : ByteArray) (n : Int) (hk : k.size ≤ 1000) (hn : 0 ≤ n) (hm : n ≤ 1000) : (mkKV k n).ok := by
  refine ⟨by simp only [maxLen, mkKV]; omega, by simp [mkKV, maxLen, ByteArray.size], ?_, ?_, ?_, ?_⟩ <;> simp only [mkKV, inI] <;> omega
theorem ex_lay : layL [mkKV bA 1, mkKV bC 2] (mkKV bB 3) = [mkKV bA 1, mkKV bB 3, mkKV bC 2] := by
  simp [layL, tlt, teq, mkKV, ByteArray.toList_eq, bA, bB, bC, Op.bytesLess]
theorem ex_lay2 : layL [mkKV bA 1, mkKV bB 3, mkKV bC 2] (mkKV bBB 4) = [mkKV bA 1, mkKV bB 3, mkKV bBB 4, mkKV bC 2] := by
  simp [layL, tlt, teq, mkKV, ByteArray.toList_eq, bA, bB, bBB, bC, Op.bytesLess]
theorem ex_find : findL [mkKV bA 1, mkKV bB 3, mkKV bC 2] bB = some (mkKV bB 3) := by
  simp [findL, teq, mkKV, ByteArray.toList_eq, bA, bB]
theorem ex_find2 : findL [mkKV bA 1, mkKV bB 3, mkKV bC 2] bD = none := by
  simp [findL, teq, mkKV, ByteArray.toList_eq, bA, bB, bC, bD]
theorem ex_take : takeL [mkKV bA 1, mkKV bB 3, mkKV bC 2] bA = [mkKV bB 3, mkKV bC 2] := by
  simp [takeL, teq, mkKV, ByteArray.toList_eq, bA]
theorem ex_from : fromL [mkKV bA 1, mkKV bB 3, mkKV bBB 4, mkKV bC 2] bB = [mkKV bB 3, mkKV bBB 4] := by
  simp [fromL, begins, mkKV, ByteArray.toList_eq, bA, bB, bBB, bC]
theorem ex_fold : foldL [] [⟨1, false, mkKV bA 1⟩, ⟨2, true, mkKV bA 1⟩, ⟨3, false, mkKV bZ 3⟩] 2 = [] := by
  simp [foldL, stepL, layL, takeL, teq, mkKV, ByteArray.toList_eq, bA]
theorem ex_may : mayP oneB [mkKV bA 1, mkKV bB 3, mkKV bC 2] = true := by
  simp [mayP, rises, tlt, oneB, OneP, checkL, madeL, inB, mkKV, ByteArray.toList_eq, bA, bB, bC, Op.bytesLess, ByteArray.size]
theorem ex_may2 : mayP oneB [mkKV bB 1, mkKV bA 1] = false := by
  simp [mayP, rises, tlt, mkKV, ByteArray.toList_eq, bA, bB, Op.bytesLess]
theorem ex_may3 : mayP oneB [mkKV bA 0] = false := by
  simp [mayP, oneB, OneP, mkKV]

theorem live_any (w : World) : Calls Try.prog 10 #[] w fun e w' => e = .returned (.bool true) ∧ Below w.heap.size w w' := by
  have O1 := mk_ok bA 1 (by decide) (by decide) (by decide)
  have O2 := mk_ok bC 2 (by decide) (by decide) (by decide)
  have O3 := mk_ok bB 3 (by decide) (by decide) (by decide)
  have O4 := mk_ok bBB 4 (by decide) (by decide) (by decide)
  have O5 := mk_ok bZ 3 (by decide) (by decide) (by decide)
  have O6 := mk_ok bA 0 (by decide) (by decide) (by decide)
  have O7 := mk_ok bB 1 (by decide) (by decide) (by decide)
  go_enter Try.func10, Try.ntmps10
  go_wp2_with fail
  refine (mk_any bA 1 _).mono ?_; rintro e w1 ⟨rfl, hb⟩
  have B1 := Lib.hid hb; clear hb
  go_wp2_with fail
  refine (mk_any bC 2 _).mono ?_; rintro e w2 ⟨rfl, hb⟩
  have B2 := Lib.hid (then_ B1.out hb); clear hb
  have H1 := Lib.hid (kvs_lit w2 [mkKV bA 1, mkKV bC 2] #[.string bA, .string ⟨#[]⟩, .int .i64 1, .int .i64 1, .int .i64 1, .int .i64 0, .string bC, .string ⟨#[]⟩, .int .i64 2, .int .i64 2, .int .i64 1, .int .i64 0] rfl (by intro x hx; simp at hx; rcases hx with rfl | rfl; exact O1; exact O2) (by simp))
  go_wp2_with fail
  refine (mk_any bB 3 _).mono ?_; rintro e w3 ⟨rfl, hb⟩
  have H1b := Lib.hid (H1.out.keep hb)
  have B3 := Lib.hid (then_ B2.out (past1 hb)); clear hb
  go_wp2_with fail
  refine (Lay_any _ _ _ _ (mkKV bB 3) _ H1b.out O3 (by simp)).mono ?_; rintro e w4 ⟨A4, n4, c4, rfl, h4, hb⟩
  rw [ex_lay] at h4
  obtain rfl : n4 = 3 := h4.len.symm
  have H4 := Lib.hid h4; clear h4
  have B4 := Lib.hid (then_ B3.out hb); clear hb
  go_wp2_with fail
  refine (find_any _ _ _ _ bB _ H4.out (by simp)).mono ?_; rintro e w5 h
  rw [ex_find] at h
  obtain ⟨rfl, hb⟩ := h.some_
  have X5 := Lib.hid (at6_new w5 (mkKV bB 3) 26)
  have H5 := Lib.hid ((H4.out.keep hb).keep (new1 _ ((mkKV bB 3).obj 26)))
  have B5 := Lib.hid (then_ (then_ B4.out hb) (new1 _ ((mkKV bB 3).obj 26))); clear hb h
  go_wp2_with fail
  refine (find_any _ _ _ _ bD _ H5.out (by simp)).mono ?_; rintro e w6 h
  rw [ex_find2] at h
  obtain ⟨rfl, hb⟩ := h.none_
  have hb2 := then_ hb (new1 w6 (.cells #[.string ⟨#[]⟩, .string ⟨#[]⟩, .int .i64 0, .int .i64 0, .int .i64 0, .int .i64 0] 26))
  have X6 := Lib.hid (X5.out.on hb2)
  have H6 := Lib.hid (H5.out.keep hb2)
  have B6 := Lib.hid (then_ B5.out hb2); clear hb hb2 h
  go_wp2_with fail
  refine (Take_any _ _ _ _ bA _ H6.out (by simp)).mono ?_; rintro e w7 ⟨A7, n7, c7, rfl, h7, hb⟩
  rw [ex_take] at h7
  obtain rfl : n7 = 2 := h7.len.symm
  have T7 := Lib.hid h7
  have X7 := Lib.hid (X6.out.on hb)
  have H7 := Lib.hid (H6.out.keep hb)
  have B7 := Lib.hid (then_ B6.out hb); clear hb h7
  go_wp2_with fail
  refine (mk_any bBB 4 _).mono ?_; rintro e w8 ⟨rfl, hb⟩
  have T8 := Lib.hid (T7.out.keep hb)
  have X8 := Lib.hid (X7.out.on hb)
  have H8 := Lib.hid (H7.out.keep hb)
  have B8 := Lib.hid (then_ B7.out hb); clear hb
  go_wp2_with fail
  refine (Lay_any _ _ _ _ (mkKV bBB 4) _ H8.out O4 (by simp)).mono ?_; rintro e w9 ⟨A9, n9, c9, rfl, h9, hb⟩
  rw [ex_lay2] at h9
  obtain rfl : n9 = 4 := h9.len.symm
  have L9 := Lib.hid h9
  have T9 := Lib.hid (T8.out.keep hb)
  have X9 := Lib.hid (X8.out.on hb)
  have H9 := Lib.hid (H8.out.keep hb)
  have B9 := Lib.hid (then_ B8.out hb); clear hb h9
  go_wp2_with fail
  refine (From_any _ _ _ _ bB _ L9.out (by simp) (by simp [maxLen, bB, ByteArray.size])).mono ?_; rintro e w10 ⟨A10, n10, c10, rfl, h10, hb⟩
  rw [ex_from] at h10
  obtain rfl : n10 = 2 := h10.len.symm
  have F10 := Lib.hid h10
  have T10 := Lib.hid (T9.out.keep hb)
  have X10 := Lib.hid (X9.out.on hb)
  have H10 := Lib.hid (H9.out.keep hb)
  have B10 := Lib.hid (then_ B9.out hb); clear hb h10
  go_wp2_with fail
  refine (mk_any bA 1 _).mono ?_; rintro e w11 ⟨rfl, hb1⟩
  go_wp2_with fail
  refine (mk_any bA 1 _).mono ?_; rintro e w12 ⟨rfl, hb2⟩
  go_wp2_with fail
  refine (mk_any bZ 3 _).mono ?_; rintro e w13 ⟨rfl, hb3⟩
  have hb := then_ (then_ (then_ hb1 hb2) hb3) (new1 w13 (.cells #[.int .i64 1, .bool false, .string bA, .string ⟨#[]⟩, .int .i64 1, .int .i64 1, .int .i64 1, .int .i64 0, .int .i64 2, .bool true, .string bA, .string ⟨#[]⟩, .int .i64 1, .int .i64 1, .int .i64 1, .int .i64 0, .int .i64 3, .bool false, .string bZ, .string ⟨#[]⟩, .int .i64 3, .int .i64 3, .int .i64 1, .int .i64 0] 38))
  have E13 := Lib.hid (evs_of_row (g := w13.heap.size) (n := 3) (c := 3) (l := [⟨1, false, mkKV bA 1⟩, ⟨2, true, mkKV bA 1⟩, ⟨3, false, mkKV bZ 3⟩]) (heap_alloc_new w13 (.cells #[.int .i64 1, .bool false, .string bA, .string ⟨#[]⟩, .int .i64 1, .int .i64 1, .int .i64 1, .int .i64 0, .int .i64 2, .bool true, .string bA, .string ⟨#[]⟩, .int .i64 1, .int .i64 1, .int .i64 1, .int .i64 0, .int .i64 3, .bool false, .string bZ, .string ⟨#[]⟩, .int .i64 3, .int .i64 3, .int .i64 1, .int .i64 0] 38)) rfl (Nat.le_refl _) (by simp [maxLen]) rfl (by intro x hx; simp at hx; rcases hx with rfl | rfl | rfl; exact ⟨by simp [inI], O1⟩; exact ⟨by simp [inI], O1⟩; exact ⟨by simp [inI], O5⟩))
  have F13 := Lib.hid (F10.out.keep hb)
  have T13 := Lib.hid (T10.out.keep hb)
  have X13 := Lib.hid (X10.out.on hb)
  have H13 := Lib.hid (H10.out.keep hb)
  have B13 := Lib.hid (then_ B10.out hb); clear hb hb1 hb2 hb3
  go_wp2_with fail
  refine (fold_any none 0 0 [] _ _ _ _ 2 _ (KVs.bare _) E13.out (by simp)).mono ?_; rintro e w14 ⟨A14, n14, c14, rfl, h14, hb⟩
  rw [ex_fold] at h14
  obtain rfl : n14 = 0 := h14.len.symm
  have F14 := Lib.hid (F13.out.keep hb)
  have T14 := Lib.hid (T13.out.keep hb)
  have X14 := Lib.hid (X13.out.on hb)
  have H14 := Lib.hid (H13.out.keep hb)
  have B14 := Lib.hid (then_ B13.out hb); clear hb h14
  obtain ⟨a4, x4, rfl, _, hx4, _, hc4⟩ := H14.out.at_ (show 1 < 3 by omega)
  obtain rfl : mkKV bB 3 = x4 := Option.some.inj hx4
  obtain ⟨a7, x7, rfl, _, hx7, _, hc7⟩ := T14.out.at_ (show 0 < 2 by omega)
  obtain rfl : mkKV bB 3 = x7 := Option.some.inj hx7
  obtain ⟨a10, x10, rfl, _, hx10, _, hc10⟩ := F14.out.at_ (show 1 < 2 by omega)
  obtain rfl : mkKV bBB 4 = x10 := Option.some.inj hx10
  have k4 : w14.cell? ⟨a4.block, a4.off + 6, none⟩ = some (.string ⟨#[98]⟩) := hc4.c0
  have k7 : w14.cell? a7 = some (.string ⟨#[98]⟩) := hc7.c0
  have k10 : w14.cell? ⟨a10.block, a10.off + 6, none⟩ = some (.string ⟨#[98, 98]⟩) := hc10.c0
  have kx : w14.cell? ⟨w5.heap.size, 3, none⟩ = some (.int .i64 3) := X14.out.c3
  clear hx4 hx7 hx10 hc4 hc7 hc10
  go_wp2_with fail
  refine (may_any _ _ _ _ _ H14.out (by simp)).mono ?_; rintro e w15 ⟨rfl, hb⟩
  rw [ex_may]
  have B15 := Lib.hid (then_ B14.out hb); clear hb
  go_wp2_with fail
  refine (mk_any bB 1 _).mono ?_; rintro e w16 ⟨rfl, hb⟩
  have B16 := Lib.hid (then_ B15.out hb); clear hb
  go_wp2_with fail
  refine (mk_any bA 1 _).mono ?_; rintro e w17 ⟨rfl, hb⟩
  have B17 := Lib.hid (then_ B16.out hb); clear hb
  have M17 := Lib.hid (kvs_lit w17 [mkKV bB 1, mkKV bA 1] #[.string bB, .string ⟨#[]⟩, .int .i64 1, .int .i64 1, .int .i64 1, .int .i64 0, .string bA, .string ⟨#[]⟩, .int .i64 1, .int .i64 1, .int .i64 1, .int .i64 0] rfl (by intro x hx; simp at hx; rcases hx with rfl | rfl; exact O7; exact O1) (by simp))
  go_wp2_with fail
  refine (may_any _ _ _ _ _ M17.out (by simp)).mono ?_; rintro e w18 ⟨rfl, hb⟩
  rw [ex_may2]
  have B18 := Lib.hid (then_ B17.out (past1 hb)); clear hb
  go_wp2_with fail
  refine (mk_any bA 0 _).mono ?_; rintro e w19 ⟨rfl, hb⟩
  have B19 := Lib.hid (then_ B18.out hb); clear hb
  have M19 := Lib.hid (kvs_lit w19 [mkKV bA 0] #[.string bA, .string ⟨#[]⟩, .int .i64 0, .int .i64 0, .int .i64 1, .int .i64 0] rfl (by intro x hx; simp at hx; rcases hx with rfl; exact O6) (by simp))
  go_wp2_with fail
  refine (may_any _ _ _ _ _ M19.out (by simp)).mono ?_; rintro e w20 ⟨rfl, hb⟩
  rw [ex_may3]
  have B20 := Lib.hid (then_ B19.out (past1 hb)); clear hb
  go_wp2
  go_ret
  exact ⟨rfl, B20.out⟩
end Go.Proofs.Ytlpnnbjdolodcaa.P
