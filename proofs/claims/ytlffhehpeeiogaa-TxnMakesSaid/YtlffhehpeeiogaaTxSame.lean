/- Requests that hold the same deed: the document's comparison answers true. -/
import Derived.Test.YtlffhehpeeiogaaTxShort
namespace Go.Proofs.Ytlffhehpeeiogaa.P
open Go.RowKit Go.Sort
set_option maxHeartbeats 1000000
set_option linter.unusedVariables false
set_option linter.unusedSimpArgs false
set_option maxRecDepth 100000

theorem neq_mu_same (w : World) (g : Bool) (a b : ByteArray) (i : Int) :
    (binOp .neq 47 (.agg #[.bool g, .string a, .string b, .int .i64 i]) (.agg #[.bool g, .string a, .string b, .int .i64 i])).run Try.prog w = .ok (.bool false) w := by
  simp [go_sem, Try.underlying47]
theorem neq_cm_same (w : World) (a b : ByteArray) (i j k : Int) :
    (binOp .neq 53 (.agg #[.string a, .int .i64 i, .int .i64 j, .int .i64 k, .string b]) (.agg #[.string a, .int .i64 i, .int .i64 j, .int .i64 k, .string b])).run Try.prog w = .ok (.bool false) w := by
  simp [go_sem, Try.underlying53]
theorem eql_cm_same (w : World) (a b : ByteArray) (i j k : Int) :
    (binOp .eql 53 (.agg #[.string a, .int .i64 i, .int .i64 j, .int .i64 k, .string b]) (.agg #[.string a, .int .i64 i, .int .i64 j, .int .i64 k, .string b])).run Try.prog w = .ok (.bool true) w := by
  simp [go_sem, Try.underlying53]
theorem muts3_same (A B : Option Addr) (n c d : Nat) (l : List Mu) (w : World) (h : Mus w A n c l) (g : Mus w B n d l) :
    Calls Try.prog 78 #[.slice A n c, .slice B n d] w fun e w' => e = .returned (.bool true) ∧ Below w.heap.size w w' := by
  have hmax := Nat.le_trans h.le h.max
  unfold maxLen at hmax
  have H := Lib.hid h
  have G := Lib.hid g
  clear h g
  go_enter Try.func78, Try.ntmps78
  go_wp2
  go_loopw [5] (fun i wr => ∃ k q : Nat, k ≤ n ∧ i = .int .i64 k ∧ wr = w.drewN q) (fun i _ => n - (intOf i).toNat)
  case atStart => exact ⟨0, 0, Nat.zero_le _, rfl, rfl⟩
  case round =>
    obtain ⟨k, q, hk, rfl, rfl⟩ := hrel
    by_cases hlt : k < n
    · obtain ⟨a, x, rfl, hbl, hx, hok, hc⟩ := H.out.at_ hlt
      obtain ⟨b, y, rfl, gbl, hy, gok, gc⟩ := G.out.at_ hlt
      obtain rfl : x = y := Option.some.inj (hx.symm.trans hy)
      obtain ⟨c0, c1, c2, c3⟩ := hc
      obtain ⟨d0, d1, d2, d3⟩ := gc
      have hne := neq_mu_same
      clear hx hy hok gok hbl gbl
      go_wp2
      go_quiet (fail)
      go_wp2
      go_roundw
      case rel => exact ⟨k + 1, _, by omega, by go_num, rfl⟩
      case measure => simp [intOf]; omega
    · obtain rfl : k = n := by omega
      go_wp2
      go_ret
      exact ⟨rfl, below_drewN (Below.refl _ _) _⟩
theorem req_same (t : Tx) (A : Option Addr) (n c : Nat) (B : Option Addr) (m d : Nat) (C : Option Addr) (o e : Nat) (A' : Option Addr) (c' : Nat) (B' : Option Addr) (d' : Nat) (C' : Option Addr) (e' : Nat) (w : World) (h : TxAt w t A n c B m d C o e) (g : TxAt w t A' n c' B' m d' C' o e') :
    Calls Try.prog 48 #[.agg (reqV A n c B m d C o e), .agg (reqV A' n c' B' m d' C' o e')] w fun r w' => r = .returned (.bool true) ∧ Below w.heap.size w w' := by
  have hn := Nat.le_trans h.iff.row.le h.iff.row.max
  unfold maxLen at hn
  have bn := then_ (new1 w (.cells (reqV A n c B m d C o e) 60)) (new1 _ (.cells (reqV A' n c' B' m d' C' o e') 60))
  obtain ⟨W, hW⟩ : ∃ W, W = (w.alloc (.cells (reqV A n c B m d C o e) 60)).alloc (.cells (reqV A' n c' B' m d' C' o e') 60) := ⟨_, rfl⟩
  have B0 : Hid (Below w.heap.size w W) := Lib.hid (by rw [hW]; exact bn)
  have H := Lib.hid (h.keep B0.out)
  have G := Lib.hid (g.keep B0.out)
  have O : Hid (Own W w.heap.size 60 (reqV A n c B m d C o e)) := Lib.hid (by rw [hW]; exact (own_new w _ _).alloc _)
  have R : Hid (Own W (w.heap.size + 1) 60 (reqV A' n c' B' m d' C' o e')) := Lib.hid (by rw [hW]; exact own_new2 w _ _ _)
  have q10 := O.out.cell 10 _ rfl
  have q11 := O.out.cell 11 _ rfl
  have q12 := O.out.cell 12 _ rfl
  have r10 := R.out.cell 10 _ rfl
  have r11 := R.out.cell 11 _ rfl
  have r12 := R.out.cell 12 _ rfl
  have HW := Lib.hid hW
  clear h g bn hW
  go_enter Try.func48, Try.ntmps48
  go_wp2
  rw [← HW.out]
  clear HW
  go_loopw [5] (fun i wr => ∃ k q : Nat, k ≤ n ∧ i = .int .i64 k ∧ wr = W.drewN q) (fun i _ => n - (intOf i).toNat)
  case atStart => exact ⟨0, 0, Nat.zero_le _, rfl, rfl⟩
  case round =>
    obtain ⟨k, q, hk, rfl, rfl⟩ := hrel
    by_cases hlt : k < n
    · obtain ⟨a, x, rfl, hbl, hx, hok, hc⟩ := H.out.iff.at_ hlt
      obtain ⟨b, y, rfl, gbl, hy, gok, gc⟩ := G.out.iff.at_ hlt
      obtain rfl : x = y := Option.some.inj (hx.symm.trans hy)
      obtain ⟨g0, g1, g2, g3, g4⟩ := hc
      obtain ⟨f0, f1, f2, f3, f4⟩ := gc
      have hne := neq_cm_same
      clear hx hy hok gok hbl gbl
      go_wp2
      go_quiet (fail)
      go_wp2
      go_roundw
      case rel => exact ⟨k + 1, _, by omega, by go_num, rfl⟩
      case measure => simp [intOf]; omega
    · obtain rfl : k = n := by omega
      obtain ⟨W4, hW4⟩ : ∃ W4, W4 = W.drewN q := ⟨_, rfl⟩
      have S4 : Hid (Below W.heap.size W W4) := Lib.hid (by rw [hW4]; exact below_drewN (Below.refl _ _) _)
      rw [← hW4]
      clear hW4 q10 q11 q12 r10 r11 r12
      have O4 := Lib.hid (O.out.below S4.out); have R4 := Lib.hid (R.out.below S4.out); have H4 := Lib.hid (H.out.keep S4.out); have G4 := Lib.hid (G.out.keep S4.out)
      have B4 := Lib.hid (then_ B0.out S4.out)
      have q10 := O4.out.cell 10 _ rfl
      have q11 := O4.out.cell 11 _ rfl
      have q12 := O4.out.cell 12 _ rfl
      have r10 := R4.out.cell 10 _ rfl
      have r11 := R4.out.cell 11 _ rfl
      have r12 := R4.out.cell 12 _ rfl
      go_wp2_with fail
      refine (muts3_same B B' m d d' t.thn _ H4.out.thn G4.out.thn).mono ?_; rintro r w5 ⟨rfl, hb⟩
      have O5 := Lib.hid (O4.out.below hb); have R5 := Lib.hid (R4.out.below hb); have H5 := Lib.hid (H4.out.keep hb); have G5 := Lib.hid (G4.out.keep hb)
      have B5 := Lib.hid (then_ B4.out hb)
      clear hb q10 q11 q12 r10 r11 r12
      have q12 := O5.out.cell 12 _ rfl
      have r12 := R5.out.cell 12 _ rfl
      go_wp2_with fail
      refine (muts3_same C C' o e e' t.els _ H5.out.els G5.out.els).mono ?_; rintro r w6 ⟨rfl, hb⟩
      have B6 := Lib.hid (then_ B5.out hb); clear hb
      go_wp2
      go_ret
      exact ⟨rfl, B6.out⟩
end Go.Proofs.Ytlffhehpeeiogaa.P
