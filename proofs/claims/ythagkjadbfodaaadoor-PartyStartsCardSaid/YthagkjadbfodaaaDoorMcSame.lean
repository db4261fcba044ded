/- Requests of a lock's machine that are the same; machines that are the same. -/
import Derived.Test.YthagkjadbfodaaaDoorMcWant
namespace Go.Proofs.YthagkjadbfodaaaDoor.P
open Go.RowKit Go.Sort
set_option maxHeartbeats 4000000
set_option linter.unusedVariables false
set_option linter.unusedSimpArgs false
set_option maxRecDepth 100000

def mcEq (a b : Mc) : Bool := decide (a.kind = b.kind) && (decide (a.name.toList = b.name.toList) && (decide (a.n = b.n) && (decide (a.val.toList = b.val.toList) && (decide (a.key.toList = b.key.toList) && (decide (a.lease = b.lease) && (decide (a.phase = b.phase) && (decide (a.tok = b.tok) && (decide (a.rev = b.rev) && decide (a.err = b.err)))))))))
theorem eql_mc_same (a : Mc) (w : World) : (binOp .eql 24 a.agg a.agg).run Tryd.prog w = .ok (.bool true) w := by
  simp [go_sem, Tryd.underlying24]
theorem same_rq (kind : Int) (once : Bool) (key : ByteArray) (rev : Int) (iff : List ACm) (thn : List AMu) (A : Option Addr) (n c : Nat) (B : Option Addr) (m d : Nat) (A' : Option Addr) (n' c' : Nat) (B' : Option Addr) (m' d' : Nat) (w : World)
    (hA : RowsOf ACm.cells 5 w A n c iff) (hB : RowsOf AMu.cells 4 w B m d thn) (gA : RowsOf ACm.cells 5 w A' n' c' iff) (gB : RowsOf AMu.cells 4 w B' m' d' thn) :
    Calls Tryd.prog 13 #[.agg (reqc kind once key rev A n c B m d), .agg (reqc kind once key rev A' n' c' B' m' d')] w fun r w' => r = .returned (.bool true) ∧ Below w.heap.size w w' := by
  obtain rfl : n = n' := hA.len.symm.trans gA.len
  obtain rfl : m = m' := hB.len.symm.trans gB.len
  have hn := Nat.le_trans hA.le hA.max
  unfold maxLen at hn
  have bn := then_ (new1 w (.cells (reqc kind once key rev A n c B m d) 36)) (new1 _ (.cells (reqc kind once key rev A' n c' B' m d') 36))
  obtain ⟨W, hW⟩ : ∃ W, W = (w.alloc (.cells (reqc kind once key rev A n c B m d) 36)).alloc (.cells (reqc kind once key rev A' n c' B' m d') 36) := ⟨_, rfl⟩
  have B0 : Hid (Below w.heap.size w W) := Lib.hid (by rw [hW]; exact bn)
  have HA := Lib.hid (hA.below B0.out)
  have HB := Lib.hid (hB.below B0.out)
  have GA := Lib.hid (gA.below B0.out)
  have GB := Lib.hid (gB.below B0.out)
  have O : Hid (Own W w.heap.size 36 (reqc kind once key rev A n c B m d)) := Lib.hid (by rw [hW]; exact (own_new w _ _).alloc _)
  have R : Hid (Own W (w.heap.size + 1) 36 (reqc kind once key rev A' n c' B' m d')) := Lib.hid (by rw [hW]; exact own_new2 w _ _ _)
  have q10 := O.out.cell 10 _ rfl
  have r10 := R.out.cell 10 _ rfl
  have HW := Lib.hid hW
  clear hA hB gA gB bn hW
  go_enter Tryd.func13, Tryd.ntmps13
  go_wp2
  rw [← HW.out]
  clear HW
  go_loopw [5] (fun i wr => ∃ k q : Nat, k ≤ n ∧ i = .int .i64 k ∧ wr = W.drewN q) (fun i _ => n - (intOf i).toNat)
  case atStart => exact ⟨0, 0, Nat.zero_le _, rfl, rfl⟩
  case round =>
    obtain ⟨k, q, hk, rfl, rfl⟩ := hrel
    by_cases hlt : k < n
    · obtain ⟨a, x, rfl, _, hx, hc⟩ := HA.out.at_ hlt
      obtain ⟨b, y, rfl, _, hy, hd⟩ := GA.out.at_ hlt
      obtain rfl : x = y := Option.some.inj (hx.symm.trans hy)
      have c0_ : W.cell? (a.add (k * 5)) = some (.string x.key) := hc 0 _ rfl
      have c1_ : W.cell? ⟨(a.add (k * 5)).block, (a.add (k * 5)).off + 1, none⟩ = some (.int .i64 1) := hc 1 _ rfl
      have c2_ : W.cell? ⟨(a.add (k * 5)).block, (a.add (k * 5)).off + 2, none⟩ = some (.int .i64 1) := hc 2 _ rfl
      have c3_ : W.cell? ⟨(a.add (k * 5)).block, (a.add (k * 5)).off + 3, none⟩ = some (.int .i64 x.rev) := hc 3 _ rfl
      have c4_ : W.cell? ⟨(a.add (k * 5)).block, (a.add (k * 5)).off + 4, none⟩ = some (.string ⟨#[]⟩) := hc 4 _ rfl
      have d0_ : W.cell? (b.add (k * 5)) = some (.string x.key) := hd 0 _ rfl
      have d1_ : W.cell? ⟨(b.add (k * 5)).block, (b.add (k * 5)).off + 1, none⟩ = some (.int .i64 1) := hd 1 _ rfl
      have d2_ : W.cell? ⟨(b.add (k * 5)).block, (b.add (k * 5)).off + 2, none⟩ = some (.int .i64 1) := hd 2 _ rfl
      have d3_ : W.cell? ⟨(b.add (k * 5)).block, (b.add (k * 5)).off + 3, none⟩ = some (.int .i64 x.rev) := hd 3 _ rfl
      have d4_ : W.cell? ⟨(b.add (k * 5)).block, (b.add (k * 5)).off + 4, none⟩ = some (.string ⟨#[]⟩) := hd 4 _ rfl
      have hne := fun w' => neq_cm_same w' x
      have hlt1 : (k : Int) < n := by omega
      clear hx hy hc hd
      go_wp2
      go_quiet (fail)
      go_wp2
      go_roundw
      case rel => exact ⟨k + 1, _, by omega, by go_num, rfl⟩
      case measure => simp [intOf]; omega
    · obtain rfl : k = n := by omega
      obtain ⟨W4, hW4⟩ : ∃ W4, W4 = W.drewN q := ⟨_, rfl⟩
      have S4 : Hid (Below W.heap.size W W4) := Lib.hid (by rw [hW4]; exact below_drewN (Below.refl _ _) _)
      rw [← hW4]
      clear hW4 q10 r10
      have O4 := Lib.hid (O.out.below S4.out); have R4 := Lib.hid (R.out.below S4.out); have HB4 := Lib.hid (HB.out.below S4.out); have GB4 := Lib.hid (GB.out.below S4.out)
      have B4 := Lib.hid (then_ B0.out S4.out)
      have q10 := O4.out.cell 10 _ rfl
      have q11 := O4.out.cell 11 _ rfl
      have q12 := O4.out.cell 12 _ rfl
      have r10 := R4.out.cell 10 _ rfl
      have r11 := R4.out.cell 11 _ rfl
      have r12 := R4.out.cell 12 _ rfl
      go_wp2_with fail
      refine (muts3_same B B' m d d' thn _ HB4.out GB4.out).mono ?_; rintro r w5 ⟨rfl, hb⟩
      have O5 := Lib.hid (O4.out.below hb); have R5 := Lib.hid (R4.out.below hb)
      have B5 := Lib.hid (then_ B4.out hb)
      clear hb q10 q11 q12 r10 r11 r12
      have q12 := O5.out.cell 12 _ rfl
      have r12 := R5.out.cell 12 _ rfl
      go_wp2_with fail
      refine (muts3_same none none 0 0 0 [] _ (RowsOf.bare _) (RowsOf.bare _)).mono ?_; rintro r w6 ⟨rfl, hb⟩
      have B6 := Lib.hid (then_ B5.out hb); clear hb
      go_wp2
      go_ret
      exact ⟨rfl, B6.out⟩
end Go.Proofs.YthagkjadbfodaaaDoor.P
