/- Leases: whether they may be, the program's way and the document's; few of little. -/
import Derived.Test.YtelepkofhdjagabLs
import Derived.BigQuiet
import Derived.Lib.QuietBelow
namespace Go.Proofs.Ytelepkofhdjagab.P
open Go.RowKit Go.Sort
set_option maxHeartbeats 1000000
set_option linter.unusedVariables false
set_option linter.unusedSimpArgs false
set_option maxRecDepth 100000

/-- What mayLease tells: all but the Id. -/
def okT (x : Le) : Bool := decide (1 ≤ x.ttl ∧ x.ttl ≤ 1000 ∧ 0 ≤ x.til ∧ x.til ≤ 1099511627775 + x.ttl)
theorem okT_iff {x : Le} : okT x = true ↔ (1 ≤ x.ttl ∧ x.ttl ≤ 1000 ∧ 0 ≤ x.til ∧ x.til ≤ 1099511627775 + x.ttl) := by unfold okT; exact decide_eq_true_iff
theorem okLe_okT {n : Int} {x : Le} : okLe n x = true ↔ (1 ≤ x.id ∧ x.id ≤ n ∧ okT x = true) := by rw [okLe_iff, okT_iff]
theorem mayLease_any (x : Le) (w : World) (hx : x.ok) : Calls Try.prog 58 #[x.agg] w fun e w' => e = .returned (.bool (okT x)) ∧ Below w.heap.size w w' := by
  obtain ⟨_, ⟨t1, t2⟩, ⟨u1, u2⟩⟩ := hx
  have O := Lib.hid (own_new w #[.int .i64 x.id, .int .i64 x.ttl, .int .i64 x.til] 80)
  have q1 := O.out.cell 1 _ rfl
  have q2 := O.out.cell 2 _ rfl
  have BN := Lib.hid (new1 w (x.obj 80))
  cases ht : ttlB x.ttl with
  | false =>
    have HF : Hid (okT x = false) := Lib.hid (by
      cases h : okT x with
      | false => rfl
      | true => have := okT_iff.1 h; rw [show ttlB x.ttl = true from ttlB_iff.2 ⟨this.1, this.2.1⟩] at ht; cases ht)
    have cM := fun n => Calls.quiet_of_same ((ttl_any x.ttl ((w.alloc (x.obj 80)).drewN n)).mono fun e w' h => ⟨h.1, h.2.symm⟩)
    rw [ht] at cM
    clear ht
    go_enter Try.func58, Try.ntmps58
    go_wp2
    go_quiet ((first | (go_at_call 51; exact cM _)))
    go_wp2
    go_ret
    exact ⟨retB HF.out.symm, below_drewN BN.out _⟩
  | true =>
    have ht' := ttlB_iff.1 ht
    have cM := fun n => Calls.quiet_of_same ((ttl_any x.ttl ((w.alloc (x.obj 80)).drewN n)).mono fun e w' h => ⟨h.1, h.2.symm⟩)
    rw [ht] at cM
    have cB := fun n => Calls.quiet_of_same ((lbehind_any 1099511627775 x.ttl ((w.alloc (x.obj 80)).drewN n) ⟨by omega, by omega⟩).mono fun e w' h => ⟨h.1, h.2.symm⟩)
    by_cases hu : 0 ≤ x.til
    · have hd : decide (0 ≤ x.til) = true := by simp [hu]
      by_cases hv : x.til ≤ 1099511627775 + x.ttl
      · have HT : Hid (okT x = true) := Lib.hid (okT_iff.2 ⟨ht'.1, ht'.2, hu, hv⟩)
        clear ht
        go_enter Try.func58, Try.ntmps58
        go_wp2
        go_quiet ((first | (go_at_call 51; exact cM _) | (go_at_call 54; exact cB _)))
        go_wp2
        go_ret
        exact ⟨retB HT.out.symm, below_drewN BN.out _⟩
      · have HT : Hid (okT x = false) := Lib.hid (by
          cases h : okT x with
          | false => rfl
          | true => exact absurd (okT_iff.1 h).2.2.2 hv)
        clear ht
        go_enter Try.func58, Try.ntmps58
        go_wp2
        go_quiet ((first | (go_at_call 51; exact cM _) | (go_at_call 54; exact cB _)))
        go_wp2
        go_ret
        exact ⟨retB (by rw [HT.out]; exact decide_eq_false (by omega)), below_drewN BN.out _⟩
    · have hd : decide (0 ≤ x.til) = false := by simp [hu]
      have HT : Hid (okT x = false) := Lib.hid (by
          cases h : okT x with
          | false => rfl
          | true => exact absurd (okT_iff.1 h).2.2.1 hu)
      clear ht
      go_enter Try.func58, Try.ntmps58
      go_wp2
      go_quiet ((first | (go_at_call 51; exact cM _)))
      go_wp2
      go_ret
      exact ⟨retB HT.out.symm, below_drewN BN.out _⟩

theorem may_out {s : Ls} (h : ¬ (0 ≤ s.next ∧ s.next ≤ 1099511627775 ∧ s.l.length ≤ 8)) : mayL s = false := by
  unfold mayL; rw [decide_eq_false h]; rfl
theorem may_in {s : Ls} (h : 0 ≤ s.next ∧ s.next ≤ 1099511627775 ∧ s.l.length ≤ 8) : mayL s = (s.l.all (okLe s.next) && decide (Rises s.l)) := by
  unfold mayL; rw [decide_eq_true h]; rfl
theorem may_yes {s : Ls} (h : 0 ≤ s.next ∧ s.next ≤ 1099511627775 ∧ s.l.length ≤ 8) (ht : To s.next s.l s.l.length) : mayL s = true := by
  rw [may_in h, ht.all.1, decide_eq_true ht.all.2]; rfl
theorem may_no {s : Ls} {j : Nat} {x : Le} (h : To s.next s.l j) (hx : s.l[j]? = some x) (hb : ¬ (leastL s.l j ≤ x.id ∧ okLe s.next x = true)) : mayL s = false := by
  cases hm : mayL s with
  | false => rfl
  | true =>
    have := (mayL_iff s).1 hm
    exact absurd ⟨List.all_eq_true.2 this.ok, this.rise⟩ (h.bad hx hb)
theorem lmay_any (s : Ls) (A : Option Addr) (n c : Nat) (w : World) (h : LsAt w s A n c) :
    Calls Try.prog 22 #[s.agg A n c] w fun e w' => e = .returned (.bool (mayL s)) ∧ Below w.heap.size w w' := by
  have H := Lib.hid (h.keep (new1 w (.cells (lsCells s A n c) 24)))
  have O := Lib.hid (own_new w (lsCells s A n c) 24)
  have BN := Lib.hid (new1 w (.cells (lsCells s A n c) 24))
  have hl := h.row.row.len
  have hmax := Nat.le_trans h.row.row.le h.row.row.max
  unfold maxLen at hmax
  obtain ⟨hn1, hn2⟩ := h.next
  have q0 := O.out.cell 0 _ rfl
  have q1 := O.out.cell 1 _ rfl
  clear h
  by_cases hin : 0 ≤ s.next ∧ s.next ≤ 1099511627775 ∧ s.l.length ≤ 8
  · have HIN := Lib.hid hin
    obtain ⟨h1, h2, h3⟩ := hin
    rw [hl] at h3
    have HL := Lib.hid hl; clear hl
    go_enter Try.func22, Try.ntmps22
    go_wp2
    go_loopw [3, 23] (fun least i wr => ∃ j : Nat, j ≤ n ∧ least = .int .i64 (leastL s.l j) ∧ i = .int .i64 j ∧ To s.next s.l j ∧ Below (w.heap.size + 1) (w.alloc (.cells (lsCells s A n c) 24)) wr) (fun _ i _ => n - (intOf i).toNat)
    case atStart => exact ⟨0, Nat.zero_le _, rfl, rfl, To.zero _ _, Below.refl _ _⟩
    case round =>
      obtain ⟨j, hj, rfl, rfl, ht, hbel⟩ := hrel
      have hbel' : Below (w.alloc (.cells (lsCells s A n c) 24)).heap.size (w.alloc (.cells (lsCells s A n c) 24)) wr := by simpa using hbel
      have HT := Lib.hid ht
      have HB := Lib.hid hbel'
      have hlt0 : w.heap.size < wr.heap.size := by have := hbel'.size; simp at this; omega
      have r0 := (O.out.below hbel').cell 0 _ rfl
      have r1 := (O.out.below hbel').cell 1 _ rfl
      have hlo := leastL_pos ht
      clear ht hbel hbel'
      by_cases hlt : j < n
      · obtain ⟨a, x, rfl, hbl, hx, hok, hc⟩ := (H.out.keep HB.out).row.at_ hlt
        obtain ⟨c0, c1, c2⟩ := hc
        have HX := Lib.hid hx
        have HLS := Lib.hid (leastL_succ hx)
        have N := Lib.hid (own_new wr #[.int .i64 x.id, .int .i64 x.ttl, .int .i64 x.til] 80)
        have cT := mayLease_any x (wr.alloc (x.obj 80)) hok
        have CT := Lib.hid cT
        have fin : ∀ w2, Below (wr.alloc (x.obj 80)).heap.size (wr.alloc (x.obj 80)) w2 → Below (w.heap.size + 1) (w.alloc (.cells (lsCells s (some a) n c) 24)) w2 := fun w2 hb => by
          have h1 := HB.out
          rw [show (w.alloc (.cells (lsCells s (some a) n c) 24)).heap.size = w.heap.size + 1 by simp] at h1
          have h2 := h1.alloc (by have := h1.size; simpa using this) (x.obj 80)
          exact h2.trans (hb.mono (by have := h1.size; simp at this ⊢; omega))
        have FIN := Lib.hid fin
        clear hok hbl hx cT fin
        by_cases hid : x.id < leastL s.l j
        · have HF := Lib.hid (may_no HT.out HX.out (fun hh => by omega))
          go_wp2
          go_ret
          exact ⟨retB HF.out.symm, BN.out.trans ((FIN.out _ (Below.refl _ _)).mono (Nat.le_succ _))⟩
        · by_cases hid2 : s.next < x.id
          · have HF := Lib.hid (may_no HT.out HX.out (fun hh => by have := (okLe_iff.1 hh.2).2.1; omega))
            go_wp2
            go_ret
            exact ⟨retB HF.out.symm, BN.out.trans ((FIN.out _ (Below.refl _ _)).mono (Nat.le_succ _))⟩
          · cases hot : okT x with
            | false =>
              have HF := Lib.hid (may_no HT.out HX.out (fun hh => by have := (okLe_okT.1 hh.2).2.2; rw [hot] at this; cases this))
              have HOT := Lib.hid hot
              clear hot
              go_wp2_with fail
              refine CT.out.mono ?_; rintro e w2 ⟨rfl, hb⟩
              rw [HOT.out]
              have B2 := Lib.hid (FIN.out _ hb); clear hb
              go_wp2
              go_ret
              exact ⟨retB HF.out.symm, BN.out.trans (B2.out.mono (Nat.le_succ _))⟩
            | true =>
              have hokle : okLe s.next x = true := okLe_okT.2 ⟨by omega, by omega, hot⟩
              have HM := Lib.hid (HT.out.more HX.out (by omega) hokle)
              have HOT := Lib.hid hot
              have hid3 := (okLe_iff.1 hokle).2.1
              clear hot hokle
              go_wp2_with fail
              refine CT.out.mono ?_; rintro e w2 ⟨rfl, hb⟩
              rw [HOT.out]
              have B2 := Lib.hid (FIN.out _ hb)
              have p0 := (N.out.below hb).cell 0 _ rfl
              clear hb
              go_wp2
              go_roundw
              case rel => exact ⟨j + 1, by omega, by rw [HLS.out], by go_num, HM.out, B2.out⟩
              case measure => simp [intOf]; omega
      · obtain rfl : j = n := by omega
        have HF := Lib.hid (may_yes HIN.out (by rw [HL.out]; exact HT.out))
        have HB2 := Lib.hid (then_ BN.out HB.out)
        go_wp2
        go_ret
        exact ⟨retB HF.out.symm, HB2.out⟩
  · have HF := Lib.hid (may_out hin)
    rw [hl] at hin
    clear hl
    by_cases h1 : s.next < 0
    · clear hin
      go_enter Try.func22, Try.ntmps22
      go_wp2
      go_ret
      exact ⟨retB HF.out.symm, BN.out⟩
    · by_cases h2 : 1099511627775 < s.next
      · clear hin
        go_enter Try.func22, Try.ntmps22
        go_wp2
        go_ret
        exact ⟨retB HF.out.symm, BN.out⟩
      · have h3 : 8 < n := by omega
        clear hin
        go_enter Try.func22, Try.ntmps22
        go_wp2
        go_ret
        exact ⟨retB HF.out.symm, BN.out⟩
end Go.Proofs.Ytelepkofhdjagab.P
