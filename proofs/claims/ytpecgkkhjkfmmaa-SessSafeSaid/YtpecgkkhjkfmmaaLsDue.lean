/- Leases: Due and Drops, both ways; whether two lists are the same. -/
import Derived.Test.YtpecgkkhjkfmmaaLsRow
import Derived.Test.YtpecgkkhjkfmmaaGenInts
namespace Go.Proofs.Ytpecgkkhjkfmmaa.P
open Go.RowKit Go.Sort
set_option maxHeartbeats 1000000
set_option linter.unusedVariables false
set_option linter.unusedSimpArgs false
set_option maxRecDepth 100000

/-- How a call ends that makes a row. -/
def RowEnd {α : Type} (cells : α → List Value) (q : Nat) (l : List α) (w : World) (e : Ending) (w' : World) : Prop := ∃ A n c, e = .returned (.slice A n c) ∧ RowsOf cells q w' A n c l ∧ Below w.heap.size w w'
theorem due_more {l : List Le} {now : Int} {j : Nat} {x : Le} (hx : l[j]? = some x) : dueL (l.take (j + 1)) now = if x.til ≤ now then dueL (l.take j) now ++ [x.id] else dueL (l.take j) now := by
  unfold dueL
  rw [take_succ l j x hx, List.filter_append, List.map_append]
  by_cases h : x.til ≤ now <;> simp [h]
theorem due_len (l : List Le) (now : Int) (j : Nat) : (dueL (l.take j) now).length ≤ j := by
  unfold dueL
  rw [List.length_map]
  exact Nat.le_trans (List.length_filter_le _ _) (by rw [List.length_take]; omega)
theorem due_any (s : Ls) (A : Option Addr) (n c : Nat) (now : Int) (w : World) (h : LsAt w s A n c) (hl : n ≤ 1000) :
    Calls Try.prog 45 #[s.agg A n c, .int .i64 now] w (RowEnd intC 1 (dueL s.l now) w) := by
  have H := Lib.hid (h.keep (new1 w (.cells (lsCells s A n c) 73)))
  have O := Lib.hid (own_new w (lsCells s A n c) 73)
  have HL := Lib.hid h.row.row.len
  have q1 := O.out.cell 1 _ rfl
  clear h
  go_enter Try.func45, Try.ntmps45
  go_wp2
  go_loopw [5, 11] (fun v i wr => ∃ (j k : Nat) (B : Option Addr) (d : Nat), j ≤ n ∧ k ≤ j ∧ v = .slice B k d ∧ i = .int .i64 j ∧ ownG intC 1 3 wr (w.heap.size + 1) B k d (dueL (s.l.take j) now) ∧ Below (w.heap.size + 1) (w.alloc (.cells (lsCells s A n c) 73)) wr) (fun _ i _ => n - (intOf i).toNat)
  case atStart => exact ⟨0, 0, none, 0, Nat.zero_le _, Nat.le_refl _, rfl, rfl, ownG_nil _ _ _ _ _, Below.refl _ _⟩
  case round =>
    obtain ⟨j, k, B, d, hj, hkj, rfl, rfl, hown, hbel⟩ := hrel
    have hsz : w.heap.size + 1 ≤ wr.heap.size := by have := hbel.size; simpa using this
    have HB := Lib.hid hbel
    have HO := Lib.hid hown
    have HLS : Hid (LsAt wr s A n c) := Lib.hid (H.out.keep (by simpa using hbel))
    clear hown hbel
    by_cases hlt : j < n
    · obtain ⟨a, x, rfl, hbl, hx, hok, hc⟩ := HLS.out.row.at_ hlt
      obtain ⟨c0, c1, c2⟩ := hc
      have HM := Lib.hid (due_more (now := now) hx)
      have BA := Lib.hid (HB.out.alloc hsz (x.obj 119))
      have OA := Lib.hid (HO.out.alloc (x.obj 119))
      clear hok hbl hx
      by_cases ht : x.til ≤ now
      · obtain ⟨B', d', w', hr, hown', hb'⟩ := app_ints (w.heap.size + 1) B k d _ (wr.alloc (x.obj 119)) x.id OA.out (by omega) (by simp; omega)
        have HO2 := Lib.hid hown'
        have HB2 := Lib.hid (BA.out.trans hb')
        have HM2 : Hid (dueL (s.l.take (j + 1)) now = dueL (s.l.take j) now ++ [x.id]) := Lib.hid (by rw [HM.out, if_pos ht])
        rw [show (wr.alloc (x.obj 119)).heap.size = wr.heap.size + 1 by simp] at hr
        clear hown' hb'
        go_wp2_with (at_builtin; refine wpList_append_eq _ rfl (.tmp 19) (.tmp 22) _ _ rfl _ _ rfl rfl hr ?_)
        go_roundw
        case rel => exact ⟨j + 1, k + 1, B', d', by omega, by omega, rfl, by go_num, by rw [HM2.out]; exact HO2.out, HB2.out⟩
        case measure => simp [intOf]; omega
      · have HM2 : Hid (dueL (s.l.take (j + 1)) now = dueL (s.l.take j) now) := Lib.hid (by rw [HM.out, if_neg ht])
        go_wp2
        go_roundw
        case rel => exact ⟨j + 1, k, B, d, by omega, by omega, rfl, by go_num, by rw [HM2.out]; exact OA.out, BA.out⟩
        case measure => simp [intOf]; omega
    · obtain rfl : j = n := by omega
      have HE : Hid (dueL (s.l.take j) now = dueL s.l now) := Lib.hid (by rw [take_full _ _ HL.out])
      go_wp2
      go_ret
      refine ⟨B, k, d, rfl, ?_, (new1 w _).trans (HB.out.mono (Nat.le_succ _))⟩
      rw [← HE.out]; exact ownG_rows intC_len (by omega) HO.out
end Go.Proofs.Ytpecgkkhjkfmmaa.P
