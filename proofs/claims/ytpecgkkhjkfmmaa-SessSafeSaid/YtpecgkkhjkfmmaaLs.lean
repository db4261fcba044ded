/- Leases: what a slice of them reads as; the calls that only look: mayTTL, may, time, behind, mayLease, find, place, Has. -/
import Derived.Test.YtpecgkkhjkfmmaaLsPure
import Derived.Test.YtpecgkkhjkfmmaaBaseOwn
import Derived.RegionTactic
import Derived.ChangeAlike
namespace Go.Proofs.Ytpecgkkhjkfmmaa.P
open Go.RowKit Go.Sort
set_option maxHeartbeats 1000000
set_option linter.unusedVariables false
set_option linter.unusedSimpArgs false
set_option maxRecDepth 100000

structure Le.ok (x : Le) : Prop where
  id : inI x.id
  ttl : inI x.ttl
  til : inI x.til
abbrev Le.agg (x : Le) : Value := .agg #[.int .i64 x.id, .int .i64 x.ttl, .int .i64 x.til]
abbrev Le.obj (x : Le) (t : TypeId) : Obj := .cells #[.int .i64 x.id, .int .i64 x.ttl, .int .i64 x.til] t
def Le.cells (x : Le) : List Value := [.int .i64 x.id, .int .i64 x.ttl, .int .i64 x.til]
theorem le_len (x : Le) : x.cells.length = 3 := rfl
theorem le_one (x : Le) : ∀ v ∈ x.cells, v.oneCell' = true := by intro v h; simp [Le.cells] at h; rcases h with rfl | rfl | rfl <;> rfl
structure At3 (w : World) (p : Addr) (x : Le) : Prop where
  c0 : w.cell? p = some (.int .i64 x.id)
  c1 : w.cell? ⟨p.block, p.off + 1, none⟩ = some (.int .i64 x.ttl)
  c2 : w.cell? ⟨p.block, p.off + 2, none⟩ = some (.int .i64 x.til)
/-- What a slice of leases reads as. -/
structure Les (w : World) (A : Option Addr) (n c : Nat) (l : List Le) : Prop where
  row : RowsOf Le.cells 3 w A n c l
  ok : ∀ x ∈ l, x.ok
theorem Les.keep {w w' : World} {A : Option Addr} {n c : Nat} {l : List Le} (h : Les w A n c l) (hb : Below w.heap.size w w') : Les w' A n c l := ⟨h.row.below hb, h.ok⟩
theorem Les.at_ {w : World} {A : Option Addr} {n c k : Nat} {l : List Le} (h : Les w A n c l) (hk : k < n) : ∃ a x, A = some a ∧ a.block < w.heap.size ∧ l[k]? = some x ∧ x.ok ∧ At3 w (a.add (k * 3)) x := by
  obtain ⟨a, x, e, hb, hx, hl⟩ := h.row.at_ hk
  exact ⟨a, x, e, hb, hx, h.ok x (List.mem_of_getElem? hx), ⟨hl 0 _ rfl, hl 1 _ rfl, hl 2 _ rfl⟩⟩
theorem Les.bare (w : World) : Les w none 0 0 [] := ⟨RowsOf.bare w, fun _ h => by simp at h⟩
abbrev Ls.agg (s : Ls) (A : Option Addr) (n c : Nat) : Value := .agg #[.int .i64 s.next, .slice A n c]
abbrev lsCells (s : Ls) (A : Option Addr) (n c : Nat) : Array Value := #[.int .i64 s.next, .slice A n c]
structure LsAt (w : World) (s : Ls) (A : Option Addr) (n c : Nat) : Prop where
  row : Les w A n c s.l
  next : inI s.next
theorem LsAt.keep {w w' : World} {s : Ls} {A : Option Addr} {n c : Nat} (h : LsAt w s A n c) (hb : Below w.heap.size w w') : LsAt w' s A n c := ⟨h.row.keep hb, h.next⟩
theorem ttl_any (t : Int) (w : World) : Calls Try.prog 70 #[.int .i64 t] w fun e w' => e = .returned (.bool (ttlB t)) ∧ w = w' := by
  have HT : Hid (∀ p : Prop, [Decidable p] → (p ↔ (1 ≤ t ∧ t ≤ 1000)) → decide p = ttlB t) := Lib.hid (fun p _ h => by unfold ttlB; exact decide_eq_decide.2 h)
  go_enter Try.func70, Try.ntmps70
  go_wp2
  all_goals go_ret
  all_goals exact ⟨retB (by first | exact HT.out _ (by omega) | (have := HT.out (1 ≤ t ∧ t ≤ 1000) Iff.rfl; rw [← this]; symm; simp; omega)), rfl⟩
theorem tmay_any (t : Int) (w : World) : Calls Try.prog 71 #[.int .i64 t] w fun e w' => e = .returned (.bool (atB t)) ∧ w = w' := by
  have HT : Hid (∀ p : Prop, [Decidable p] → (p ↔ (0 ≤ t ∧ t ≤ 1099511627775)) → decide p = atB t) := Lib.hid (fun p _ h => by unfold atB; exact decide_eq_decide.2 h)
  go_enter Try.func71, Try.ntmps71
  go_wp2
  all_goals go_ret
  all_goals exact ⟨retB (by first | exact HT.out _ (by omega) | (have := HT.out (0 ≤ t ∧ t ≤ 1099511627775) Iff.rfl; rw [← this]; symm; simp; omega)), rfl⟩
theorem lbehind_any (t u : Int) (w : World) (h : inI (t + u)) : Calls Try.prog 73 #[.int .i64 t, .int .i64 u] w fun e w' => e = .returned (.int .i64 (t + u)) ∧ w = w' := by
  obtain ⟨h1, h2⟩ := h
  go_enter Try.func73, Try.ntmps73
  go_wp2
  go_ret
  exact ⟨rfl, rfl⟩
theorem lfind_any (A : Option Addr) (n c : Nat) (l : List Le) (id : Int) (w : World) (h : Les w A n c l) :
    Calls Try.prog 74 #[.slice A n c, .int .i64 id] w fun e w' => e = .returned (.int .i64 (placeL l id)) ∧ Below w.heap.size w w' := by
  have H := Lib.hid h
  have HL := Lib.hid h.row.len
  have hmax := Nat.le_trans h.row.le h.row.max
  unfold maxLen at hmax
  clear h
  go_enter Try.func74, Try.ntmps74
  go_wp2
  go_step3
  go_wp2
  go_step3
  go_wp2
  go_loopw [5, 10] (fun at_ i wr => ∃ j : Nat, j ≤ n ∧ at_ = .int .i64 (-1) ∧ i = .int .i64 j ∧ NoneTo l id j ∧ Below w.heap.size w wr) (fun _ i _ => n - (intOf i).toNat)
  case atStart => exact ⟨0, Nat.zero_le _, rfl, rfl, NoneTo.zero _ _, Below.refl _ _⟩
  case round =>
    obtain ⟨j, hj, rfl, rfl, hn, hbel⟩ := hrel
    have HN := Lib.hid hn
    have HB := Lib.hid hbel
    clear hn hbel
    by_cases hlt : j < n
    · obtain ⟨a, x, rfl, hbl, hx, hok, hc⟩ := (H.out.keep HB.out).at_ hlt
      obtain ⟨c0, c1, c2⟩ := hc
      have HX := Lib.hid hx
      clear hok hbl hx
      by_cases he : x.id = id
      · have HP : Hid (placeL l id = (j : Int)) := Lib.hid (by unfold placeL; rw [idxL_hit HN.out HX.out he])
        go_wp2
        rw [Exit.noGoto_ret]
        go_ret
        exact ⟨retI HP.out.symm, HB.out.alloc HB.out.size _⟩
      · have HM := Lib.hid (HN.out.more HX.out he)
        go_wp2
        go_roundw
        case rel => exact ⟨j + 1, by omega, rfl, by go_num, HM.out, HB.out.alloc HB.out.size _⟩
        case measure => simp [intOf]; omega
    · obtain rfl : j = n := by omega
      have HP : Hid (placeL l id = -1) := Lib.hid (by unfold placeL; rw [idxL_none (by rw [HL.out]; exact HN.out)])
      go_wp2
      rw [Exit.noGoto_ret]
      go_ret
      exact ⟨retI HP.out.symm, HB.out⟩
end Go.Proofs.Ytpecgkkhjkfmmaa.P
