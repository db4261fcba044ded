/- Tickets: are the keys of a list pairwise unlike? -/
import Derived.Test.YtefldchhopgliaaTkLive
namespace Go.Proofs.Ytefldchhopgliaa.P
open Go.RowKit Go.Sort
set_option maxHeartbeats 1000000
set_option linter.unusedVariables false
set_option linter.unusedSimpArgs false
set_option maxRecDepth 100000

/-- The first j keys are pairwise unlike. -/
def unTo (l : List KV) : Nat → Bool
  | 0 => true
  | j + 1 => unTo l j && (match l[j]? with | some x => !metB (l.take j) x.key | none => true)
def unB (l : List KV) : Bool := unTo l l.length
theorem unTo_next (l : List KV) (j : Nat) (x : KV) (hx : l[j]? = some x) : unTo l (j + 1) = (unTo l j && !metB (l.take j) x.key) := by
  show (unTo l j && (match l[j]? with | some x => !metB (l.take j) x.key | none => true)) = _
  rw [hx]
theorem unTo_less (l : List KV) : ∀ m j, j ≤ m → unTo l m = true → unTo l j = true
  | 0, j, h, hm => by obtain rfl : j = 0 := by omega
                      exact hm
  | m + 1, j, h, hm => by
    by_cases e : j = m + 1
    · rw [e]; exact hm
    · refine unTo_less l m j (by omega) ?_
      unfold unTo at hm
      exact (Bool.and_eq_true_iff.1 hm).1
theorem unB_at {l : List KV} (h : unB l = true) (j : Nat) (x : KV) (hx : l[j]? = some x) : metB (l.take j) x.key = false := by
  have hj := (List.getElem?_eq_some_iff.1 hx).1
  have := unTo_less l l.length (j + 1) (by omega) h
  rw [unTo_next l j x hx] at this
  simpa using (Bool.and_eq_true_iff.1 this).2
theorem unlike_any (A : Option Addr) (n c : Nat) (l : List KV) (w : World) (h : KVs w A n c l) (hn : n ≤ 100000) :
    Calls Try.prog 25 #[.slice A n c] w fun e w' => e = .returned (.bool (unB l)) ∧ Below w.heap.size w w' := by
  have H := Lib.hid h
  have HL := Lib.hid h.len
  clear h
  go_enter Try.func25, Try.ntmps25
  go_wp2
  go_loopw [3] (fun i wr => ∃ j : Nat, j ≤ n ∧ i = .int .i64 j ∧ unTo l j = true ∧ Below w.heap.size w wr) (fun i _ => n - (intOf i).toNat)
  case atStart => exact ⟨0, Nat.zero_le _, rfl, rfl, Below.refl _ _⟩
  case round =>
    rename World => wr
    obtain ⟨j, hj, rfl, hun, hbel⟩ := hrel
    have HU := Lib.hid hun
    have HB := Lib.hid hbel
    clear hun hbel
    by_cases hlt : j < n
    · obtain ⟨a, x, rfl, hbl, hx, hok, hc⟩ := (H.out.keep HB.out).at_ hlt
      have HX := Lib.hid hx
      have HN := Lib.hid (unTo_next l j x hx)
      have hlt1 : (j : Int) < n := by omega
      clear hok hx hc
      go_wp2
      go_loopw [4] (fun i wq => ∃ k : Nat, k ≤ j ∧ i = .int .i64 k ∧ AllTo (fun y => !teq y.key x.key) l k ∧ Below wr.heap.size wr wq) (fun i _ => j - (intOf i).toNat)
      case atStart => exact ⟨0, Nat.zero_le _, rfl, rfl, Below.refl _ _⟩
      case round =>
        rename World => wq
        obtain ⟨k, hk, rfl, hall, hbq⟩ := hrel
        have HA := Lib.hid hall
        have BQ := Lib.hid (then_ HB.out hbq)
        have BR := Lib.hid hbq
        clear hall hbq
        by_cases hkj : k < j
        · obtain ⟨a1, y, ea, hbl1, hy, hok1, hc1⟩ := (H.out.keep BQ.out).at_ (show k < n by omega)
          obtain rfl := Option.some.inj ea
          obtain ⟨a2, x2, ea2, hbl2, hx2, hok2, hc2⟩ := (H.out.keep BQ.out).at_ hlt
          obtain rfl := Option.some.inj ea2
          obtain rfl := Option.some.inj (HX.out.symm.trans hx2)
          obtain ⟨c0, c1, c2, c3, c4, c5⟩ := hc1
          obtain ⟨d0, d1, d2, d3, d4, d5⟩ := hc2
          have HY := Lib.hid hy
          have hkn : (k : Int) < n := by omega
          have hkj1 : (k : Int) < j := by omega
          clear ea ea2 hok1 hok2 hx2 hy c1 c2 c3 c4 c5 d1 d2 d3 d4 d5
          cases ht : teq y.key x.key with
          | true =>
            have HT := Lib.hid ht
            have ht' : (y.key.toList == x.key.toList) = true := ht
            clear ht
            go_wp2
            go_quiet (fail)
            go_wp2
            go_ret
            have hm : metB (l.take j) x.key = true := List.any_eq_true.2 ⟨y, List.mem_of_getElem? (i := k) (by rw [List.getElem?_take_of_lt hkj]; exact HY.out), HT.out⟩
            have hf : unB l = false := by
              cases hu : unB l with
              | false => rfl
              | true => have := unB_at hu j x HX.out; rw [hm] at this; cases this
            exact ⟨by rw [hf]; rfl, below_drewN BQ.out _⟩
          | false =>
            have HT := Lib.hid ht
            have ht' : (y.key.toList == x.key.toList) = false := ht
            clear ht
            go_wp2
            go_quiet (fail)
            go_wp2
            go_roundw
            case rel => exact ⟨k + 1, by omega, by go_num, by show _ = true; rw [all_take_s l _ k y HY.out, HA.out.out, HT.out]; rfl, below_drewN BR.out _⟩
            case measure => simp [intOf]; omega
        · obtain rfl : k = j := by omega
          have hm : metB (l.take k) x.key = false := (met_iff _ _).2 (none_of_all HA.out)
          have hu : unTo l (k + 1) = true := by rw [HN.out, HU.out, hm]; rfl
          have HU2 := Lib.hid hu
          clear hm hu
          go_wp2
          go_roundw
          case rel => exact ⟨k + 1, by omega, by go_num, HU2.out, BQ.out⟩
          case measure => simp [intOf]; omega
    · obtain rfl : j = n := by omega
      go_wp2
      go_ret
      exact ⟨by rw [show unB l = true by unfold unB; rw [HL.out]; exact HU.out]; rfl, HB.out⟩
end Go.Proofs.Ytefldchhopgliaa.P
