/- What may be done at one revision, and a store that is shrunk: the document's answers. -/
import Derived.Test.YtgafkpngnoecaaaMvShrink
import Derived.Test.YtgafkpngnoecaaaMvLog
import Derived.Deep.RegionHeld3
import Derived.Deep.RegionLaw
namespace Go.Proofs.Ytgafkpngnoecaaa.P
open Go.RowKit Go.Sort
set_option maxHeartbeats 2000000
set_option linter.unusedVariables false
set_option linter.unusedSimpArgs false
set_option maxRecDepth 100000

theorem mut_key {x : Mu} (h : checkL x.key.data.toList = false) : mutB x = false := by unfold mutB; rw [h]; rfl
theorem mut_lim {x : Mu} (h : ¬ (x.val.size ≤ 20 ∧ 0 ≤ x.lea ∧ x.lea ≤ 1099511627775)) : mutB x = false := by unfold mutB; rw [decide_eq_false h, Bool.and_false]
theorem mut_fine {x : Mu} (h : checkL x.key.data.toList = true) (h2 : x.val.size ≤ 20 ∧ 0 ≤ x.lea ∧ x.lea ≤ 1099511627775) : mutB x = true := by unfold mutB; rw [h, decide_eq_true h2]; rfl
theorem fresh_all {l : List Mu} {k : Nat} {x : Mu} (h : AllTo (fun y : Mu => !teq y.key x.key) l k) : fresh (l.take k) x = true := h.out
theorem fresh_stop {l : List Mu} {k j : Nat} {x y : Mu} (hj : j < k) (hy : l[j]? = some y) (h : teq y.key x.key = true) : fresh (l.take k) x = false := by
  unfold fresh
  refine List.all_eq_false.2 ⟨y, List.mem_of_getElem? (i := j) (by rw [List.getElem?_take_of_lt hj]; exact hy), ?_⟩
  rw [h]; simp
theorem muts_ref (A : Option Addr) (n c : Nat) (l : List Mu) (w : World) (h : Mus w A n c l) :
    Calls Try.prog 53 #[.slice A n c] w fun e w' => e = .returned (.bool (mayDoB l)) ∧ Below w.heap.size w w' := by
  have hlen := h.len
  have hm := Nat.le_trans h.le h.max
  unfold maxLen at hm
  have H := Lib.hid h
  clear h
  by_cases h30 : n ≤ 30
  case neg =>
    have HR : Hid (mayDoB l = false) := Lib.hid (by unfold mayDoB; rw [hlen]; simp [h30])
    clear hlen
    go_enter Try.func53, Try.ntmps53
    go_wp2
    go_ret
    exact ⟨retB HR.out.symm, Below.refl _ _⟩
  have HR : Hid (mayDoB l = doTo [] l) := Lib.hid (by unfold mayDoB; rw [hlen]; simp [h30])
  have HLEN := Lib.hid hlen
  clear hlen
  go_enter Try.func53, Try.ntmps53
  go_wp2
  go_loopw [3] (fun i wr => ∃ k q : Nat, k ≤ n ∧ i = .int .i64 k ∧ DoneTo l k ∧ wr = w.drewN q) (fun i _ => n - (intOf i).toNat)
  case atStart => exact ⟨0, 0, Nat.zero_le _, rfl, ⟨rfl⟩, rfl⟩
  case round =>
    obtain ⟨k, q, hk, rfl, hdo, rfl⟩ := hrel
    have HD := Lib.hid hdo
    clear hdo
    by_cases hlt : k < n
    · obtain ⟨a, x, rfl, hbl, hx, hok, hc⟩ := H.out.at_ hlt
      obtain ⟨c0, c1, c2, c3⟩ := hc
      have HX := Lib.hid hx; have OK := Lib.hid hok
      have hz := hok.val; have hl := hok.lea
      unfold maxLen at hz
      obtain ⟨hl1, hl2⟩ := hl
      clear hx hok hbl
      cases hck : checkL x.key.data.toList with
      | false =>
        have HC := Lib.hid hck
        have HF := Lib.hid (DoneTo.fail HX.out (by rw [mut_key hck, Bool.and_false]))
        clear hck
        go_wp2_with fail
        refine (check_ref x.key _ OK.out.key).mono ?_; rintro e w' ⟨rfl, rfl⟩
        rw [HC.out]
        go_wp2
        go_ret
        exact ⟨retB (by rw [HR.out, HF.out]), below_drews _ _⟩
      | true =>
        have HC := Lib.hid hck
        clear hck
        by_cases g1 : x.val.size ≤ 20
        case neg =>
          have HF := Lib.hid (DoneTo.fail HX.out (by rw [mut_lim (by omega), Bool.and_false]))
          go_wp2_with fail
          refine (check_ref x.key _ OK.out.key).mono ?_; rintro e w' ⟨rfl, rfl⟩
          rw [HC.out]
          go_wp2
          go_ret
          exact ⟨retB (by rw [HR.out, HF.out]), below_drews _ _⟩
        by_cases g2 : x.lea < 0
        · have HF := Lib.hid (DoneTo.fail HX.out (by rw [mut_lim (by omega), Bool.and_false]))
          go_wp2_with fail
          refine (check_ref x.key _ OK.out.key).mono ?_; rintro e w' ⟨rfl, rfl⟩
          rw [HC.out]
          go_wp2
          go_ret
          exact ⟨retB (by rw [HR.out, HF.out]), below_drews _ _⟩
        by_cases g3 : 1099511627775 < x.lea
        · have HF := Lib.hid (DoneTo.fail HX.out (by rw [mut_lim (by omega), Bool.and_false]))
          go_wp2_with fail
          refine (check_ref x.key _ OK.out.key).mono ?_; rintro e w' ⟨rfl, rfl⟩
          rw [HC.out]
          go_wp2
          go_ret
          exact ⟨retB (by rw [HR.out, HF.out]), below_drews _ _⟩
        have HM := Lib.hid (mut_fine HC.out ⟨g1, by omega, by omega⟩)
        go_wp2_with fail
        refine (check_ref x.key _ OK.out.key).mono ?_; rintro e w' ⟨rfl, rfl⟩
        rw [HC.out]
        go_wp2
        go_loopw [4] (fun i wr => ∃ j r : Nat, j ≤ k ∧ i = .int .i64 j ∧ AllTo (fun y : Mu => !teq y.key x.key) l j ∧ wr = w.drewN r) (fun i _ => k - (intOf i).toNat)
        case atStart => exact ⟨0, q, Nat.zero_le _, rfl, rfl, rfl⟩
        case round =>
          obtain ⟨j, r, hj, rfl, hall, rfl⟩ := hrel
          have HA := Lib.hid hall
          clear hall
          by_cases hlt2 : j < k
          · obtain ⟨b, y, e, gbl, hy, gok, gc⟩ := H.out.at_ (show j < n by omega)
            obtain rfl := Option.some.inj e
            obtain ⟨d0, d1, d2, d3⟩ := gc
            have HY := Lib.hid hy
            clear hy gok gbl
            cases ht : teq y.key x.key with
            | true =>
              have HF := Lib.hid (DoneTo.fail HX.out (by rw [fresh_stop hlt2 HY.out ht, Bool.false_and]))
              unfold teq at ht
              go_wp2
              go_quiet (fail)
              go_wp2
              go_ret
              exact ⟨retB (by rw [HR.out, HF.out]), then_ (below_drews _ _) (below_drews _ _)⟩
            | false =>
              have HN : Hid (AllTo (fun y : Mu => !teq y.key x.key) l (j + 1)) := Lib.hid (by show _ = true; rw [all_take_s _ _ _ y HY.out, HA.out.out, ht]; rfl)
              unfold teq at ht
              go_wp2
              go_quiet (fail)
              go_wp2
              go_roundw
              case rel => exact ⟨j + 1, _, by omega, by go_num, HN.out, rfl⟩
              case measure => simp [intOf]; omega
          · obtain rfl : k = j := by omega
            have HN := Lib.hid (HD.out.next HX.out (fresh_all HA.out) HM.out)
            go_wp2
            go_roundw
            case rel => exact ⟨k + 1, _, by omega, by go_num, HN.out, rfl⟩
            case measure => simp [intOf]; omega
    · obtain rfl : n = k := by omega
      have HT : Hid (doTo [] l = true) := Lib.hid (by have := HD.out.ok; rwa [take_full l n HLEN.out] at this)
      go_wp2
      go_ret
      exact ⟨retB (by rw [HR.out, HT.out]), below_drews _ _⟩
end Go.Proofs.Ytgafkpngnoecaaa.P
