/- Whether a list of things may be: hist's question, and the document's. -/
import Derived.Test.YtkikfaeigoeogaaKvOne
import Derived.Lib.QuietBelow
namespace Go.Proofs.Ytkikfaeigoeogaa.P
open Go.RowKit Go.Sort
set_option maxHeartbeats 400000
set_option linter.unusedVariables false
set_option maxRecDepth 100000


theorem may_ref (A : Option Addr) (n c : Nat) (l : List KV) (w : World) (h : KVs w A n c l) (hn : n ≤ 1000000) :
    Calls Try.prog 42 #[.slice A n c] w fun e w' => e = .returned (.bool (mayP oneB l)) ∧ Below w.heap.size w w' := by
  have H := Lib.hid h
  clear h
  go_enter Try.func42, Try.ntmps42
  go_wp2
  go_loopw [3] (fun i wr => ∃ k : Nat, k ≤ n ∧ i = .int .i64 k ∧ MayTo oneB l k ∧ Below w.heap.size w wr) (fun i _ => n - (intOf i).toNat)
  case atStart => exact ⟨0, Nat.zero_le _, rfl, rfl, Below.refl _ _⟩
  case round =>
    obtain ⟨k, hk, rfl, hm, hbel⟩ := hrel
    by_cases hlt : k < n
    · have HW := Lib.hid (H.out.keep hbel)
      obtain ⟨a, x, rfl, hbl, hx, hok, hc⟩ := HW.out.at_ hlt
      have HO := Lib.hid hok
      have HM := Lib.hid hm
      have HB := Lib.hid hbel
      have HX := Lib.hid hx
      clear hok hm hbel hx hbl
      have HZ := Lib.hid HB.out.size
      obtain ⟨k0, k1, k2, k3, k4, k5⟩ := hc.grown
      clear hc
      have cM := fun d os => Calls.regrown_of (d := d) (os := os) (w := wr) (one_any x _ HO.out)
      cases hob : oneB x with
      | false =>
        have HF := Lib.hid (may_bad HX.out hob)
        rw [hob] at cM
        clear hob
        go_wp2
        refine wp_region_quiet_below (by kernel_rfl) (by kernel_rfl) ?_
        repeat (go_big_quiet_step (exact cM _ _))
        refine wpQuiet_nil ?_
        intro _ hw'
        obtain ⟨⟨d, os⟩, rfl⟩ := hw'
        go_wp2
        go_ret
        exact ⟨retB HF.out.symm, below_grow HB.out HZ.out _ _⟩
      | true =>
        have HOB := Lib.hid hob
        rw [hob] at cM
        clear hob
        cases k with
        | zero =>
          simp only [Nat.zero_mul, Addr.add_zero'] at k0 k1 k2 k3 k4 k5
          go_wp2
          refine wp_region_quiet_below (by kernel_rfl) (by kernel_rfl) ?_
          repeat (go_big_quiet_step (exact cM _ _))
          refine wpQuiet_nil ?_
          intro _ hw'
          obtain ⟨⟨d, os⟩, rfl⟩ := hw'
          go_wp2
          go_roundw
          case rel => exact ⟨1, by omega, by go_num, MayTo.first HX.out HOB.out, below_grow HB.out HZ.out _ _⟩
          case measure => simp [intOf]; omega
        | succ j =>
          obtain ⟨a', y, ha', _, hy, _, hcy⟩ := HW.out.at_ (show j < n by omega)
          obtain rfl : a = a' := Option.some.inj ha'
          have HY := Lib.hid hy
          obtain ⟨j0, _, _, _, _, _⟩ := hcy.grown
          clear hcy hy ha'
          have e1 : (0 : Int) < ((j + 1 : Nat) : Int) := by omega
          have e2 : ((j + 1 : Nat) : Int) - 1 = (j : Int) := by omega
          cases hlt2 : tlt y.key x.key with
          | true =>
            have HT := Lib.hid hlt2
            have hl3 : Op.bytesLess y.key.toList x.key.toList = true := hlt2
            clear hlt2
            go_wp2
            refine wp_region_quiet_below (by kernel_rfl) (by kernel_rfl) ?_
            repeat (go_big_quiet_step (exact cM _ _))
            refine wpQuiet_nil ?_
            intro _ hw'
            obtain ⟨⟨d, os⟩, rfl⟩ := hw'
            go_wp2
            go_roundw
            case rel => exact ⟨j + 1 + 1, by omega, by go_num, MayTo.next HM.out HY.out HX.out HOB.out HT.out, below_grow HB.out HZ.out _ _⟩
            case measure => simp [intOf]; omega
          | false =>
            have HF := Lib.hid (may_fall (p := oneB) HY.out HX.out hlt2)
            have hl3 : Op.bytesLess y.key.toList x.key.toList = false := hlt2
            clear hlt2
            go_wp2
            refine wp_region_quiet_below (by kernel_rfl) (by kernel_rfl) ?_
            repeat (go_big_quiet_step (exact cM _ _))
            refine wpQuiet_nil ?_
            intro _ hw'
            obtain ⟨⟨d, os⟩, rfl⟩ := hw'
            go_wp2
            go_ret
            exact ⟨retB HF.out.symm, below_grow HB.out HZ.out _ _⟩
    · have HA := Lib.hid (hm.all (by rw [H.out.len]; omega))
      have HB := Lib.hid hbel
      clear hm hbel
      go_wp2
      go_ret
      exact ⟨retB HA.out.symm, HB.out⟩
end Go.Proofs.Ytkikfaeigoeogaa.P
