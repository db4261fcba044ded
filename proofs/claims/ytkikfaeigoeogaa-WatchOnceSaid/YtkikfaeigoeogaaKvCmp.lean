/- Texts compared. -/
import Derived.Test.YtkikfaeigoeogaaKvRead
import Derived.Lib.Bytealg
namespace Go.Proofs.Ytkikfaeigoeogaa.P
open Go.RowKit Go.Sort
set_option maxHeartbeats 400000
set_option linter.unusedVariables false
set_option maxRecDepth 100000

theorem compare_bytes : ∀ l m : List UInt8, Lib.compareBytes l m = if l == m then 0 else if Op.bytesLess l m then -1 else 1
  | [], [] => rfl
  | [], _ :: _ => by simp [Lib.compareBytes, Op.bytesLess]
  | _ :: _, [] => by simp [Lib.compareBytes, Op.bytesLess]
  | a :: r, b :: s => by
    simp only [Lib.compareBytes, Op.bytesLess]
    by_cases h : a < b
    · have hne : ¬ a = b := by rintro rfl; exact absurd h (UInt8.lt_irrefl _)
      simp [h, hne]
    · by_cases h2 : b < a
      · have hne : ¬ a = b := by rintro rfl; exact absurd h2 (UInt8.lt_irrefl _)
        simp [h, h2, hne]
      · have he : a = b := by
          apply UInt8.toNat_inj.1
          rw [UInt8.lt_iff_toNat_lt] at h h2
          omega
        subst he
        simp [UInt8.lt_irrefl, compare_bytes r s]
def cmpK (a b : ByteArray) : Int := if teq a b then 0 else if tlt a b then -1 else 1
theorem cmpl_any (a b : ByteArray) (w : World) :
    Calls Try.prog 79 #[.string a, .string b] w fun e w' => e = .returned (.int .i64 (cmpK a b)) ∧ w = w' := by
  have HC : Hid (Lib.compareBytes a.data.toList b.data.toList = cmpK a b) := Lib.hid (by rw [compare_bytes, ← ByteArray.toList_eq, ← ByteArray.toList_eq]; rfl)
  go_enter Try.func79, Try.ntmps79
  go_wp2
  rw [run_callFunc_extern Try.func87 (by kernel_rfl) (by kernel_rfl) (by kernel_rfl) (e := Extern.BytealgCompare.compare) (by kernel_rfl), Lib.run_compareString]
  simp only [Result.andThen]
  rw [Oper.upon_value, HC.out]
  go_wp2
  go_ret
  exact ⟨rfl, rfl⟩
theorem cmp_any (a b : ByteArray) (w : World) :
    Calls Try.prog 69 #[.string a, .string b] w fun e w' => e = .returned (.int .i64 (cmpK a b)) ∧ w = w' := by
  go_enter Try.func69, Try.ntmps69
  go_wp2_with fail
  refine (cmpl_any a b _).mono ?_; rintro e w1 ⟨rfl, rfl⟩
  go_wp2
  go_ret
  exact ⟨rfl, rfl⟩
theorem cmpK_lt {a b : ByteArray} (h : tlt a b = true) : cmpK a b = -1 := by
  unfold cmpK; rw [if_neg (by rw [tlt_ne h]; simp), if_pos h]
theorem cmpK_eq {a b : ByteArray} (h : teq a b = true) : cmpK a b = 0 := by
  unfold cmpK; rw [if_pos h]
theorem cmpK_gt {a b : ByteArray} (h : tlt b a = true) : cmpK a b = 1 := by
  unfold cmpK; rw [if_neg (by rw [tlt_ne' h]; simp), if_neg (by rw [tlt_asym h]; simp)]
end Go.Proofs.Ytkikfaeigoeogaa.P
