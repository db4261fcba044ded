/- Layer 2's Name, as the program asks it: two questions, joined by a third. -/
import Derived.Test.YthagkjadbfodaaaDoorKeyStr
import Derived.Laws.EntriesVeiled
namespace Go.Proofs.YthagkjadbfodaaaDoor.P
open Go.RowKit
set_option maxHeartbeats 400000
set_option linter.unusedVariables false
set_option maxRecDepth 100000

/-- Two new blocks of one cell each. -/
theorem two_new (w : World) (x y : Value) (t : TypeId) :
    ((w.alloc (.cells #[x] t)).alloc (.cells #[y] t)).cell? ⟨w.heap.size, 0, none⟩ = some x ∧ ((w.alloc (.cells #[x] t)).alloc (.cells #[y] t)).cell? ⟨w.heap.size + 1, 0, none⟩ = some y ∧
      ((w.alloc (.cells #[x] t)).alloc (.cells #[y] t)).heap.size = w.heap.size + 2 ∧ Below w.heap.size w ((w.alloc (.cells #[x] t)).alloc (.cells #[y] t)) :=
  ⟨by simp [go_sem], by simp [go_sem], by simp, ((Below.refl _ _).alloc (Nat.le_refl _) _).alloc (by simp) _⟩

theorem name_any (s : ByteArray) (w : World) (hs : s.size ≤ maxLen) :
    Calls Tryd.prog 17 #[.string s] w fun e w' => e = .returned (.bool (nameL s.data.toList)) ∧ Below w.heap.size w w' := by
  go_enter Tryd.func17, Tryd.ntmps17
  go_wp2_with fail
  refine (between_any _ _ _).mono ?_; rintro e w1 ⟨rfl, h1, h2, hz, hb⟩
  have H1 := Lib.hid h1
  have H2 := Lib.hid h2
  have HZ := Lib.hid hz
  have HB := Lib.hid hb
  clear h1 h2 hz hb
  go_wp2_with fail
  refine (between_any _ _ _).mono ?_; rintro e w2 ⟨rfl, h1, h2, hz, hb⟩
  have G1 := Lib.hid h1
  have G2 := Lib.hid h2
  have GZ := Lib.hid hz
  have GB := Lib.hid hb
  clear h1 h2 hz hb
  go_wp2_with fail
  obtain ⟨t1, t2, tz, tb⟩ := two_new w2 (.func (.func 49) #[] #[.pointer (some ⟨w.heap.size, 0, none⟩), .pointer (some ⟨w.heap.size + 1, 0, none⟩)]) (.func (.func 49) #[] #[.pointer (some ⟨w1.heap.size, 0, none⟩), .pointer (some ⟨w1.heap.size + 1, 0, none⟩)]) 71
  have hz1 := HZ.out
  have hz2 := GZ.out
  refine (made_alnum s 12 ⟨w2.heap.size, 0, none⟩ ⟨w2.heap.size + 1, 0, none⟩ alnum _ (by omega) hs (fun c w4 hb => alnum_any _ _ c w4
    ⟨_, _, (hb.cell (by rw [tz]; simp only; omega)).trans t1, ((hb.cell (by rw [tz]; simp only; omega)).trans (tb.cell (by simp only; omega))).trans ((GB.out.cell (by simp only; omega)).trans H1.out), ((hb.cell (by rw [tz]; simp only; omega)).trans (tb.cell (by simp only; omega))).trans ((GB.out.cell (by simp only; omega)).trans H2.out)⟩
    ⟨_, _, (hb.cell (by rw [tz]; simp only; omega)).trans t2, ((hb.cell (by rw [tz]; simp only; omega)).trans (tb.cell (by simp only; omega))).trans G1.out, ((hb.cell (by rw [tz]; simp only; omega)).trans (tb.cell (by simp only; omega))).trans G2.out⟩)).mono ?_
  rintro e w5 ⟨rfl, hb5⟩
  have B5 : Below w.heap.size w w5 := ((HB.out.trans (GB.out.mono (by omega))).trans (tb.mono (by omega))).trans (hb5.mono (by rw [tz]; omega))
  have HB5 := Lib.hid B5
  clear hb5 B5 t1 t2 tz tb hz1 hz2
  go_wp2
  go_ret
  exact ⟨rfl, HB5.out⟩

end Go.Proofs.YthagkjadbfodaaaDoor.P
