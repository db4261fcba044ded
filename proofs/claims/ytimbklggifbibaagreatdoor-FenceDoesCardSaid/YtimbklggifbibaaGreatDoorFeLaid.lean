/- What the row's list gives: the four sentinels lie in memory as their initialisers laid them. -/
import Derived.Test.YtimbklggifbibaaGreatDoorCards
import Derived.Test.YtimbklggifbibaaGreatDoorTie
import Derived.Test.YtimbklggifbibaaGreatDoorFeW
import Derived.Stop.LaidTwo
import Derived.ProofKit
import Derived.OpenShut
import Derived.ShutString
import Derived.LaidMore
import Derived.Stop.Joined
import Derived.Stop.Texts
namespace Go.Proofs.YtimbklggifbibaaGreatDoor.P
open Go.ChangeShapes Go.WideShapes Go.ChangeAt Go.RowKit Go.Stop
set_option maxRecDepth 100000

def laidK : List (String × DataW Unit) := [("baton/fence.errArg", Rows.laid_baton_fence_errArg), ("baton/fence.errForm", Rows.laid_baton_fence_errForm), ("baton/fence.errFull", Rows.laid_baton_fence_errFull), ("baton/fence.errStale", Rows.laid_baton_fence_errStale)]
theorem own : ownKnob Tryz.prog.godebug = none := by kernel_rfl
theorem g_arg : Tryz.prog.globalNamed "baton/fence.errArg" = some 3 := by kernel_rfl
theorem g_form : Tryz.prog.globalNamed "baton/fence.errForm" = some 0 := by kernel_rfl
theorem g_full : Tryz.prog.globalNamed "baton/fence.errFull" = some 2 := by kernel_rfl
theorem g_stale : Tryz.prog.globalNamed "baton/fence.errStale" = some 1 := by kernel_rfl
theorem t_arg : (Tryz.prog.globals[3]?).map (·.type) = some 48 := by kernel_rfl
theorem t_form : (Tryz.prog.globals[0]?).map (·.type) = some 48 := by kernel_rfl
theorem t_full : (Tryz.prog.globals[2]?).map (·.type) = some 48 := by kernel_rfl
theorem t_stale : (Tryz.prog.globals[1]?).map (·.type) = some 48 := by kernel_rfl
theorem cells_es : Tryz.prog.cellsOf 184 = 1 := by kernel_rfl
theorem cells_str : Tryz.prog.cellsOf 9 = 1 := by kernel_rfl
theorem star_es : "*" ++ "errors.errorString" = "*errors.errorString" := by decide
theorem row_esp (u : TypeId) (h : Tryz.prog.typeName? 3 u = some "*errors.errorString") : u = 161 :=
  typeName_ptr_named (nm := "errors.errorString") (by rw [star_es]; kernel_rfl) (by kernel_rfl) (by decide) u (by rw [star_es]; exact h)
theorem laidK_plain : (laidK.all fun x => x.2.handleName?.isNone) = true := by kernel_rfl
/-- The door's own heap meets the condition. -/
theorem door_met (os : Os) (args : Array Value) : laidMetH Tryz.prog laidK ((World.doorLaid Tryz.prog 400 os).forCall (fun _ _ => 0) ⟨#[], args, []⟩).memory :=
  laidMetH_of_parts3 (fuel := 8) (laidMet_of_run' 8 (by kernel_rfl) (by kernel_rfl)) (by kernel_rfl) (by kernel_rfl)
/-- The sentinels, wherever they lie. -/
def Letters (w : World) : Prop := ∃ s, Sents w s
theorem lt_of_var {w : World} {a : Addr} {v : Value} (h : w.cell? a = some v) : a.block < w.heap.size := World.block_lt_of_cell? w a h
theorem letters_of_laid {W : World} (h : laidMetH Tryz.prog laidK W) : Letters W := by
  rw [MakeChecks.laidMetH_plain _ _ _ laidK_plain] at h
  unfold laidK at h
  simp only [Rows.laid_baton_fence_errArg, Rows.laid_baton_fence_errForm, Rows.laid_baton_fence_errFull, Rows.laid_baton_fence_errStale] at h
  obtain ⟨a0, a3, s0, s3, c0, c3, t0, t3, hv0, hv3, hc0, hs0, _, hc3, hs3, _, hne03, hb0, hb3⟩ := laid_sentinels2 h g_arg t_arg g_form t_form Tryz.underlying48 row_esp Tryz.underlying161 Tryz.underlying184 rfl rfl Tryz.underlying9 cells_es cells_str
  obtain ⟨a2, a1, s2, s1, c2, c1, t2, t1, hv2, hv1, hc2, hs2, _, hc1, hs1, _, hne21, hb2, hb1⟩ := laid_sentinels2 h.tail.tail g_full t_full g_stale t_stale Tryz.underlying48 row_esp Tryz.underlying161 Tryz.underlying184 rfl rfl Tryz.underlying9 cells_es cells_str
  have k0 : W.cell? ⟨3, 0, none⟩ = some (sentV a0) := by simpa using World.var?_cell g_arg hv0 0
  have k1 : W.cell? ⟨1, 0, none⟩ = some (sentV a1) := by simpa using World.var?_cell g_stale hv1 0
  have k2 : W.cell? ⟨2, 0, none⟩ = some (sentV a2) := by simpa using World.var?_cell g_full hv2 0
  have k3 : W.cell? ⟨0, 0, none⟩ = some (sentV a3) := by simpa using World.var?_cell g_form hv3 0
  have diff : ∀ (a b : Addr) (s t : ByteArray) (l m : List UInt8), W.cell? a = some (.string s) → W.cell? b = some (.string t) → s.data.toList = l → t.data.toList = m → l ≠ m → a ≠ b := fun a b s t l m h1 h2 h3 h4 h5 e => by
    subst e
    rw [h1] at h2
    injection h2 with h2
    injection h2 with h2
    subst h2
    exact h5 (h3.symm.trans h4)
  have n01 := diff _ _ _ _ _ _ hc0 hc1 hs0 hs1 (by decide)
  have n02 := diff _ _ _ _ _ _ hc0 hc2 hs0 hs2 (by decide)
  have n03 := diff _ _ _ _ _ _ hc0 hc3 hs0 hs3 (by decide)
  have n12 := diff _ _ _ _ _ _ hc1 hc2 hs1 hs2 (by decide)
  have n13 := diff _ _ _ _ _ _ hc1 hc3 hs1 hs3 (by decide)
  have n23 := diff _ _ _ _ _ _ hc2 hc3 hs2 hs3 (by decide)
  refine ⟨fun i => if i = 0 then a0 else if i = 1 then a1 else if i = 2 then a2 else a3, k0, k1, k2, k3, ?_, ?_, ?_⟩
  · intro i hi
    match i, hi with
    | 0, _ => exact ⟨c0, t0, hb0⟩
    | 1, _ => exact ⟨c1, t1, hb1⟩
    | 2, _ => exact ⟨c2, t2, hb2⟩
    | 3, _ => exact ⟨c3, t3, hb3⟩
  · intro i j hi hj hij
    match i, hi, j, hj with
    | 0, _, 0, _ => exact absurd rfl hij
    | 1, _, 1, _ => exact absurd rfl hij
    | 2, _, 2, _ => exact absurd rfl hij
    | 3, _, 3, _ => exact absurd rfl hij
    | 0, _, 1, _ => exact n01
    | 0, _, 2, _ => exact n02
    | 0, _, 3, _ => exact n03
    | 1, _, 2, _ => exact n12
    | 1, _, 3, _ => exact n13
    | 2, _, 3, _ => exact n23
    | 1, _, 0, _ => exact n01.symm
    | 2, _, 0, _ => exact n02.symm
    | 3, _, 0, _ => exact n03.symm
    | 2, _, 1, _ => exact n12.symm
    | 3, _, 1, _ => exact n13.symm
    | 3, _, 2, _ => exact n23.symm
  · have h0 := lt_of_var k0
    have h1 := lt_of_var k1
    have h2 := lt_of_var k2
    have h3 := lt_of_var k3
    simp only at h0 h1 h2 h3
    omega
end Go.Proofs.YtimbklggifbibaaGreatDoor.P
