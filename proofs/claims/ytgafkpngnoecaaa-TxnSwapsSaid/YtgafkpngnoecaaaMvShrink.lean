/- A store that is shrunk, the program's way. -/
import Derived.Test.YtgafkpngnoecaaaMvDel
import Derived.Test.YtgafkpngnoecaaaMvApply
namespace Go.Proofs.Ytgafkpngnoecaaa.P
open Go.RowKit Go.Sort
set_option maxHeartbeats 1000000
set_option linter.unusedVariables false
set_option linter.unusedSimpArgs false
set_option maxRecDepth 100000

theorem deleteE_nil (t : Int) (p : Addr) (w : World) (hp : w.cell? p = some (.int .i64 t)) :
    Calls Try.prog 75 #[.slice none 0 0, .func (.func 77) #[] #[.pointer (some p)]] w fun e w' => e = .returned (.slice none 0 0) ∧ Below w.heap.size w w' := by
  have TI := Lib.hid (indexE_any none 0 0 [] t p w (evs_bare w) (by omega) hp)
  clear hp
  go_enter Try.func75, Try.ntmps75
  go_wp2_with fail
  refine TI.out.mono ?_; rintro e w1 ⟨i, rfl, hi, hb⟩
  have B1 := Lib.hid hb
  clear hb
  rcases hi with ⟨rfl, _⟩ | ⟨j, x, _, hx, _⟩
  · go_wp2
    go_ret
    exact ⟨rfl, B1.out⟩
  · simp at hx
def FreshEvs (w : World) (l : List Ev) (e : Ending) (w' : World) : Prop := ∃ A n c, e = .returned (.slice A n c) ∧ Evs w' A n c l ∧ Below w.heap.size w w' ∧ ∀ a, A = some a → w.heap.size ≤ a.block
theorem above_any (A : Option Addr) (n c : Nat) (l : List Ev) (t : Int) (w : World) (h : Evs w A n c l) (hn : n ≤ 100000) :
    Calls Try.prog 54 #[.slice A n c, .int .i64 t] w (FreshEvs w (above t l)) := by
  obtain rfl := h.len
  have H := Lib.hid (h.keep (new1 w (.cells #[.int .i64 t] 3)))
  have O := Lib.hid (own_new w #[.int .i64 t] 3)
  have B0 := Lib.hid (new1 w (.cells #[.int .i64 t] 3))
  have HOK := Lib.hid h.ok
  clear h
  go_enter Try.func54, Try.ntmps54
  go_wp2_with fail
  refine (cloneE_any A l.length c l _ H.out (by omega)).mono ?_; rintro e w1 ⟨A1, c1, rfl, hown, hb⟩
  have HO1 := Lib.hid hown
  have B1 := Lib.hid (then_ B0.out hb)
  have P1 := Lib.hid ((O.out.below hb).cell 0 _ rfl)
  have hs1 : w.heap.size + 1 ≤ w1.heap.size := by have := hb.size; simpa using this
  clear hb hown
  rcases A1 with _ | a1
  · have hl : l = [] := by
      rcases HO1.out.2 with ⟨hv, h0⟩ | ⟨g, cap, cur, hv, _⟩
      · exact List.eq_nil_of_length_eq_zero h0
      · injection hv with e1; cases e1
    subst hl
    have hc : c1 = 0 := by
      rcases HO1.out.2 with ⟨hv, h0⟩ | ⟨g, cap, cur, hv, _⟩
      · injection hv
      · injection hv with e1; cases e1
    subst hc
    go_wp2_with fail
    refine (deleteE_nil t ⟨w.heap.size, 0, none⟩ w1 P1.out).mono ?_; rintro e w2 ⟨rfl, hb⟩
    have B2 := Lib.hid (then_ B1.out hb); clear hb
    go_wp2
    go_ret
    exact ⟨none, 0, 0, rfl, evs_bare _, B2.out, fun a ha => by cases ha⟩
  · obtain ⟨g, rfl⟩ : ∃ g, a1 = ⟨g, 0, none⟩ := by
      rcases HO1.out.2 with ⟨hv, h0⟩ | ⟨g, cap, cur, hv, _⟩
      · cases hv
      · injection hv with e1; injection e1 with e1; exact ⟨g, e1⟩
    have HO2 : Hid (w1.ownsRow (w.heap.size + 1) 74 8 (.slice (some ⟨g, 0, none⟩) l.length c1) l.length (cellsE l)) := Lib.hid (by have := HO1.out; simpa using this)
    have HD := Lib.hid (deleteE_any (w.heap.size + 1) g c1 l.length l t ⟨w.heap.size, 0, none⟩ w1 rfl HO2.out (by omega) P1.out (Nat.lt_succ_self _) hs1 HOK.out)
    go_wp2_with fail
    refine HD.out.mono ?_; rintro e w2 ⟨rfl, hown, hb⟩
    have HO3 := Lib.hid hown
    have B2 := Lib.hid (B1.out.trans (hb.mono (Nat.le_succ _)))
    clear hb hown
    go_wp2
    go_ret
    exact ⟨_, _, _, rfl, evs_of_own HO3.out (fun x hx => HOK.out x (List.mem_filter.1 hx).1), B2.out, fun a ha => Nat.le_trans (Nat.le_succ _) (ownE_fresh HO3.out a ha)⟩
def shrunk (s : St) (rev : Int) : St := if keptE s rev = 0 then shrinkS s rev else s
def ShrinkEnd (s : St) (rev : Int) (w : World) (e : Ending) (w' : World) : Prop :=
  ∃ A n c B m d, e = .returned (.tuple #[(shrunk s rev).agg A n c B m d, .int .i64 (keptE s rev)]) ∧ StAt w' (shrunk s rev) A n c B m d ∧ Below w.heap.size w w'
theorem ShrinkEnd.mk {s : St} {rev : Int} {w : World} {e : Ending} {w' : World} {s' : St} {x : Int} {A : Option Addr} {n c : Nat} {B : Option Addr} {m d : Nat} (h1 : shrunk s rev = s') (h3 : keptE s rev = x)
    (he : e = .returned (.tuple #[s'.agg A n c B m d, .int .i64 x])) (hs : StAt w' s' A n c B m d) (hb : Below w.heap.size w w') : ShrinkEnd s rev w e w' := by
  subst h1 h3
  exact ⟨_, _, _, _, _, _, he, hs, hb⟩
theorem shrink_any (s : St) (A : Option Addr) (n c : Nat) (B : Option Addr) (m d : Nat) (rev : Int) (w : World) (h : StAt w s A n c B m d) (hn : n + m ≤ 90000) (hv : inI rev) :
    Calls Try.prog 20 #[s.agg A n c B m d, .int .i64 rev] w (ShrinkEnd s rev w) := by
  have hb0 := then_ (new1 w (.cells (stCells s A n c B m d) 25)) (new1 _ (.cells zSt 25))
  have HH := Lib.hid h
  have B0 := Lib.hid hb0
  have O0 := Lib.hid ((own_new w (stCells s A n c B m d) 25).alloc (.cells zSt 25))
  have R0 := Lib.hid (own_new2 w (.cells (stCells s A n c B m d) 25) zSt 25)
  have HV := Lib.hid hv
  have hml := h.ev.len
  clear h hb0 hv
  by_cases hk : keptE s rev = 0
  · have E1 : Hid (shrunk s rev = shrinkS s rev) := Lib.hid (if_pos hk)
    have HK := Lib.hid hk; clear hk
    go_enter Try.func20, Try.ntmps20
    go_wp2_with fail
    refine (kept_any s A n c B m d rev _ HH.out.rev HH.out.low HV.out).mono ?_; rintro e w1 ⟨rfl, hb⟩
    rw [HK.out]
    have B1 := Lib.hid (then_ B0.out hb)
    have O1 := Lib.hid (O0.out.below hb)
    have R1 := Lib.hid (R0.out.below hb)
    clear hb
    have q0 := O1.out.cell 0 _ rfl
    have q1 := O1.out.cell 1 _ rfl
    have q2 := O1.out.cell 2 _ rfl
    have q3 := O1.out.cell 3 _ rfl
    have qf := O1.out.frozen
    have hw1 := O1.out.lt
    have hw1b := R1.out.lt
    -- Low
    have O2 := Lib.hid (O1.out.set 1 (.int .i64 rev))
    have R2 := Lib.hid (R1.out.other w.heap.size 1 (.int .i64 rev) (by omega))
    have B2 := Lib.hid (B1.out.setCell (p := ⟨w.heap.size, 1, none⟩) (Nat.le_refl _) (.int .i64 rev))
    have p0 := O2.out.cell 0 _ rfl
    have p1 := O2.out.cell 1 _ rfl
    have p2 := O2.out.cell 2 _ rfl
    have p3 := O2.out.cell 3 _ rfl
    go_wp2_with fail
    refine (fold_fresh A n c s.base B m d s.log rev _ (HH.out.kv.keep B2.out) (HH.out.ev.keep B2.out) (by omega)).mono ?_; rintro e w2 ⟨A2, n2, c2, rfl, h2, hb, hf2⟩
    have hsz2 : w1.heap.size ≤ w2.heap.size := by have := hb.size; simpa [World.setCell] using this
    have O3 := Lib.hid (O2.out.below hb)
    have R3 := Lib.hid (R2.out.below hb)
    have B3 := Lib.hid (then_ B2.out hb)
    have K3 := Lib.hid h2
    have HF2 : Hid (∀ a, A2 = some a → w1.heap.size ≤ a.block) := Lib.hid (fun a ha => by have := hf2 a ha; simpa [World.setCell] using this)
    clear hb h2 hf2 q0 q1 q2 q3 p0 p1 p2 p3 qf
    have q0 := O3.out.cell 0 _ rfl
    have q1 := O3.out.cell 1 _ rfl
    have q2 := O3.out.cell 2 _ rfl
    have q3 := O3.out.cell 3 _ rfl
    have qf := O3.out.frozen
    -- Base
    have O4 := Lib.hid (O3.out.set 2 (.slice A2 n2 c2))
    have R4 := Lib.hid (R3.out.other w.heap.size 2 (.slice A2 n2 c2) (by omega))
    have B4 := Lib.hid (B3.out.setCell (p := ⟨w.heap.size, 2, none⟩) (Nat.le_refl _) (.slice A2 n2 c2))
    have K4 := Lib.hid (K3.out.kept (Lib.grownBy_setCell w2 w.heap.size 2 (.slice A2 n2 c2)) (fun a ha hh => by injection hh with hh; have := HF2.out a ha; omega))
    have p0 := O4.out.cell 0 _ rfl
    have p1 := O4.out.cell 1 _ rfl
    have p2 := O4.out.cell 2 _ rfl
    have p3 := O4.out.cell 3 _ rfl
    go_wp2_with fail
    refine (above_any B m d s.log rev _ (HH.out.ev.keep B4.out) (by omega)).mono ?_; rintro e w3 ⟨A3, n3, c3, rfl, h3, hb, hf3⟩
    have O5 := Lib.hid (O4.out.below hb)
    have R5 := Lib.hid (R4.out.below hb)
    have B5 := Lib.hid (then_ B4.out hb)
    have K5 := Lib.hid (K4.out.keep hb)
    have V5 := Lib.hid h3
    have HF3 : Hid (∀ a, A3 = some a → w2.heap.size ≤ a.block) := Lib.hid (fun a ha => by have := hf3 a ha; simpa [World.setCell] using this)
    clear hb h3 hf3 q0 q1 q2 q3 p0 p1 p2 p3 qf
    have q0 := O5.out.cell 0 _ rfl
    have q1 := O5.out.cell 1 _ rfl
    have q2 := O5.out.cell 2 _ rfl
    have q3 := O5.out.cell 3 _ rfl
    have qf := O5.out.frozen
    -- Log
    have O6 := Lib.hid (O5.out.set 3 (.slice A3 n3 c3))
    have R6 := Lib.hid (R5.out.other w.heap.size 3 (.slice A3 n3 c3) (by omega))
    have B6 := Lib.hid (B5.out.setCell (p := ⟨w.heap.size, 3, none⟩) (Nat.le_refl _) (.slice A3 n3 c3))
    have K6 := Lib.hid (K5.out.kept (Lib.grownBy_setCell w3 w.heap.size 3 (.slice A3 n3 c3)) (fun a ha hh => by injection hh with hh; have := HF2.out a ha; omega))
    have V6 := Lib.hid (V5.out.kept (Lib.grownBy_setCell w3 w.heap.size 3 (.slice A3 n3 c3)) (fun a ha hh => by injection hh with hh; have := HF3.out a ha; omega))
    have p0 := O6.out.cell 0 _ rfl
    have p1 := O6.out.cell 1 _ rfl
    have p2 := O6.out.cell 2 _ rfl
    have p3 := O6.out.cell 3 _ rfl
    have f := R6.out.frozen
    have o0 := R6.out.cell 0 _ rfl
    have o1 := R6.out.cell 1 _ rfl
    have o2 := R6.out.cell 2 _ rfl
    have o3 := R6.out.cell 3 _ rfl
    go_wp2
    refine bodyPost_ret (v := .tuple #[(shrinkS s rev).agg A2 n2 c2 A3 n3 c3, .int .i64 0]) (by simp [results, Try.results20, go_sem, o0, o1, o2, o3, shrinkS]) rfl (ShrinkEnd.mk E1.out HK.out rfl ⟨?_, ?_, HH.out.rev, HV.out⟩ (below_set4 B6.out (Nat.le_succ _) _ _ _ _))
    · exact K6.out.kept4 (fun a ha hh => by injection hh with hh; have := HF2.out a ha; omega) _ _ _ _
    · exact V6.out.kept4 (fun a ha hh => by injection hh with hh; have := HF3.out a ha; omega) _ _ _ _
  · have E1 : Hid (shrunk s rev = s) := Lib.hid (if_neg hk)
    have hk2 : (keptE s rev != 0) = true := by simp [hk]
    have E2 : Hid (keptE s rev = keptE s rev) := Lib.hid rfl
    clear hk
    go_enter Try.func20, Try.ntmps20
    go_wp2_with fail
    refine (kept_any s A n c B m d rev _ HH.out.rev HH.out.low HV.out).mono ?_; rintro e w1 ⟨rfl, hb⟩
    have B1 := Lib.hid (then_ B0.out hb)
    have O1 := Lib.hid (O0.out.below hb)
    have R1 := Lib.hid (R0.out.below hb)
    clear hb
    have q0 := O1.out.cell 0 _ rfl
    have q1 := O1.out.cell 1 _ rfl
    have q2 := O1.out.cell 2 _ rfl
    have q3 := O1.out.cell 3 _ rfl
    have f := R1.out.frozen
    have o0 := R1.out.cell 0 _ rfl
    have o1 := R1.out.cell 1 _ rfl
    have o2 := R1.out.cell 2 _ rfl
    have o3 := R1.out.cell 3 _ rfl
    go_wp2
    refine bodyPost_ret (v := .tuple #[s.agg A n c B m d, .int .i64 (keptE s rev)]) (by simp [results, Try.results20, go_sem, o0, o1, o2, o3]) rfl (ShrinkEnd.mk E1.out rfl rfl (HH.out.keep (below_set4 B1.out (Nat.le_succ _) _ _ _ _)) (below_set4 B1.out (Nat.le_succ _) _ _ _ _))
end Go.Proofs.Ytgafkpngnoecaaa.P
