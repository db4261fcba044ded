/- Leases: End, the program's way and the document's. -/
import Derived.Test.YtpecgkkhjkfmmaaLsKeep
namespace Go.Proofs.Ytpecgkkhjkfmmaa.P
open Go.RowKit Go.Sort
set_option maxHeartbeats 1000000
set_option linter.unusedVariables false
set_option linter.unusedSimpArgs false
set_option maxRecDepth 100000

theorem end_none {s : Ls} {id : Int} (hi : idxL s.l id = none) : endS s id = s ∧ endE s id = 6 := by unfold endS endE; simp [hi]
theorem end_some {s : Ls} {id : Int} {i : Nat} (hi : idxL s.l id = some i) : endS s id = ⟨s.next, s.l.take i ++ s.l.drop (i + 1)⟩ ∧ endE s id = 0 := by unfold endS endE; simp [hi]
theorem end_any (s : Ls) (A : Option Addr) (n c : Nat) (id : Int) (w : World) (h : LsAt w s A n c) (hl : s.l.length ≤ 1000) :
    Calls Try.prog 46 #[s.agg A n c, .int .i64 id] w (LsEnd2 (endS s id) (endE s id) w) := by
  obtain rfl := h.row.row.len
  have hb0 := then_ (new1 w (.cells (lsCells s A s.l.length c) 73)) (new1 _ (.cells zLs 73))
  have HH := Lib.hid h
  have B0 := Lib.hid hb0
  have O0 := Lib.hid ((own_new w (lsCells s A s.l.length c) 73).alloc (.cells zLs 73))
  have R0 := Lib.hid (own_new2 w (.cells (lsCells s A s.l.length c) 73) zLs 73)
  have HNX := Lib.hid h.next
  have H0 := Lib.hid (h.keep hb0)
  clear h hb0
  cases hi : idxL s.l id with
  | none =>
    have E := Lib.hid (end_none (s := s) (id := id) hi)
    have HP : Hid (placeL s.l id = -1) := Lib.hid (by unfold placeL; rw [hi])
    clear hi
    go_enter Try.func46, Try.ntmps46
    go_wp2_with fail
    refine (lfind_any A s.l.length c s.l id _ H0.out.row).mono ?_; rintro e w2 ⟨rfl, hb⟩
    rw [HP.out]
    have B2 := Lib.hid (then_ B0.out hb)
    have O2 := Lib.hid (O0.out.below hb); have R2 := Lib.hid (R0.out.below hb)
    clear hb
    have q0 := O2.out.cell 0 _ rfl
    have q1 := O2.out.cell 1 _ rfl
    have f := R2.out.frozen
    have o0 := R2.out.cell 0 _ rfl
    have o1 := R2.out.cell 1 _ rfl
    go_wp2
    refine bodyPost_ret (v := .tuple #[s.agg A s.l.length c, .int .i64 6]) (by simp [results, Try.results46, go_sem, o0, o1]) rfl (LsEnd2.mk E.out.1 E.out.2 rfl (HH.out.keep (below_set2 B2.out (Nat.le_succ _) _ _)) (below_set2 B2.out (Nat.le_succ _) _ _))
  | some i =>
    obtain ⟨x, hx, hxi⟩ := idxL_some hi
    have E := Lib.hid (end_some (s := s) (id := id) hi)
    have HP : Hid (placeL s.l id = (i : Int)) := Lib.hid (by unfold placeL; rw [hi])
    have hil : i < s.l.length := (List.getElem?_eq_some_iff.1 hx).1
    clear hi hx hxi
    go_enter Try.func46, Try.ntmps46
    go_wp2_with fail
    refine (lfind_any A s.l.length c s.l id _ H0.out.row).mono ?_; rintro e w2 ⟨rfl, hb⟩
    rw [HP.out]
    have B2 := Lib.hid (then_ B0.out hb)
    have O2 := Lib.hid (O0.out.below hb); have R2 := Lib.hid (R0.out.below hb)
    clear hb
    have q0 := O2.out.cell 0 _ rfl
    have q1 := O2.out.cell 1 _ rfl
    go_wp2_with fail
    refine (clone_le A s.l.length c s.l _ (HH.out.row.keep B2.out) (by omega)).mono ?_; rintro e w3 ⟨A3, c3, rfl, hown, hb⟩
    obtain ⟨g, rfl⟩ : ∃ g, A3 = some ⟨g, 0, none⟩ := by
      rcases hown.2 with ⟨h, h0⟩ | ⟨g, cap, cur, hv, _⟩
      · omega
      · injection hv with e1; exact ⟨g, e1⟩
    obtain ⟨m, hm⟩ : ∃ m, s.l.length = i + 1 + m := ⟨s.l.length - (i + 1), by omega⟩
    have hfr : Hid (w2.heap.size ≤ g) := Lib.hid (own_freshL hown _ rfl)
    have HD := Lib.hid (delete_le w2.heap.size g c3 i m s.l w3 hm (by rw [hm] at hown; exact hown) (by omega))
    have B3 := Lib.hid (then_ B2.out hb)
    have O3 := Lib.hid (O2.out.below hb); have R3 := Lib.hid (R2.out.below hb)
    have hl2 := O2.out.lt
    have hl3 := R2.out.lt
    have HLN : Hid ((s.l.take i ++ s.l.drop (i + 1)).length = i + m) := Lib.hid (by rw [List.length_append, List.length_take, List.length_drop]; omega)
    rw [hm]
    clear hb hown q0 q1
    go_wp2_with fail
    refine HD.out.mono ?_; rintro e w4 ⟨rfl, hown, hb⟩
    have B4 := Lib.hid (B3.out.trans (hb.mono (by omega)))
    have O4 := Lib.hid (O3.out.low hb (by omega)); have R4 := Lib.hid (R3.out.low hb (by omega))
    have HO4 := Lib.hid hown
    have q0 := O4.out.cell 0 _ rfl
    have q1 := O4.out.cell 1 _ rfl
    have f0 := O4.out.frozen
    have O5 := Lib.hid (O4.out.set 1 (.slice (some ⟨g, 0, none⟩) (i + m) c3))
    have R5 := Lib.hid (R4.out.other w.heap.size 1 (.slice (some ⟨g, 0, none⟩) (i + m) c3) (by omega))
    have B5 := Lib.hid (B4.out.setCell (p := ⟨w.heap.size, 1, none⟩) (Nat.le_refl _) (.slice (some ⟨g, 0, none⟩) (i + m) c3))
    have p0 := O5.out.cell 0 _ rfl
    have p1 := O5.out.cell 1 _ rfl
    have f := R5.out.frozen
    have o0 := R5.out.cell 0 _ rfl
    have o1 := R5.out.cell 1 _ rfl
    have HL5 : Hid (Les (w4.setCell ⟨w.heap.size, 1, none⟩ (.slice (some ⟨g, 0, none⟩) (i + m) c3)) (some ⟨g, 0, none⟩) (i + m) c3 (s.l.take i ++ s.l.drop (i + 1))) := Lib.hid ((own_les HO4.out (fun y hy => by
      rcases List.mem_append.1 hy with hy | hy
      · exact HH.out.row.ok y (List.mem_of_mem_take hy)
      · exact HH.out.row.ok y (List.mem_of_mem_drop hy))).other _ _ _ (fun a ha => by injection ha with ha; subst ha; have := hfr.out; show g ≠ w.heap.size; omega))
    have HF5 : Hid (∀ a, some (⟨g, 0, none⟩ : Addr) = some a → a.block ≠ w.heap.size + 1) := Lib.hid (fun a ha => by injection ha with ha; subst ha; have := hfr.out; show g ≠ w.heap.size + 1; omega)
    clear hown hb
    go_wp2
    refine bodyPost_ret (v := .tuple #[(Ls.mk s.next (s.l.take i ++ s.l.drop (i + 1))).agg (some ⟨g, 0, none⟩) (i + m) c3, .int .i64 0]) (by simp [results, Try.results46, go_sem, o0, o1]) rfl (LsEnd2.mk E.out.1 E.out.2 rfl ?_ ?_)
    · exact ⟨(HL5.out.other _ _ _ HF5.out).other _ _ _ HF5.out, HNX.out⟩
    · exact (B5.out.setCell (p := ⟨w.heap.size + 1, 0, none⟩) (Nat.le_succ _) _).setCell (p := ⟨w.heap.size + 1, 1, none⟩) (Nat.le_succ _) _
end Go.Proofs.Ytpecgkkhjkfmmaa.P
