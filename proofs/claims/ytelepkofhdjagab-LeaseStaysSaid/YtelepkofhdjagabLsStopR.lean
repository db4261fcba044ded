/- Leases: End, the document's way. -/
import Derived.Test.YtelepkofhdjagabLsStop
namespace Go.Proofs.Ytelepkofhdjagab.P
open Go.RowKit Go.Sort
set_option maxHeartbeats 1000000
set_option linter.unusedVariables false
set_option linter.unusedSimpArgs false
set_option maxRecDepth 100000

theorem end_ref (s : Ls) (A : Option Addr) (n c : Nat) (id : Int) (w : World) (h : LsAt w s A n c) (hl : s.l.length ≤ 1000) :
    Calls Try.prog 28 #[s.agg A n c, .int .i64 id] w (LsEnd2 (endS s id) (endE s id) w) := by
  obtain rfl := h.row.row.len
  have hb0 := then_ (new1 w (.cells (lsCells s A s.l.length c) 24)) (new1 _ (.cells zLs 24))
  have HH := Lib.hid h
  have B0 := Lib.hid hb0
  have O0 := Lib.hid ((own_new w (lsCells s A s.l.length c) 24).alloc (.cells zLs 24))
  have R0 := Lib.hid (own_new2 w (.cells (lsCells s A s.l.length c) 24) zLs 24)
  have HNX := Lib.hid h.next
  have H0 := Lib.hid (h.keep hb0)
  have hcap := h.row.row.le
  have hmax := h.row.row.max
  unfold maxLen at hmax
  clear h hb0
  cases hi : idxL s.l id with
  | none =>
    have E := Lib.hid (end_none (s := s) (id := id) hi)
    have HP : Hid (placeL s.l id = -1) := Lib.hid (by unfold placeL; rw [hi])
    clear hi
    go_enter Try.func28, Try.ntmps28
    go_wp2_with fail
    refine (place_any s A s.l.length c id _ H0.out).mono ?_; rintro e w2 ⟨rfl, hb⟩
    rw [HP.out]
    have B2 := Lib.hid (then_ B0.out hb)
    have O2 := Lib.hid (O0.out.below hb); have R2 := Lib.hid (R0.out.below hb)
    clear hb
    have q0 := O2.out.cell 0 _ rfl
    have q1 := O2.out.cell 1 _ rfl
    have f := R2.out.frozen
    have o0 := R2.out.cell 0 _ rfl
    have o1 := R2.out.cell 1 _ rfl
    go_wp2
    refine bodyPost_ret (v := .tuple #[s.agg A s.l.length c, .int .i64 6]) (by simp [results, Try.results28, go_sem, o0, o1]) rfl (LsEnd2.mk E.out.1 E.out.2 rfl (HH.out.keep (below_set2 B2.out (Nat.le_succ _) _ _)) (below_set2 B2.out (Nat.le_succ _) _ _))
  | some i =>
    obtain ⟨x, hx, hxi⟩ := idxL_some hi
    have E := Lib.hid (end_some (s := s) (id := id) hi)
    have HP : Hid (placeL s.l id = (i : Int)) := Lib.hid (by unfold placeL; rw [hi])
    have hil : i < s.l.length := (List.getElem?_eq_some_iff.1 hx).1
    clear hi hx hxi
    obtain ⟨a, rfl⟩ : ∃ a, A = some a := by
      obtain ⟨a, e, _⟩ := HH.out.row.row.rd (by omega)
      exact ⟨a, e⟩
    have hil2 : (i : Int) < (s.l.length : Int) := by omega
    have hic : (i : Int) ≤ (c : Int) := by omega
    go_enter Try.func28, Try.ntmps28
    go_wp2_with fail
    refine (place_any s (some a) s.l.length c id _ H0.out).mono ?_; rintro e w2 ⟨rfl, hb⟩
    rw [HP.out]
    have B2 := Lib.hid (then_ B0.out hb)
    have O2 := Lib.hid (O0.out.below hb); have R2 := Lib.hid (R0.out.below hb)
    clear hb
    have q0 := O2.out.cell 0 _ rfl
    have q1 := O2.out.cell 1 _ rfl
    have hl2 := O2.out.lt
    have hl3 := R2.out.lt
    go_wp2
    generalize hW3 : w2.alloc (.cells #[.int .i64 s.next, .slice none 0 0] 24) = W3
    have hsz3 : W3.heap.size = w2.heap.size + 1 := by rw [← hW3]; simp
    have n3 : Hid (Below w2.heap.size w2 W3) := Lib.hid (by rw [← hW3]; exact new1 _ _)
    have M3 : Hid (Own W3 w2.heap.size 24 #[.int .i64 s.next, .slice none 0 0]) := Lib.hid (by rw [← hW3]; exact own_new _ _ _)
    have O3 := Lib.hid (O2.out.below n3.out); have R3 := Lib.hid (R2.out.below n3.out)
    have B3 := Lib.hid (then_ B2.out n3.out)
    clear hW3 q0 q1
    have q30 := O3.out.cell 0 _ rfl
    have q31 := O3.out.cell 1 _ rfl
    have m30 := M3.out.cell 0 _ rfl
    have m31 := M3.out.cell 1 _ rfl
    refine wp_region_still_tail 6 (by kernel_rfl) (by kernel_rfl) ?_
    simp only [List.take_succ_cons, List.take_zero, List.drop_succ_cons, List.drop_zero]
    repeat still_step
    refine wpStill_nil ?_
    change wpList _ _ _ _ _ W3.drew
    generalize hW4 : W3.drew = W4
    have M4 : Hid (Own W4 w2.heap.size 24 #[.int .i64 s.next, .slice none 0 0]) := Lib.hid (by rw [← hW4]; exact M3.out.below (new_drew _))
    have O4 : Hid (Own W4 w.heap.size 24 (lsCells s (some a) s.l.length c)) := Lib.hid (by rw [← hW4]; exact O3.out.below (new_drew _))
    have R4 : Hid (Own W4 (w.heap.size + 1) 24 zLs) := Lib.hid (by rw [← hW4]; exact R3.out.below (new_drew _))
    have B4 : Hid (Below w.heap.size w W4) := Lib.hid (by rw [← hW4]; exact B3.out.drew)
    have hsz4 : W4.heap.size = w2.heap.size + 1 := by rw [← hW4]; exact hsz3
    clear hW4 q30 q31 m30 m31
    have L4 := HH.out.row.keep B4.out
    obtain ⟨A5, c5, w5, hr5, hown5, hb5, _⟩ := app_les (w2.heap.size + 1) none 0 0 [] W4 ⟨rfl, .inl ⟨rfl, rfl⟩⟩ (some a) i c (s.l.take i) (L4.row.take (by omega)) (by omega) (by omega)
    rw [Nat.zero_add] at hr5 hown5
    rw [List.nil_append] at hown5
    have M5 := Lib.hid (M4.out.low hb5 (by omega))
    have O5 := Lib.hid (O4.out.low hb5 (by omega))
    have R5 := Lib.hid (R4.out.low hb5 (by omega))
    have B5 := Lib.hid (B4.out.trans (hb5.mono (by omega)))
    have HO5 := Lib.hid hown5
    have hs5 := hb5.size
    have m50 := M5.out.cell 0 _ rfl
    have m51 := M5.out.cell 1 _ rfl
    have m5f := M5.out.frozen
    clear L4 hown5 hb5
    go_wp2_with (at_builtin; refine wpList_append_eq _ rfl (.tmp 18) (.tmp 22) _ _ rfl _ _ rfl rfl hr5 ?_)
    obtain ⟨W6, hW6⟩ : ∃ W6, W6 = w5.setCell ⟨w2.heap.size, 1, none⟩ (.slice A5 i c5) := ⟨_, rfl⟩
    rw [← hW6]
    have M6 : Hid (Own W6 w2.heap.size 24 #[.int .i64 s.next, .slice A5 i c5]) := Lib.hid (by rw [hW6]; exact M5.out.set 1 _)
    have O6 : Hid (Own W6 w.heap.size 24 (lsCells s (some a) s.l.length c)) := Lib.hid (by rw [hW6]; exact O5.out.other _ _ _ (by omega))
    have R6 : Hid (Own W6 (w.heap.size + 1) 24 zLs) := Lib.hid (by rw [hW6]; exact R5.out.other _ _ _ (by omega))
    have B6 : Hid (Below w.heap.size w W6) := Lib.hid (by rw [hW6]; exact B5.out.setCell (p := ⟨w2.heap.size, 1, none⟩) (by show w.heap.size ≤ w2.heap.size; omega) _)
    have HO6 : Hid (ownL W6 (w2.heap.size + 1) A5 i c5 (s.l.take i)) := Lib.hid (by rw [hW6]; exact HO5.out.kept (Lib.grownBy_setCell w5 _ 1 _) (by rcases hv : (Value.slice A5 i c5).ownBlock with _ | y; exact .inl rfl; right; intro hh; injection hh with hh; have := (HO5.out.lt y hv).1; omega))
    have hsz6 : W6.heap.size = w5.heap.size := by rw [hW6]; simp [World.setCell]
    clear hW6 m50 m51 m5f hr5
    have q60 := O6.out.cell 0 _ rfl
    have q61 := O6.out.cell 1 _ rfl
    have m60 := M6.out.cell 0 _ rfl
    have m61 := M6.out.cell 1 _ rfl
    have hwr : IntKind.i64.wrap ((i : Int) + 1) = (i : Int) + 1 := by rw [IntKind.wrap_i64]; omega
    have hb1 : (0 : Int) ≤ (i : Int) + 1 := by omega
    have hb2 : (i : Int) + 1 ≤ (s.l.length : Int) := by omega
    have hb3 : ((i : Int) + 1).toNat = i + 1 := by omega
    have hb4 : i + 1 ≤ s.l.length := by omega
    have hb5 : (s.l.length : Int) ≤ (c : Int) := by omega
    refine wp_region_still_tail 7 (by kernel_rfl) (by kernel_rfl) ?_
    simp only [List.take_succ_cons, List.take_zero, List.drop_succ_cons, List.drop_zero]
    repeat still_step
    refine wpStill_nil ?_
    change wpList _ _ _ _ _ W6.drew
    generalize hW7 : W6.drew = W7
    have M7 : Hid (Own W7 w2.heap.size 24 #[.int .i64 s.next, .slice A5 i c5]) := Lib.hid (by rw [← hW7]; exact M6.out.below (new_drew _))
    have R7 : Hid (Own W7 (w.heap.size + 1) 24 zLs) := Lib.hid (by rw [← hW7]; exact R6.out.below (new_drew _))
    have B7 : Hid (Below w.heap.size w W7) := Lib.hid (by rw [← hW7]; exact B6.out.drew)
    have HO7 : Hid (ownL W7 (w2.heap.size + 1) A5 i c5 (s.l.take i)) := Lib.hid (by rw [← hW7]; exact own_keepL HO6.out (new_drew _))
    have hsz7 : W7.heap.size = W6.heap.size := by rw [← hW7]; rfl
    clear hW7 q60 q61 m60 m61
    have L7 := HH.out.row.keep B7.out
    obtain ⟨A8, c8, w8, hr8, hown8, hb8, _⟩ := app_les (w2.heap.size + 1) A5 i c5 (s.l.take i) W7 HO7.out (if c = i + 1 then some a else some (a.add ((i + 1) * 3))) (s.l.length - (i + 1)) (c - (i + 1)) (s.l.drop (i + 1)) (L7.row.drop (by omega)) (by omega) (by omega)
    have M8 := Lib.hid (M7.out.low hb8 (by omega))
    have R8 := Lib.hid (R7.out.low hb8 (by omega))
    have B8 := Lib.hid (B7.out.trans (hb8.mono (by omega)))
    have M9 := Lib.hid (M8.out.set 1 (.slice A8 (i + (s.l.length - (i + 1))) c8))
    have R9 := Lib.hid (R8.out.other w2.heap.size 1 (.slice A8 (i + (s.l.length - (i + 1))) c8) (by omega))
    have B9 := Lib.hid (B8.out.setCell (p := ⟨w2.heap.size, 1, none⟩) (by show w.heap.size ≤ w2.heap.size; omega) (.slice A8 (i + (s.l.length - (i + 1))) c8))
    have HL9 : Hid (Les (w8.setCell ⟨w2.heap.size, 1, none⟩ (.slice A8 (i + (s.l.length - (i + 1))) c8)) A8 (i + (s.l.length - (i + 1))) c8 (s.l.take i ++ s.l.drop (i + 1))) := Lib.hid ((own_les hown8 (fun y hy => by
      rcases List.mem_append.1 hy with hy | hy
      · exact HH.out.row.ok y (List.mem_of_mem_take hy)
      · exact HH.out.row.ok y (List.mem_of_mem_drop hy))).other _ _ _ (fun b hb => by have := own_freshL hown8 b hb; omega))
    have HF9 : Hid (∀ b, A8 = some b → b.block ≠ w.heap.size + 1) := Lib.hid (fun b hb => by have := own_freshL hown8 b hb; omega)
    have m80 := M8.out.cell 0 _ rfl
    have m81 := M8.out.cell 1 _ rfl
    have m8f := M8.out.frozen
    have m90 := M9.out.cell 0 _ rfl
    have m91 := M9.out.cell 1 _ rfl
    have o0 := R9.out.cell 0 _ rfl
    have o1 := R9.out.cell 1 _ rfl
    have f := R9.out.frozen
    clear L7 hown8 hb8
    go_wp2_with (at_builtin; refine wpList_append_eq _ rfl (.tmp 26) (.tmp 31) _ _ rfl _ _ rfl rfl hr8 ?_)
    all_goals
      refine bodyPost_ret (v := .tuple #[(Ls.mk s.next (s.l.take i ++ s.l.drop (i + 1))).agg A8 (i + (s.l.length - (i + 1))) c8, .int .i64 0]) (by simp [results, Try.results28, go_sem, o0, o1]) rfl (LsEnd2.mk E.out.1 E.out.2 rfl ?_ ?_)
      · exact ⟨(HL9.out.other _ _ _ HF9.out).other _ _ _ HF9.out, HNX.out⟩
      · exact (B9.out.setCell (p := ⟨w.heap.size + 1, 0, none⟩) (Nat.le_succ _) _).setCell (p := ⟨w.heap.size + 1, 1, none⟩) (Nat.le_succ _) _
end Go.Proofs.Ytelepkofhdjagab.P
