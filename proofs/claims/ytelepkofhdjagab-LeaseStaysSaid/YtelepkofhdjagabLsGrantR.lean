/- Leases: Grant, the document's way. -/
import Derived.Test.YtelepkofhdjagabLsGrant
namespace Go.Proofs.Ytelepkofhdjagab.P
open Go.RowKit Go.Sort
set_option maxHeartbeats 400000
set_option linter.unusedVariables false
set_option linter.unusedSimpArgs false
set_option maxRecDepth 100000

theorem grant_ref (s : Ls) (A : Option Addr) (n c : Nat) (ttl now : Int) (w : World) (h : LsAt w s A n c) (hl : s.l.length ≤ 1000) :
    Calls Try.prog 18 #[s.agg A n c, .int .i64 ttl, .int .i64 now] w (LsEnd3 (grantS s ttl now) (grantI s ttl now) (grantE s ttl now) w) := by
  have hb0 := then_ (new1 w (.cells (lsCells s A n c) 24)) (new1 _ (.cells zLs 24))
  have HH := Lib.hid h
  have B0 := Lib.hid hb0
  have O0 := Lib.hid ((own_new w (lsCells s A n c) 24).alloc (.cells zLs 24))
  have R0 := Lib.hid (own_new2 w (.cells (lsCells s A n c) 24) zLs 24)
  have hlen := h.row.row.len
  have hmax := Nat.le_trans h.row.row.le h.row.row.max
  unfold maxLen at hmax
  obtain ⟨hn1, hn2⟩ := h.next
  have q0 := O0.out.cell 0 _ rfl
  have q1 := O0.out.cell 1 _ rfl
  have f := R0.out.frozen
  have o0 := R0.out.cell 0 _ rfl
  have o1 := R0.out.cell 1 _ rfl
  clear h hb0
  by_cases h1 : ttl < 1
  · have E := Lib.hid (grant_bad (s := s) (ttl := ttl) (now := now) (by
      cases h : ttlB ttl with
      | false => rfl
      | true => have := ttlB_iff.1 h; omega))
    go_enter Try.func18, Try.ntmps18
    go_wp2
    refine bodyPost_ret (v := .tuple #[s.agg A n c, .int .i64 0, .int .i64 1]) (by simp [results, Try.results18, go_sem, o0, o1]) rfl (LsEnd3.mk E.out.1 E.out.2.1 E.out.2.2 rfl (HH.out.keep (then_ (new1 w _) (new1 _ _))) (then_ (new1 w _) (new1 _ _)))
  · by_cases h2 : 1000 < ttl
    · have E := Lib.hid (grant_bad (s := s) (ttl := ttl) (now := now) (by
        cases h : ttlB ttl with
        | false => rfl
        | true => have := ttlB_iff.1 h; omega))
      go_enter Try.func18, Try.ntmps18
      go_wp2
      refine bodyPost_ret (v := .tuple #[s.agg A n c, .int .i64 0, .int .i64 1]) (by simp [results, Try.results18, go_sem, o0, o1]) rfl (LsEnd3.mk E.out.1 E.out.2.1 E.out.2.2 rfl (HH.out.keep (then_ (new1 w _) (new1 _ _))) (then_ (new1 w _) (new1 _ _)))
    · have ht : ttlB ttl = true := ttlB_iff.2 ⟨by omega, by omega⟩
      clear q0 q1 f o0 o1
      cases ha : atB now with
      | false =>
        have E := Lib.hid (grant_bad (s := s) (ttl := ttl) (now := now) (by rw [ha, Bool.and_false]))
        have HA := Lib.hid ha; clear ha ht
        go_enter Try.func18, Try.ntmps18
        go_wp2_with fail
        refine (time_any now _).mono ?_; rintro e w1 ⟨rfl, hw1⟩
        rw [HA.out]
        have B1 : Hid (Below w.heap.size w w1) := Lib.hid (by rw [← hw1]; exact B0.out)
        have q0 : w1.cell? ⟨w.heap.size, 0, none⟩ = some (.int .i64 s.next) := by rw [← hw1]; exact O0.out.cell 0 _ rfl
        have q1 : w1.cell? ⟨w.heap.size, 1, none⟩ = some (.slice A n c) := by rw [← hw1]; exact O0.out.cell 1 _ rfl
        have R1 : Hid (Own w1 (w.heap.size + 1) 24 zLs) := Lib.hid (by rw [← hw1]; exact R0.out)
        have f := R1.out.frozen
        have o0 := R1.out.cell 0 _ rfl
        have o1 := R1.out.cell 1 _ rfl
        clear hw1
        go_wp2
        refine bodyPost_ret (v := .tuple #[s.agg A n c, .int .i64 0, .int .i64 1]) (by simp [results, Try.results18, go_sem, o0, o1]) rfl (LsEnd3.mk E.out.1 E.out.2.1 E.out.2.2 rfl (HH.out.keep (below_set2 B1.out (Nat.le_succ _) _ _)) (below_set2 B1.out (Nat.le_succ _) _ _))
      | true =>
        have hta : (ttlB ttl && atB now) = true := by rw [ht, ha]; rfl
        have ht' := ttlB_iff.1 ht
        have ha' := atB_iff.1 ha
        have HA := Lib.hid ha; clear ha ht
        have HTA := Lib.hid hta; clear hta
        have HLEN := Lib.hid hlen
        have h8c : Hid (8 ≤ n → 8 ≤ s.l.length) := Lib.hid (fun h => by omega)
        have h8d : Hid (¬ 8 ≤ n → s.l.length < 8) := Lib.hid (fun h => by omega)
        clear hlen hl
        go_enter Try.func18, Try.ntmps18
        go_wp2_with fail
        refine (time_any now _).mono ?_; rintro e w1 ⟨rfl, hw1⟩
        rw [HA.out]
        have B1 : Hid (Below w.heap.size w w1) := Lib.hid (by rw [← hw1]; exact B0.out)
        have O1 : Hid (Own w1 w.heap.size 24 (lsCells s A n c)) := Lib.hid (by rw [← hw1]; exact O0.out)
        have R1 : Hid (Own w1 (w.heap.size + 1) 24 zLs) := Lib.hid (by rw [← hw1]; exact R0.out)
        have q0 : w1.cell? ⟨w.heap.size, 0, none⟩ = some (.int .i64 s.next) := O1.out.cell 0 _ rfl
        have q1 : w1.cell? ⟨w.heap.size, 1, none⟩ = some (.slice A n c) := O1.out.cell 1 _ rfl
        have f := R1.out.frozen
        have o0 := R1.out.cell 0 _ rfl
        have o1 := R1.out.cell 1 _ rfl
        have hlt1 := O1.out.lt
        have hlt2 := R1.out.lt
        clear hw1
        by_cases h8 : 8 ≤ n
        · have E := Lib.hid (grant_full (s := s) HTA.out (.inl (h8c.out h8)))
          go_wp2
          refine bodyPost_ret (v := .tuple #[s.agg A n c, .int .i64 0, .int .i64 4]) (by simp [results, Try.results18, go_sem, o0, o1]) rfl (LsEnd3.mk E.out.1 E.out.2.1 E.out.2.2 rfl (HH.out.keep (below_set2 B1.out (Nat.le_succ _) _ _)) (below_set2 B1.out (Nat.le_succ _) _ _))
        · by_cases hnx : 1099511627775 ≤ s.next
          · have E := Lib.hid (grant_full (s := s) HTA.out (.inr hnx))
            go_wp2
            refine bodyPost_ret (v := .tuple #[s.agg A n c, .int .i64 0, .int .i64 4]) (by simp [results, Try.results18, go_sem, o0, o1]) rfl (LsEnd3.mk E.out.1 E.out.2.1 E.out.2.2 rfl (HH.out.keep (below_set2 B1.out (Nat.le_succ _) _ _)) (below_set2 B1.out (Nat.le_succ _) _ _))
          · have E := Lib.hid (grant_ok (s := s) HTA.out (h8d.out h8) (by omega))
            have OKX : Hid (Le.ok ⟨s.next + 1, ttl, now + ttl⟩) := Lib.hid ⟨⟨by show _ ≤ s.next + 1; omega, by show s.next + 1 ≤ _; omega⟩, ⟨by show _ ≤ ttl; omega, by show ttl ≤ _; omega⟩, ⟨by show _ ≤ now + ttl; omega, by show now + ttl ≤ _; omega⟩⟩
            have HN : Hid (inI (s.next + 1)) := Lib.hid ⟨by omega, by omega⟩
            obtain ⟨W5, hW5⟩ : ∃ W5, W5 = w1.alloc (.cells #[.int .i64 (s.next + 1), .slice none 0 0] 24) := ⟨_, rfl⟩
            have n5 : Hid (Below w1.heap.size w1 W5) := Lib.hid (by rw [hW5]; exact new1 _ _)
            have hsz5 : W5.heap.size = w1.heap.size + 1 := by rw [hW5]; simp
            have M5 : Hid (Own W5 w1.heap.size 24 #[.int .i64 (s.next + 1), .slice none 0 0]) := Lib.hid (by rw [hW5]; exact own_new _ _ _)
            have L5 := Lib.hid ((HH.out.row.keep B1.out).keep n5.out)
            obtain ⟨A6, c6, W6, hr6, hown6, hb6, _⟩ := app_les W5.heap.size none 0 0 [] W5 ⟨rfl, .inl ⟨rfl, rfl⟩⟩ A n c s.l L5.out.row (by omega) (Nat.le_refl _)
            rw [Nat.zero_add] at hr6 hown6
            rw [List.nil_append] at hown6
            have M6 := Lib.hid (M5.out.below hb6)
            have O6 := Lib.hid ((O1.out.below n5.out).below hb6)
            have R6 := Lib.hid ((R1.out.below n5.out).below hb6)
            have HO6 := Lib.hid hown6
            have B6 := Lib.hid (then_ (then_ B1.out n5.out) hb6)
            have hsz6 := hb6.size
            obtain ⟨W7, hW7⟩ : ∃ W7, W7 = W6.setCell ⟨w1.heap.size, 1, none⟩ (.slice A6 n c6) := ⟨_, rfl⟩
            have M7 : Hid (Own W7 w1.heap.size 24 #[.int .i64 (s.next + 1), .slice A6 n c6]) := Lib.hid (by rw [hW7]; exact M6.out.set 1 _)
            have R7 : Hid (Own W7 (w.heap.size + 1) 24 zLs) := Lib.hid (by rw [hW7]; exact R6.out.other _ _ _ (by omega))
            have HO7 : Hid (ownL W7 W5.heap.size A6 n c6 s.l) := Lib.hid (by rw [hW7]; exact HO6.out.kept (Lib.grownBy_setCell W6 _ 1 _) (by rcases hv : (Value.slice A6 n c6).ownBlock with _ | y; exact .inl rfl; right; intro hh; injection hh with hh; have := (HO6.out.lt y hv).1; omega))
            have B7 : Hid (Below w.heap.size w W7) := Lib.hid (by rw [hW7]; exact B6.out.setCell (p := ⟨w1.heap.size, 1, none⟩) (Nat.le_of_lt hlt1) _)
            have hsz7 : W7.heap.size = W6.heap.size := by rw [hW7]; simp [World.setCell]
            obtain ⟨A8, c8, W8, hr8, hown8, hb8, _⟩ := app_les W5.heap.size A6 n c6 s.l (W7.alloc (Le.obj ⟨s.next + 1, ttl, now + ttl⟩ 80)) (HO7.out.alloc _) (some ⟨W7.heap.size, 0, none⟩) 1 1 [⟨s.next + 1, ttl, now + ttl⟩] (les_new W7 _) (by omega) (by simp; omega)
            have M8 := Lib.hid ((M7.out.alloc (Le.obj ⟨s.next + 1, ttl, now + ttl⟩ 80)).low hb8 (by omega))
            have R8 := Lib.hid ((R7.out.alloc (Le.obj ⟨s.next + 1, ttl, now + ttl⟩ 80)).low hb8 (by omega))
            have B8 : Hid (Below w.heap.size w W8) := Lib.hid ((then_ B7.out (new1 W7 _)).trans (hb8.mono (by omega)))
            have HO8 := Lib.hid hown8
            have M9 := Lib.hid (M8.out.set 1 (.slice A8 (n + 1) c8))
            have R9 := Lib.hid (R8.out.other w1.heap.size 1 (.slice A8 (n + 1) c8) (by omega))
            have B9 := Lib.hid (B8.out.setCell (p := ⟨w1.heap.size, 1, none⟩) (Nat.le_of_lt hlt1) (.slice A8 (n + 1) c8))
            have HL9 : Hid (Les (W8.setCell ⟨w1.heap.size, 1, none⟩ (.slice A8 (n + 1) c8)) A8 (n + 1) c8 (s.l ++ [⟨s.next + 1, ttl, now + ttl⟩])) := Lib.hid (by
              have h1 := own_les HO8.out (fun x hx => by rcases List.mem_append.1 hx with hx | hx; exact HH.out.row.ok x hx; simp at hx; subst hx; exact OKX.out)
              exact h1.other _ _ _ (fun a ha => by have := own_freshL HO8.out a ha; omega))
            have HF9 : Hid (∀ a, A8 = some a → a.block ≠ w.heap.size + 1) := Lib.hid (fun a ha => by have := own_freshL HO8.out a ha; omega)
            rw [hsz7] at hr8
            subst hW7
            subst hW5
            have m60 := M6.out.cell 0 _ rfl
            have m61 := M6.out.cell 1 _ rfl
            have m6f := M6.out.frozen
            have m70 := M7.out.cell 0 _ rfl
            have m71 := M7.out.cell 1 _ rfl
            have m80 := M8.out.cell 0 _ rfl
            have m81 := M8.out.cell 1 _ rfl
            have m8f := M8.out.frozen
            have m90 := M9.out.cell 0 _ rfl
            have m91 := M9.out.cell 1 _ rfl
            have o90 := R9.out.cell 0 _ rfl
            have o91 := R9.out.cell 1 _ rfl
            have f9 := R9.out.frozen
            clear hown6 hb6 hown8 hb8
            go_wp2_with (at_builtin; first | (refine wpList_append_eq _ rfl (.tmp 37) (.tmp 39) _ _ rfl _ _ rfl rfl hr6 ?_) | (refine wpList_append_eq _ rfl (.tmp 43) (.tmp 51) _ _ rfl _ _ rfl rfl hr8 ?_))
            go_region
            go_wp2
            refine bodyPost_ret (v := .tuple #[(Ls.mk (s.next + 1) (s.l ++ [⟨s.next + 1, ttl, now + ttl⟩])).agg A8 (n + 1) c8, .int .i64 (s.next + 1), .int .i64 0]) (by simp [results, Try.results18, go_sem, o90, o91]) rfl (LsEnd3.mk E.out.1 E.out.2.1 E.out.2.2 rfl ?_ ?_)
            · exact ⟨(((HL9.out.other _ _ _ HF9.out).other _ _ _ HF9.out).keep (new_drew _)), HN.out⟩
            · exact ((B9.out.setCell (p := ⟨w.heap.size + 1, 0, none⟩) (Nat.le_succ _) _).setCell (p := ⟨w.heap.size + 1, 1, none⟩) (Nat.le_succ _) _).drew
end Go.Proofs.Ytelepkofhdjagab.P
