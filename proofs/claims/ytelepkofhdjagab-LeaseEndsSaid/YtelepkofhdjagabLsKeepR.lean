/- Leases: Keep, the document's way. -/
import Derived.Test.YtelepkofhdjagabLsKeep
namespace Go.Proofs.Ytelepkofhdjagab.P
open Go.RowKit Go.Sort
set_option maxHeartbeats 1000000
set_option linter.unusedVariables false
set_option linter.unusedSimpArgs false
set_option maxRecDepth 100000

theorem set_same {s : Ls} {i : Nat} {x : Le} {now : Int} (hx : s.l[i]? = some x) (h : ¬ x.til < now + x.ttl) : s.l.set i (later x now) = s.l := by
  have : later x now = x := by unfold later; rw [if_neg h]
  rw [this]
  obtain ⟨hi, hxe⟩ := List.getElem?_eq_some_iff.1 hx
  rw [← hxe]; exact List.set_getElem_self hi
theorem keep_ref (s : Ls) (A : Option Addr) (n c : Nat) (id now : Int) (w : World) (h : LsAt w s A n c) (hl : s.l.length ≤ 1000) (hsm : smallT s) :
    Calls Try.prog 20 #[s.agg A n c, .int .i64 id, .int .i64 now] w (LsEnd3 (keepS s id now) (keepT s id now) (keepE s id now) w) := by
  obtain rfl := h.row.row.len
  have hb0 := then_ (new1 w (.cells (lsCells s A s.l.length c) 24)) (new1 _ (.cells zLs 24))
  have HH := Lib.hid h
  have B0 := Lib.hid hb0
  have O0 := Lib.hid ((own_new w (lsCells s A s.l.length c) 24).alloc (.cells zLs 24))
  have R0 := Lib.hid (own_new2 w (.cells (lsCells s A s.l.length c) 24) zLs 24)
  have HSM := Lib.hid hsm
  have HNX := Lib.hid h.next
  clear h hb0 hsm
  have first : ∀ w1, ((w.alloc (.cells (lsCells s A s.l.length c) 24)).alloc (.cells zLs 24)) = w1 → Below w.heap.size w w1 ∧ Own w1 w.heap.size 24 (lsCells s A s.l.length c) ∧ Own w1 (w.heap.size + 1) 24 zLs := fun w1 e => by
    rw [← e]; exact ⟨B0.out, O0.out, R0.out⟩
  have FIRST := Lib.hid first
  clear first
  cases ha : atB now with
  | false =>
    have E := Lib.hid (keep_bad (s := s) (id := id) ha)
    have HA := Lib.hid ha; clear ha
    go_enter Try.func20, Try.ntmps20
    go_wp2_with fail
    refine (time_any now _).mono ?_; rintro e w1 ⟨rfl, hw1⟩
    rw [HA.out]
    obtain ⟨b1, p1, r1⟩ := FIRST.out _ hw1
    have B1 := Lib.hid b1
    have q0 := p1.cell 0 _ rfl
    have q1 := p1.cell 1 _ rfl
    have f := r1.frozen
    have o0 := r1.cell 0 _ rfl
    have o1 := r1.cell 1 _ rfl
    clear hw1 b1 p1 r1
    go_wp2
    refine bodyPost_ret (v := .tuple #[s.agg A s.l.length c, .int .i64 0, .int .i64 1]) (by simp [results, Try.results20, go_sem, o0, o1]) rfl (LsEnd3.mk E.out.1 E.out.2.1 E.out.2.2 rfl (HH.out.keep (below_set2 B1.out (Nat.le_succ _) _ _)) (below_set2 B1.out (Nat.le_succ _) _ _))
  | true =>
    have ha' := atB_iff.1 ha
    cases hi : idxL s.l id with
    | none =>
      have E := Lib.hid (keep_none (s := s) (id := id) ha hi)
      have HP : Hid (placeL s.l id = -1) := Lib.hid (by unfold placeL; rw [hi])
      have HA := Lib.hid ha; clear ha hi
      go_enter Try.func20, Try.ntmps20
      go_wp2_with fail
      refine (time_any now _).mono ?_; rintro e w1 ⟨rfl, hw1⟩
      rw [HA.out]
      obtain ⟨b1, p1, r1⟩ := FIRST.out _ hw1
      have B1 := Lib.hid b1; have O1 := Lib.hid p1; have R1 := Lib.hid r1
      have q0 := p1.cell 0 _ rfl
      have q1 := p1.cell 1 _ rfl
      clear hw1 b1 p1 r1
      go_wp2_with fail
      refine (place_any s A s.l.length c id _ (HH.out.keep B1.out)).mono ?_; rintro e w2 ⟨rfl, hb⟩
      rw [HP.out]
      have B2 := Lib.hid (then_ B1.out hb)
      have O2 := Lib.hid (O1.out.below hb); have R2 := Lib.hid (R1.out.below hb)
      clear hb q0 q1
      have q0 := O2.out.cell 0 _ rfl
      have q1 := O2.out.cell 1 _ rfl
      have f := R2.out.frozen
      have o0 := R2.out.cell 0 _ rfl
      have o1 := R2.out.cell 1 _ rfl
      go_wp2
      refine bodyPost_ret (v := .tuple #[s.agg A s.l.length c, .int .i64 0, .int .i64 6]) (by simp [results, Try.results20, go_sem, o0, o1]) rfl (LsEnd3.mk E.out.1 E.out.2.1 E.out.2.2 rfl (HH.out.keep (below_set2 B2.out (Nat.le_succ _) _ _)) (below_set2 B2.out (Nat.le_succ _) _ _))
    | some i =>
      obtain ⟨x, hx, hxi⟩ := idxL_some hi
      have E := Lib.hid (keep_some (s := s) (id := id) ha hi hx)
      have HP : Hid (placeL s.l id = (i : Int)) := Lib.hid (by unfold placeL; rw [hi])
      have hil : i < s.l.length := (List.getElem?_eq_some_iff.1 hx).1
      have HX := Lib.hid hx
      have HA := Lib.hid ha
      have hsx := HSM.out x (List.mem_of_getElem? hx)
      have hxok := HH.out.row.ok x (List.mem_of_getElem? hx)
      obtain ⟨⟨b1, b2⟩, ⟨b3, b4⟩, ⟨b5, b6⟩⟩ := hxok
      have HOKY : Hid (later x now).ok := Lib.hid ⟨⟨b1, b2⟩, ⟨b3, b4⟩, by show inI (if x.til < now + x.ttl then now + x.ttl else x.til); split; exact ⟨by omega, by omega⟩; exact ⟨b5, b6⟩⟩
      clear ha hi hx hxi
      go_enter Try.func20, Try.ntmps20
      go_wp2_with fail
      refine (time_any now _).mono ?_; rintro e w1 ⟨rfl, hw1⟩
      rw [HA.out]
      obtain ⟨b1, p1, r1⟩ := FIRST.out _ hw1
      have B1 := Lib.hid b1; have O1 := Lib.hid p1; have R1 := Lib.hid r1
      have q0 := p1.cell 0 _ rfl
      have q1 := p1.cell 1 _ rfl
      clear hw1 b1 p1 r1
      go_wp2_with fail
      refine (place_any s A s.l.length c id _ (HH.out.keep B1.out)).mono ?_; rintro e w2 ⟨rfl, hb⟩
      rw [HP.out]
      have B2 := Lib.hid (then_ B1.out hb)
      have O2 := Lib.hid (O1.out.below hb); have R2 := Lib.hid (R1.out.below hb)
      clear hb q0 q1
      have q0 := O2.out.cell 0 _ rfl
      have q1 := O2.out.cell 1 _ rfl
      have hl2 := O2.out.lt
      have hl3 := R2.out.lt
      have n3 := new1 w2 (.cells #[.int .i64 s.next, .slice none 0 0] 24)
      have M3 := own_new w2 #[.int .i64 s.next, .slice none 0 0] 24
      have L3 := (HH.out.row.keep B2.out).keep n3
      obtain ⟨A4, c4, w4, hr4, hown4, hb4, _⟩ := app_les (w2.heap.size + 1) none 0 0 [] (w2.alloc (.cells #[.int .i64 s.next, .slice none 0 0] 24)) ⟨rfl, .inl ⟨rfl, rfl⟩⟩ A s.l.length c s.l L3.row (by omega) (by simp)
      rw [Nat.zero_add] at hr4 hown4
      rw [List.nil_append] at hown4
      have M4 := Lib.hid (M3.low hb4 (by omega))
      have O4 := Lib.hid ((O2.out.below n3).low hb4 (by omega))
      have R4 := Lib.hid ((R2.out.below n3).low hb4 (by omega))
      have B4 := Lib.hid ((then_ B2.out n3).trans (hb4.mono (by omega)))
      obtain ⟨g, rfl⟩ : ∃ g, A4 = some ⟨g, 0, none⟩ := by
        rcases hown4.2 with ⟨h, h0⟩ | ⟨g, cap, cur, hv, _⟩
        · omega
        · injection hv with e1; exact ⟨g, e1⟩
      have HO4 := Lib.hid hown4
      have hfr : Hid (w2.heap.size + 1 ≤ g) := Lib.hid (own_freshL hown4 _ rfl)
      have hneM : w2.heap.size ≠ g := by have := hfr.out; omega
      have q40 := M4.out.cell 0 _ rfl
      have q41 := M4.out.cell 1 _ rfl
      have f40 := M4.out.frozen
      clear hown4 hb4 n3 M3 L3
      go_wp2_with (at_builtin; refine wpList_append_eq _ rfl (.tmp 25) (.tmp 27) _ _ rfl _ _ rfl rfl hr4 ?_)
      obtain ⟨W5, hW5⟩ : ∃ W5, W5 = w4.setCell ⟨w2.heap.size, 1, none⟩ (.slice (some ⟨g, 0, none⟩) s.l.length c4) := ⟨_, rfl⟩
      rw [← hW5]
      have M5 : Hid (Own W5 w2.heap.size 24 #[.int .i64 s.next, .slice (some ⟨g, 0, none⟩) s.l.length c4]) := Lib.hid (by rw [hW5]; exact M4.out.set 1 _)
      have R5 : Hid (Own W5 (w.heap.size + 1) 24 zLs) := Lib.hid (by rw [hW5]; exact R4.out.other _ _ _ (by omega))
      have B5 : Hid (Below w.heap.size w W5) := Lib.hid (by rw [hW5]; exact B4.out.setCell (p := ⟨w2.heap.size, 1, none⟩) (by show w.heap.size ≤ w2.heap.size; omega) _)
      have HO5 : Hid (ownL W5 (w2.heap.size + 1) (some ⟨g, 0, none⟩) s.l.length c4 s.l) := Lib.hid (by rw [hW5]; exact HO4.out.kept (Lib.grownBy_setCell w4 _ 1 _) (.inr (by intro hh; simp [Value.ownBlock] at hh; omega)))
      clear hW5 q40 q41 f40 hr4
      obtain ⟨⟨x0, x1, x2⟩, xf⟩ := row_at3 HO5.out HX.out
      simp only at x1 x2
      have q50 : W5.cell? ⟨w2.heap.size, 0, none⟩ = some (.int .i64 s.next) := M5.out.cell 0 _ rfl
      have q51 : W5.cell? ⟨w2.heap.size, 1, none⟩ = some (.slice (some ⟨g, 0, none⟩) s.l.length c4) := M5.out.cell 1 _ rfl
      have o50 : W5.cell? ⟨w.heap.size + 1, 0, none⟩ = some (.int .i64 0) := R5.out.cell 0 _ rfl
      have o51 : W5.cell? ⟨w.heap.size + 1, 1, none⟩ = some (.slice none 0 0) := R5.out.cell 1 _ rfl
      have f5 := R5.out.frozen
      have hne1 : w.heap.size + 1 ≠ g := by have := hfr.out; omega
      have hil2 : (i : Int) < (s.l.length : Int) := by omega
      by_cases hmx : x.til < now + x.ttl
      · have hd : decide (x.til < now + x.ttl) = true := decide_eq_true hmx
        have hy2 : Hid ((later x now).cells = x.cells.set 2 (.int .i64 (now + x.ttl))) := Lib.hid (by show [_, _, _] = [_, _, _]; unfold later; simp only [if_pos hmx])
        go_quiet (fail)
        go_wp2
        have hwr : IntKind.i64.wrap (now + x.ttl) = now + x.ttl := by rw [IntKind.wrap_i64]; omega
        generalize hWq : W5.drewN nq = Wq
        have Mq : Hid (Own Wq w2.heap.size 24 #[.int .i64 s.next, .slice (some ⟨g, 0, none⟩) s.l.length c4]) := Lib.hid (by rw [← hWq]; exact M5.out.below (below_drewN (Below.refl _ _) _))
        have Rq : Hid (Own Wq (w.heap.size + 1) 24 zLs) := Lib.hid (by rw [← hWq]; exact R5.out.below (below_drewN (Below.refl _ _) _))
        have Bq : Hid (Below w.heap.size w Wq) := Lib.hid (by rw [← hWq]; exact below_drewN B5.out _)
        have HOq : Hid (ownL Wq (w2.heap.size + 1) (some ⟨g, 0, none⟩) s.l.length c4 s.l) := Lib.hid (by rw [← hWq]; exact own_keepL HO5.out (below_drewN (Below.refl _ _) _))
        clear hWq x0 x1 x2 xf q50 q51 o50 o51 f5
        obtain ⟨⟨x0, x1, x2⟩, xf⟩ := row_at3 HOq.out HX.out
        simp only at x1 x2
        have qq0 : Wq.cell? ⟨w2.heap.size, 0, none⟩ = some (.int .i64 s.next) := Mq.out.cell 0 _ rfl
        have qq1 : Wq.cell? ⟨w2.heap.size, 1, none⟩ = some (.slice (some ⟨g, 0, none⟩) s.l.length c4) := Mq.out.cell 1 _ rfl
        refine wp_region_still_tail 11 (by kernel_rfl) (by kernel_rfl) ?_
        simp only [List.take_succ_cons, List.take_zero, List.drop_succ_cons, List.drop_zero]
        repeat still_step
        refine wpStill_nil ?_
        change wpList _ _ _ _ _ Wq.drew
        generalize hW6 : Wq.drew = W6
        have M6 : Hid (Own W6 w2.heap.size 24 #[.int .i64 s.next, .slice (some ⟨g, 0, none⟩) s.l.length c4]) := Lib.hid (by rw [← hW6]; exact Mq.out.below (new_drew _))
        have R6 : Hid (Own W6 (w.heap.size + 1) 24 zLs) := Lib.hid (by rw [← hW6]; exact Rq.out.below (new_drew _))
        have B6 : Hid (Below w.heap.size w W6) := Lib.hid (by rw [← hW6]; exact Bq.out.drew)
        have HO6 : Hid (ownL W6 (w2.heap.size + 1) (some ⟨g, 0, none⟩) s.l.length c4 s.l) := Lib.hid (by rw [← hW6]; exact own_keepL HOq.out (new_drew _))
        clear hW6 x0 x1 x2 xf qq0 qq1
        have SET := Lib.hid (own_setL HO6.out HX.out (show 2 < 3 by omega) hy2.out)
        obtain ⟨⟨x0, x1, x2⟩, xf⟩ := row_at3 HO6.out HX.out
        simp only at x1 x2
        have q60 := M6.out.cell 0 _ rfl
        have q61 := M6.out.cell 1 _ rfl
        have M7 := Lib.hid (M6.out.other g (i * 3 + 2) (.int .i64 (now + x.ttl)) hneM)
        have R7 := Lib.hid (R6.out.other g (i * 3 + 2) (.int .i64 (now + x.ttl)) hne1)
        have B7 := Lib.hid (B6.out.setCell (p := ⟨g, i * 3 + 2, none⟩) (by have := hfr.out; show w.heap.size ≤ g; omega) (.int .i64 (now + x.ttl)))
        have hlat : (s.l.set i (later x now))[i]? = some (later x now) := by rw [List.getElem?_set_self hil]
        obtain ⟨⟨y0, y1, y2⟩, yf⟩ := row_at3 SET.out.1 hlat
        simp only at y1 y2
        have y1' : (W6.setCell ⟨g, i * 3 + 2, none⟩ (.int .i64 (now + x.ttl))).cell? ⟨g, i * 3 + 1, none⟩ = some (.int .i64 x.ttl) := y1
        have q70 := M7.out.cell 0 _ rfl
        have q71 := M7.out.cell 1 _ rfl
        have o70 := R7.out.cell 0 _ rfl
        have o71 := R7.out.cell 1 _ rfl
        have f7 := R7.out.frozen
        have HL7 : Hid (Les (W6.setCell ⟨g, i * 3 + 2, none⟩ (.int .i64 (now + x.ttl))) (some ⟨g, 0, none⟩) s.l.length c4 (s.l.set i (later x now))) := Lib.hid (own_les SET.out.1 (fun y hy => by
          rcases List.mem_or_eq_of_mem_set hy with hy | hy
          · exact HH.out.row.ok y hy
          · subst hy; exact HOKY.out))
        have HF7 : Hid (∀ a, some (⟨g, 0, none⟩ : Addr) = some a → a.block ≠ w.heap.size + 1) := Lib.hid (fun a ha => by injection ha with ha; subst ha; exact fun e => hne1 e.symm)
        clear y1 hlat
        go_wp2
        go_region
        go_wp2
        refine bodyPost_ret (v := .tuple #[(Ls.mk s.next (s.l.set i (later x now))).agg (some ⟨g, 0, none⟩) s.l.length c4, .int .i64 x.ttl, .int .i64 0]) (by simp [results, Try.results20, go_sem, o70, o71]) rfl (LsEnd3.mk E.out.1 E.out.2.1 E.out.2.2 rfl ?_ ?_)
        · exact ⟨(((HL7.out.other _ _ _ HF7.out).other _ _ _ HF7.out).keep (new_drew _)), HNX.out⟩
        · exact ((B7.out.setCell (p := ⟨w.heap.size + 1, 0, none⟩) (Nat.le_succ _) _).setCell (p := ⟨w.heap.size + 1, 1, none⟩) (Nat.le_succ _) _).drew
      · have hd : decide (x.til < now + x.ttl) = false := decide_eq_false hmx
        have HSAME := Lib.hid (set_same HX.out hmx)
        have HF7 : Hid (∀ a, some (⟨g, 0, none⟩ : Addr) = some a → a.block ≠ w.heap.size + 1) := Lib.hid (fun a ha => by injection ha with ha; subst ha; exact fun e => hne1 e.symm)
        go_quiet (fail)
        go_wp2
        generalize hW6 : W5.drewN nq = W6
        have M6 : Hid (Own W6 w2.heap.size 24 #[.int .i64 s.next, .slice (some ⟨g, 0, none⟩) s.l.length c4]) := Lib.hid (by rw [← hW6]; exact M5.out.below (below_drewN (Below.refl _ _) _))
        have R6 : Hid (Own W6 (w.heap.size + 1) 24 zLs) := Lib.hid (by rw [← hW6]; exact R5.out.below (below_drewN (Below.refl _ _) _))
        have B6 : Hid (Below w.heap.size w W6) := Lib.hid (by rw [← hW6]; exact below_drewN B5.out _)
        have HO6 : Hid (ownL W6 (w2.heap.size + 1) (some ⟨g, 0, none⟩) s.l.length c4 s.l) := Lib.hid (by rw [← hW6]; exact own_keepL HO5.out (below_drewN (Below.refl _ _) _))
        clear hW6 x0 x1 x2 xf q50 q51 o50 o51 f5
        obtain ⟨⟨x0, x1, x2⟩, xf⟩ := row_at3 HO6.out HX.out
        simp only at x1 x2
        have q60 := M6.out.cell 0 _ rfl
        have q61 := M6.out.cell 1 _ rfl
        have o60 := R6.out.cell 0 _ rfl
        have o61 := R6.out.cell 1 _ rfl
        have f6 := R6.out.frozen
        have HL6 : Hid (Les W6 (some ⟨g, 0, none⟩) s.l.length c4 s.l) := Lib.hid (own_les HO6.out HH.out.row.ok)
        go_region
        go_wp2
        refine bodyPost_ret (v := .tuple #[(Ls.mk s.next s.l).agg (some ⟨g, 0, none⟩) s.l.length c4, .int .i64 x.ttl, .int .i64 0]) (by simp [results, Try.results20, go_sem, o60, o61]) rfl (LsEnd3.mk (E.out.1.trans (by rw [HSAME.out])) E.out.2.1 E.out.2.2 rfl ?_ ?_)
        · exact ⟨(((HL6.out.other _ _ _ HF7.out).other _ _ _ HF7.out).keep (new_drew _)), HNX.out⟩
        · exact ((B6.out.setCell (p := ⟨w.heap.size + 1, 0, none⟩) (Nat.le_succ _) _).setCell (p := ⟨w.heap.size + 1, 1, none⟩) (Nat.le_succ _) _).drew
end Go.Proofs.Ytelepkofhdjagab.P
