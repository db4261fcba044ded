/- Leases: Keep, the program's way. -/
import Derived.Test.YtpecgkkhjkfmmaaLsGrant
import Derived.StillTailTactics
namespace Go.Proofs.Ytpecgkkhjkfmmaa.P
open Go.RowKit Go.Sort
set_option maxHeartbeats 1000000
set_option linter.unusedVariables false
set_option linter.unusedSimpArgs false
set_option maxRecDepth 100000

theorem flat_set {α : Type} {cells : α → List Value} {q : Nat} (hq : ∀ x, (cells x).length = q) : ∀ (l : List α) (i j : Nat) (x y : α) (v : Value), l[i]? = some x → j < q → cells y = (cells x).set j v → (flatC cells l).set (i * q + j) v = flatC cells (l.set i y)
  | [], _, _, _, _, _, h, _, _ => by simp at h
  | z :: r, 0, j, x, y, v, h, hj, hy => by
    simp at h; subst h
    show (cells z ++ flatC cells r).set (0 * q + j) v = cells y ++ flatC cells r
    rw [Nat.zero_mul, Nat.zero_add, List.set_append_left _ _ (by rw [hq]; exact hj), hy]
  | z :: r, i + 1, j, x, y, v, h, hj, hy => by
    show (cells z ++ flatC cells r).set ((i + 1) * q + j) v = cells z ++ flatC cells (r.set i y)
    rw [List.set_append_right _ _ (by rw [hq, Nat.succ_mul]; omega), hq, show (i + 1) * q + j - q = i * q + j by rw [Nat.succ_mul]; omega, flat_set hq r i j x y v (by simpa using h) hj hy]
theorem own_setL {w : World} {base g n cap i : Nat} {l : List Le} {x y : Le} {j : Nat} {v : Value} (h : ownL w base (some ⟨g, 0, none⟩) n cap l) (hx : l[i]? = some x) (hj : j < 3) (hy : y.cells = x.cells.set j v) :
    ownL (w.setCell ⟨g, i * 3 + j, none⟩ v) base (some ⟨g, 0, none⟩) n cap (l.set i y) ∧ Below base w (w.setCell ⟨g, i * 3 + j, none⟩ v) := by
  obtain ⟨cur, hbg, hrow, hnc, hcm, hcs, htake⟩ := own_rowL h
  have hlen := own_lenL h
  have hi : i < n := by rw [← hlen]; exact (List.getElem?_eq_some_iff.1 hx).1
  have hlt : i * 3 + j < n * 3 := by omega
  have hrow' : RowAt (w.setCell ⟨g, i * 3 + j, none⟩ v) g 119 (cur.setIfInBounds (i * 3 + j) v) := RowAt.setCells [v] w cur (i * 3 + j) hrow
  refine ⟨RowAt.own hrow' hbg hnc hcm (by simp [hcs]) ?_, (Below.refl _ _).setCell (p := ⟨g, i * 3 + j, none⟩) hbg _⟩
  rw [Array.toList_setIfInBounds, List.take_set, htake]
  exact flat_set le_len l i j x y v hx hj hy
theorem row_at3 {w : World} {base g n cap k : Nat} {l : List Le} {x : Le} (h : ownL w base (some ⟨g, 0, none⟩) n cap l) (hx : l[k]? = some x) : At3 w ⟨g, k * 3, none⟩ x ∧ ∀ i, w.frozen? ⟨g, i, none⟩ = false := by
  obtain ⟨cur, _, hrow, _, _, _, htake⟩ := own_rowL h
  have hlen := own_lenL h
  have hin : k < n := by rw [← hlen]; exact (List.getElem?_eq_some_iff.1 hx).1
  have key : ∀ j, j < 3 → w.cell? ⟨g, k * 3 + j, none⟩ = x.cells[j]? := fun j hj => by
    rw [hrow.cell, ← flat_at le_len l k j x hx hj, ← htake, List.getElem?_take_of_lt (by omega), Array.getElem?_toList]
  exact ⟨⟨key 0 (by omega), key 1 (by omega), key 2 (by omega)⟩, hrow.frozen⟩
theorem keep_bad {s : Ls} {id now : Int} (h : atB now = false) : keepS s id now = s ∧ keepT s id now = 0 ∧ keepE s id now = 1 := by
  unfold keepS keepT keepE; simp [h]
theorem keep_none {s : Ls} {id now : Int} (h : atB now = true) (hi : idxL s.l id = none) : keepS s id now = s ∧ keepT s id now = 0 ∧ keepE s id now = 6 := by
  unfold keepS keepT keepE; simp [h, hi]
theorem keep_some {s : Ls} {id now : Int} {i : Nat} {x : Le} (h : atB now = true) (hi : idxL s.l id = some i) (hx : s.l[i]? = some x) : keepS s id now = ⟨s.next, s.l.set i (later x now)⟩ ∧ keepT s id now = x.ttl ∧ keepE s id now = 0 := by
  unfold keepS keepT keepE; simp [h, hi, hx]
def smallT (s : Ls) : Prop := ∀ x ∈ s.l, -1125899906842624 ≤ x.ttl ∧ x.ttl ≤ 1125899906842624

theorem keep_fresh (s : Ls) (A : Option Addr) (n c : Nat) (id now : Int) (w : World) (h : LsAt w s A n c) (hl : s.l.length ≤ 1000) (hsm : smallT s) :
    Calls Try.prog 44 #[s.agg A n c, .int .i64 id, .int .i64 now] w (LsEnd3F A (keepS s id now) (keepT s id now) (keepE s id now) w) := by
  obtain rfl := h.row.row.len
  have hb0 := then_ (new1 w (.cells (lsCells s A s.l.length c) 73)) (new1 _ (.cells zLs 73))
  have HH := Lib.hid h
  have B0 := Lib.hid hb0
  have O0 := Lib.hid ((own_new w (lsCells s A s.l.length c) 73).alloc (.cells zLs 73))
  have R0 := Lib.hid (own_new2 w (.cells (lsCells s A s.l.length c) 73) zLs 73)
  have HSM := Lib.hid hsm
  have HNX := Lib.hid h.next
  clear h hb0 hsm
  have first : ∀ w1, ((w.alloc (.cells (lsCells s A s.l.length c) 73)).alloc (.cells zLs 73)) = w1 → Below w.heap.size w w1 ∧ Own w1 w.heap.size 73 (lsCells s A s.l.length c) ∧ Own w1 (w.heap.size + 1) 73 zLs := fun w1 e => by
    rw [← e]; exact ⟨B0.out, O0.out, R0.out⟩
  have FIRST := Lib.hid first
  clear first
  cases ha : atB now with
  | false =>
    have E := Lib.hid (keep_bad (s := s) (id := id) ha)
    have HA := Lib.hid ha; clear ha
    go_enter Try.func44, Try.ntmps44
    go_wp2_with fail
    refine (tmay_any now _).mono ?_; rintro e w1 ⟨rfl, hw1⟩
    rw [HA.out]
    obtain ⟨b1, p1, r1⟩ := FIRST.out _ hw1
    have B1 := Lib.hid b1
    have q0 := p1.cell 0 _ rfl
    have q1 := p1.cell 1 _ rfl
    have f := r1.frozen
    have o0 := r1.cell 0 _ rfl
    have o1 := r1.cell 1 _ rfl
    clear hw1 b1 p1 r1
    go_wp2
    refine bodyPost_ret (v := .tuple #[s.agg A s.l.length c, .int .i64 0, .int .i64 1]) (by simp [results, Try.results44, go_sem, o0, o1]) rfl (LsEnd3F.mk E.out.1 E.out.2.1 E.out.2.2 rfl (HH.out.keep (below_set2 B1.out (Nat.le_succ _) _ _)) (below_set2 B1.out (Nat.le_succ _) _ _) (fun a ha => .inr rfl))
  | true =>
    have ha' := atB_iff.1 ha
    cases hi : idxL s.l id with
    | none =>
      have E := Lib.hid (keep_none (s := s) (id := id) ha hi)
      have HP : Hid (placeL s.l id = -1) := Lib.hid (by unfold placeL; rw [hi])
      have HA := Lib.hid ha; clear ha hi
      go_enter Try.func44, Try.ntmps44
      go_wp2_with fail
      refine (tmay_any now _).mono ?_; rintro e w1 ⟨rfl, hw1⟩
      rw [HA.out]
      obtain ⟨b1, p1, r1⟩ := FIRST.out _ hw1
      have B1 := Lib.hid b1; have O1 := Lib.hid p1; have R1 := Lib.hid r1
      have q0 := p1.cell 0 _ rfl
      have q1 := p1.cell 1 _ rfl
      clear hw1 b1 p1 r1
      go_wp2_with fail
      refine (lfind_any A s.l.length c s.l id _ (HH.out.row.keep B1.out)).mono ?_; rintro e w2 ⟨rfl, hb⟩
      rw [HP.out]
      have B2 := Lib.hid (then_ B1.out hb)
      have O2 := Lib.hid (O1.out.below hb); have R2 := Lib.hid (R1.out.below hb)
      clear hb q0 q1
      have q0 := O2.out.cell 0 _ rfl
      have q1 := O2.out.cell 1 _ rfl
      have f := R2.out.frozen
      have o0 := R2.out.cell 0 _ rfl
      have o1 := R2.out.cell 1 _ rfl
      go_wp2
      refine bodyPost_ret (v := .tuple #[s.agg A s.l.length c, .int .i64 0, .int .i64 6]) (by simp [results, Try.results44, go_sem, o0, o1]) rfl (LsEnd3F.mk E.out.1 E.out.2.1 E.out.2.2 rfl (HH.out.keep (below_set2 B2.out (Nat.le_succ _) _ _)) (below_set2 B2.out (Nat.le_succ _) _ _) (fun a ha => .inr rfl))
    | some i =>
      obtain ⟨x, hx, hxi⟩ := idxL_some hi
      have E := Lib.hid (keep_some (s := s) (id := id) ha hi hx)
      have HP : Hid (placeL s.l id = (i : Int)) := Lib.hid (by unfold placeL; rw [hi])
      have hil : i < s.l.length := (List.getElem?_eq_some_iff.1 hx).1
      have HX := Lib.hid hx
      have HA := Lib.hid ha
      have hsx := HSM.out x (List.mem_of_getElem? hx)
      have hxok := HH.out.row.ok x (List.mem_of_getElem? hx)
      obtain ⟨⟨b1, b2⟩, ⟨b3, b4⟩, ⟨b5, b6⟩⟩ := hxok
      have HOKY : Hid (later x now).ok := Lib.hid ⟨⟨b1, b2⟩, ⟨b3, b4⟩, by show inI (if x.til < now + x.ttl then now + x.ttl else x.til); split; exact ⟨by omega, by omega⟩; exact ⟨b5, b6⟩⟩
      have cB := lbehind_any now x.ttl
      have HN2 : Hid (inI (now + x.ttl)) := Lib.hid ⟨by omega, by omega⟩
      clear ha hi hx hxi
      go_enter Try.func44, Try.ntmps44
      go_wp2_with fail
      refine (tmay_any now _).mono ?_; rintro e w1 ⟨rfl, hw1⟩
      rw [HA.out]
      obtain ⟨b1, p1, r1⟩ := FIRST.out _ hw1
      have B1 := Lib.hid b1; have O1 := Lib.hid p1; have R1 := Lib.hid r1
      have q0 := p1.cell 0 _ rfl
      have q1 := p1.cell 1 _ rfl
      clear hw1 b1 p1 r1
      go_wp2_with fail
      refine (lfind_any A s.l.length c s.l id _ (HH.out.row.keep B1.out)).mono ?_; rintro e w2 ⟨rfl, hb⟩
      rw [HP.out]
      have B2 := Lib.hid (then_ B1.out hb)
      have O2 := Lib.hid (O1.out.below hb); have R2 := Lib.hid (R1.out.below hb)
      clear hb q0 q1
      have q0 := O2.out.cell 0 _ rfl
      have q1 := O2.out.cell 1 _ rfl
      go_wp2_with fail
      refine (clone_le A s.l.length c s.l _ (HH.out.row.keep B2.out) (by omega)).mono ?_; rintro e w3 ⟨A3, c3, rfl, hown, hb⟩
      obtain ⟨g, rfl⟩ : ∃ g, A3 = some ⟨g, 0, none⟩ := by
        rcases hown.2 with ⟨h, h0⟩ | ⟨g, cap, cur, hv, _⟩
        · omega
        · injection hv with e1; exact ⟨g, e1⟩
      have HO3 := Lib.hid hown
      have B3 := Lib.hid (then_ B2.out hb)
      have O3 := Lib.hid (O2.out.below hb); have R3 := Lib.hid (R2.out.below hb)
      have hfr : Hid (w2.heap.size ≤ g) := Lib.hid (own_freshL hown _ rfl)
      have hl2 := O2.out.lt
      have hl3 := R2.out.lt
      have q30 := O3.out.cell 0 _ rfl
      have q31 := O3.out.cell 1 _ rfl
      have f30 := O3.out.frozen
      clear hb hown q0 q1
      go_wp2_with fail
      obtain ⟨W4, hW4⟩ : ∃ W4, W4 = w3.setCell ⟨w.heap.size, 1, none⟩ (.slice (some ⟨g, 0, none⟩) s.l.length c3) := ⟨_, rfl⟩
      rw [← hW4]
      have O4 : Hid (Own W4 w.heap.size 73 #[.int .i64 s.next, .slice (some ⟨g, 0, none⟩) s.l.length c3]) := Lib.hid (by rw [hW4]; exact O3.out.set 1 _)
      have R4 : Hid (Own W4 (w.heap.size + 1) 73 zLs) := Lib.hid (by rw [hW4]; exact R3.out.other _ _ _ (by omega))
      have B4 : Hid (Below w.heap.size w W4) := Lib.hid (by rw [hW4]; exact B3.out.setCell (p := ⟨w.heap.size, 1, none⟩) (Nat.le_refl _) _)
      have HO4 : Hid (ownL W4 w2.heap.size (some ⟨g, 0, none⟩) s.l.length c3 s.l) := Lib.hid (by rw [hW4]; exact HO3.out.kept (Lib.grownBy_setCell w3 _ 1 _) (.inr (by intro hh; simp [Value.ownBlock] at hh; have := hfr.out; omega)))
      clear hW4 q30 q31 f30
      obtain ⟨⟨x0, x1, x2⟩, xf⟩ := row_at3 HO4.out HX.out
      simp only at x1 x2
      have q40 : W4.cell? ⟨w.heap.size, 0, none⟩ = some (.int .i64 s.next) := O4.out.cell 0 _ rfl
      have q41 : W4.cell? ⟨w.heap.size, 1, none⟩ = some (.slice (some ⟨g, 0, none⟩) s.l.length c3) := O4.out.cell 1 _ rfl
      refine wp_region_still_tail 18 (by kernel_rfl) (by kernel_rfl) ?_
      simp only [List.take_succ_cons, List.take_zero, List.drop_succ_cons, List.drop_zero]
      repeat still_step
      still_call ((cB W4.drew HN2.out).mono fun e w'' h => ⟨h.1, h.2.symm⟩)
      repeat still_step
      refine wpStill_nil ?_
      change wpList _ _ _ _ _ W4.drew
      generalize hT : (if x.til < now + x.ttl then now + x.ttl else x.til) = T
      have hy2 : (later x now).cells = x.cells.set 2 (.int .i64 T) := by rw [← hT]; rfl
      clear hT
      generalize hW5 : W4.drew = W5
      have O5 : Hid (Own W5 w.heap.size 73 #[.int .i64 s.next, .slice (some ⟨g, 0, none⟩) s.l.length c3]) := Lib.hid (by rw [← hW5]; exact O4.out.below (new_drew _))
      have R5 : Hid (Own W5 (w.heap.size + 1) 73 zLs) := Lib.hid (by rw [← hW5]; exact R4.out.below (new_drew _))
      have B5 : Hid (Below w.heap.size w W5) := Lib.hid (by rw [← hW5]; exact B4.out.drew)
      have HO5 : Hid (ownL W5 w2.heap.size (some ⟨g, 0, none⟩) s.l.length c3 s.l) := Lib.hid (by rw [← hW5]; exact own_keepL HO4.out (new_drew _))
      clear hW5 x0 x1 x2 xf q40 q41
      have hne0 : w.heap.size ≠ g := by have := hfr.out; omega
      have hne1 : w.heap.size + 1 ≠ g := by have := hfr.out; omega
      have SET := Lib.hid (own_setL (y := later x now) (v := .int .i64 T) HO5.out HX.out (show 2 < 3 by omega) hy2)
      obtain ⟨⟨x0, x1, x2⟩, xf⟩ := row_at3 HO5.out HX.out
      simp only at x1 x2
      have q50 := O5.out.cell 0 _ rfl
      have q51 := O5.out.cell 1 _ rfl
      have O6 := Lib.hid (O5.out.other g (i * 3 + 2) (.int .i64 T) hne0)
      have R6 := Lib.hid (R5.out.other g (i * 3 + 2) (.int .i64 T) hne1)
      have B6 := Lib.hid (B5.out.setCell (p := ⟨g, i * 3 + 2, none⟩) (by have := hfr.out; show w.heap.size ≤ g; omega) (.int .i64 T))
      have hlat : (s.l.set i (later x now))[i]? = some (later x now) := by rw [List.getElem?_set_self hil]
      obtain ⟨⟨y0, y1, y2⟩, yf⟩ := row_at3 SET.out.1 hlat
      simp only at y1 y2
      have y1' : (W5.setCell ⟨g, i * 3 + 2, none⟩ (.int .i64 T)).cell? ⟨g, i * 3 + 1, none⟩ = some (.int .i64 x.ttl) := y1
      have q60 := O6.out.cell 0 _ rfl
      have q61 := O6.out.cell 1 _ rfl
      have o60 := R6.out.cell 0 _ rfl
      have o61 := R6.out.cell 1 _ rfl
      have f6 := R6.out.frozen
      have HL6 : Hid (Les (W5.setCell ⟨g, i * 3 + 2, none⟩ (.int .i64 T)) (some ⟨g, 0, none⟩) s.l.length c3 (s.l.set i (later x now))) := Lib.hid (own_les SET.out.1 (fun y hy => by
        rcases List.mem_or_eq_of_mem_set hy with hy | hy
        · exact HH.out.row.ok y hy
        · subst hy; exact HOKY.out))
      have HF6 : Hid (∀ a, some (⟨g, 0, none⟩ : Addr) = some a → a.block ≠ w.heap.size + 1) := Lib.hid (fun a ha => by injection ha with ha; subst ha; exact fun e => hne1 e.symm)
      clear y1 hlat
      go_wp2
      go_region
      go_wp2
      refine bodyPost_ret (v := .tuple #[(Ls.mk s.next (s.l.set i (later x now))).agg (some ⟨g, 0, none⟩) s.l.length c3, .int .i64 x.ttl, .int .i64 0]) (by simp [results, Try.results44, go_sem, o60, o61]) rfl (LsEnd3F.mk E.out.1 E.out.2.1 E.out.2.2 rfl ?_ ?_ (fun a ha => .inl (by injection ha with ha; subst ha; exact Nat.le_trans B2.out.size hfr.out)))
      · exact ⟨(((HL6.out.other _ _ _ HF6.out).other _ _ _ HF6.out).keep (new_drew _)), HNX.out⟩
      · exact ((B6.out.setCell (p := ⟨w.heap.size + 1, 0, none⟩) (Nat.le_succ _) _).setCell (p := ⟨w.heap.size + 1, 1, none⟩) (Nat.le_succ _) _).drew
theorem keep_any (s : Ls) (A : Option Addr) (n c : Nat) (id now : Int) (w : World) (h : LsAt w s A n c) (hl : s.l.length ≤ 1000) (hsm : smallT s) :
    Calls Try.prog 44 #[s.agg A n c, .int .i64 id, .int .i64 now] w (LsEnd3 (keepS s id now) (keepT s id now) (keepE s id now) w) := (keep_fresh s A n c id now w h hl hsm).mono fun e w' h => h.weak
end Go.Proofs.Ytpecgkkhjkfmmaa.P
