/- Leases: Grant, the program's way and the document's. -/
import Derived.Test.YtpecgkkhjkfmmaaLsRow
import Derived.Deep.AppendLies
namespace Go.Proofs.Ytpecgkkhjkfmmaa.P
open Go.RowKit Go.Sort
set_option maxHeartbeats 2000000
set_option linter.unusedVariables false
set_option linter.unusedSimpArgs false
set_option maxRecDepth 100000

theorem grant_bad {s : Ls} {ttl now : Int} (h : (ttlB ttl && atB now) = false) : grantS s ttl now = s ∧ grantI s ttl now = 0 ∧ grantE s ttl now = 1 := by
  have h1 : grantE s ttl now = 1 := by unfold grantE; rw [h]; rfl
  exact ⟨(grant_same (by rw [h1]; decide)).1, (grant_same (by rw [h1]; decide)).2, h1⟩
theorem grant_full {s : Ls} {ttl now : Int} (h : (ttlB ttl && atB now) = true) (hf : 8 ≤ s.l.length ∨ 1099511627775 ≤ s.next) : grantS s ttl now = s ∧ grantI s ttl now = 0 ∧ grantE s ttl now = 4 := by
  have h1 : grantE s ttl now = 4 := by unfold grantE; rw [if_pos h, if_pos hf]
  exact ⟨(grant_same (by rw [h1]; decide)).1, (grant_same (by rw [h1]; decide)).2, h1⟩
theorem grant_ok {s : Ls} {ttl now : Int} (h : (ttlB ttl && atB now) = true) (h8 : s.l.length < 8) (hn : s.next < 1099511627775) : grantS s ttl now = ⟨s.next + 1, s.l ++ [⟨s.next + 1, ttl, now + ttl⟩]⟩ ∧ grantI s ttl now = s.next + 1 ∧ grantE s ttl now = 0 := by
  have h1 : grantE s ttl now = 0 := by unfold grantE; rw [if_pos h, if_neg (by omega)]
  exact ⟨(grant_is h1).1, (grant_is h1).2, h1⟩
theorem own_moreL {w : World} {base : Nat} {v : Value} {l : List Le} {x : Le} (h : w.ownsRow base 119 3 v (l.length + 1) (flatC Le.cells l ++ flatC Le.cells [x])) : w.ownsRow base 119 3 v (l ++ [x]).length (flatC Le.cells (l ++ [x])) := by
  rw [flat_app, List.length_append]; exact h

theorem keepS_set {w : World} {g : Nat} {u v : Value} (h : w.cell? ⟨g, 0, none⟩ = some u ∧ (w.cell? ⟨g, 1, none⟩).isSome = true ∧ w.frozen? ⟨g, 1, none⟩ = false) :
    (w.setCell ⟨g, 1, none⟩ v).cell? ⟨g, 0, none⟩ = some u ∧ ((w.setCell ⟨g, 1, none⟩ v).cell? ⟨g, 1, none⟩).isSome = true ∧ (w.setCell ⟨g, 1, none⟩ v).frozen? ⟨g, 1, none⟩ = false := by
  obtain ⟨a, b, c⟩ := h
  refine ⟨?_, ?_, ?_⟩
  · exact (World.cell?_setCell_other _ ⟨g, 1, none⟩ ⟨g, 0, none⟩ _ (by intro h; injection h with _ h; cases h)).trans a
  · obtain ⟨x, hx⟩ := Option.isSome_iff_exists.1 b
    rw [World.cell?_setCell_same _ _ _ hx]; rfl
  · rw [World.frozen?_setCell]; exact c
theorem keepS_alloc {w : World} {g : Nat} {u : Value} {o : Obj} (h : w.cell? ⟨g, 0, none⟩ = some u ∧ (w.cell? ⟨g, 1, none⟩).isSome = true ∧ w.frozen? ⟨g, 1, none⟩ = false) :
    (w.alloc o).cell? ⟨g, 0, none⟩ = some u ∧ ((w.alloc o).cell? ⟨g, 1, none⟩).isSome = true ∧ (w.alloc o).frozen? ⟨g, 1, none⟩ = false := by
  have hlt := World.block_lt_of_cell? w _ h.1
  have hb := new1 w o
  refine ⟨(hb.cell (p := ⟨g, 0, none⟩) hlt).trans h.1, ?_, (hb.frozen (p := ⟨g, 1, none⟩) hlt).trans h.2.2⟩
  rw [hb.cell (p := ⟨g, 1, none⟩) hlt]; exact h.2.1
/-- What lay there ahead of a row that the call made, is as it was behind what was appended to that row. -/
theorem Own.past {w1 w2 w3 : World} {g : Nat} {t : TypeId} {cs : Array Value} {o : Obj} {A2 : Option Addr} {n2 c2 : Nat} {xs : List Value} (h : Own w2 g t cs) (hb : Below w1.heap.size w1 w2) (ho : w2.ownsRow w1.heap.size 119 3 (.slice A2 n2 c2) n2 xs) (hg : (w2.alloc o).grownBy w3 (Value.slice A2 n2 c2).ownBlock) (hlt : g < w1.heap.size) : Own w3 g t cs :=
  (h.alloc o).kept hg (fun e => by have := (ho.lt g e.symm).1; omega)
theorem grant_row {w1 w2 w3 : World} {A2 : Option Addr} {c2 : Nat} {l : List Le} {x : Le} {g cap : Nat} (hb : Below w1.heap.size w1 w2) (ho : ownL w2 w1.heap.size A2 l.length c2 l)
    (hown : ownL w3 w1.heap.size (some ⟨g, 0, none⟩) (l.length + 1) cap (l ++ [x])) (hg : (w2.alloc (x.obj 119)).grownBy w3 (Value.slice A2 l.length c2).ownBlock) :
    ownL w3 w1.heap.size (some ⟨g, 0, none⟩) (l.length + 1) cap (l ++ [x]) ∧ Below w1.heap.size w1 w3 := by
  exact ⟨hown, (hb.alloc hb.size _).grown hg (by have := hb.size; simp; omega) (fun k hk => (ho.lt k hk).1)⟩
theorem step_append_le {ops : Array Oper} {o : Oper} {a : Act} {w : World} {K : Act → World → Prop} {Q : Exit → Act → World → Prop} {E : Prop} (hgd : o.guard = none) (s y : Operand)
    (ho : o.op = .call { callee := .builtin .append, args := #[s, y], argTypes := #[71, 71] }) (base : Nat) (A : Option Addr) (n c : Nat) (l : List Le) (hs : a.eval s = .slice A n c) (hown : ownL w base A n c l)
    (B : Nat) (x : Le) (hy : a.eval y = .slice (some ⟨B, 0, none⟩) 1 1) (hB : w.heap[B]? = some (x.obj 119)) (hn : n ≤ 1000000) (hbase : base ≤ w.heap.size)
    (hK : ∀ g cap w', ownL w' base (some ⟨g, 0, none⟩) (n + 1) cap (l ++ [x]) → w.grownBy w' (Value.slice A n c).ownBlock → K (a.put o.dst (.slice (some ⟨g, 0, none⟩) (n + 1) cap)) w') :
    if Region.wanted o (yielded ops a.tmps) = true then Oper.wp Try.prog o a w K Q else E := by
  obtain ⟨i0, hi0, hz0, hz1, hz2⟩ := info_parts le_info
  refine step_append_lies w hgd s y 71 ho base 119 i0 zeroLeA 3 24 Try.underlying71 hi0 hz0 hz1 hz2 rfl (by omega) _ n (flatC Le.cells l) hs hown _ 1 1 (flatC Le.cells [x]) hy rfl (news_at le_len hB rfl) (fun u hu => flat_mem le_one hu) (by omega) (by simp only [maxLen]; omega) (by omega) hbase _ rfl ?_
  intro g cap w' h1 h2 _ _
  refine hK g cap w' ?_ h2
  show w'.ownsRow _ _ _ _ _ _
  rw [flat_app]; exact h1
theorem grant_any (s : Ls) (A : Option Addr) (n c : Nat) (ttl now : Int) (w : World) (h : LsAt w s A n c) (hl : s.l.length ≤ 1000) :
    Calls Try.prog 42 #[s.agg A n c, .int .i64 ttl, .int .i64 now] w (LsEnd3 (grantS s ttl now) (grantI s ttl now) (grantE s ttl now) w) := by
  have hb0 := then_ (new1 w (.cells (lsCells s A n c) 73)) (new1 _ (.cells zLs 73))
  have HH := Lib.hid h
  have H0 := Lib.hid (h.keep hb0)
  have B0 := Lib.hid hb0
  have O0 := Lib.hid ((own_new w (lsCells s A n c) 73).alloc (.cells zLs 73))
  have R0 := Lib.hid (own_new2 w (.cells (lsCells s A n c) 73) zLs 73)
  have hlen := h.row.row.len
  have hmax := Nat.le_trans h.row.row.le h.row.row.max
  unfold maxLen at hmax
  obtain ⟨hn1, hn2⟩ := h.next
  clear h hb0
  cases ht : ttlB ttl with
  | false =>
    have E := Lib.hid (grant_bad (s := s) (ttl := ttl) (now := now) (by rw [ht]; rfl))
    have HT := Lib.hid ht; clear ht
    go_enter Try.func42, Try.ntmps42
    go_wp2_with fail
    refine (ttl_any ttl _).mono ?_; rintro e w1 ⟨rfl, hw1⟩
    have B1 : Hid (Below w.heap.size w w1) := Lib.hid (by rw [← hw1]; exact B0.out)
    have O1 : Hid (Own w1 w.heap.size 73 (lsCells s A n c)) := Lib.hid (by rw [← hw1]; exact O0.out)
    have R1 : Hid (Own w1 (w.heap.size + 1) 73 zLs) := Lib.hid (by rw [← hw1]; exact R0.out)
    have q0 := O1.out.cell 0 _ rfl
    have q1 := O1.out.cell 1 _ rfl
    have f := R1.out.frozen
    have f1 := O1.out.frozen
    have o0 := R1.out.cell 0 _ rfl
    have o1 := R1.out.cell 1 _ rfl
    clear hw1
    rw [HT.out]
    go_wp2
    refine bodyPost_ret (v := .tuple #[s.agg A n c, .int .i64 0, .int .i64 1]) (by simp [results, Try.results42, go_sem, o0, o1]) rfl (LsEnd3.mk E.out.1 E.out.2.1 E.out.2.2 rfl (HH.out.keep (below_set2 B1.out (Nat.le_succ _) _ _)) (below_set2 B1.out (Nat.le_succ _) _ _))
  | true =>
    cases ha : atB now with
    | false =>
      have E := Lib.hid (grant_bad (s := s) (ttl := ttl) (now := now) (by rw [ht, ha]; rfl))
      have HT := Lib.hid ht; clear ht
      have HA := Lib.hid ha; clear ha
      go_enter Try.func42, Try.ntmps42
      go_wp2_with fail
      refine (ttl_any ttl _).mono ?_; rintro e w1 ⟨rfl, hw1⟩
      have B1 : Hid (Below w.heap.size w w1) := Lib.hid (by rw [← hw1]; exact B0.out)
      have O1 : Hid (Own w1 w.heap.size 73 (lsCells s A n c)) := Lib.hid (by rw [← hw1]; exact O0.out)
      have R1 : Hid (Own w1 (w.heap.size + 1) 73 zLs) := Lib.hid (by rw [← hw1]; exact R0.out)
      have q0 := O1.out.cell 0 _ rfl
      have q1 := O1.out.cell 1 _ rfl
      have f := R1.out.frozen
      have f1 := O1.out.frozen
      have o0 := R1.out.cell 0 _ rfl
      have o1 := R1.out.cell 1 _ rfl
      clear hw1
      rw [HT.out]
      go_wp2_with fail
      refine (tmay_any now _).mono ?_; rintro e w' ⟨rfl, rfl⟩
      rw [HA.out]
      go_wp2
      refine bodyPost_ret (v := .tuple #[s.agg A n c, .int .i64 0, .int .i64 1]) (by simp [results, Try.results42, go_sem, o0, o1]) rfl (LsEnd3.mk E.out.1 E.out.2.1 E.out.2.2 rfl (HH.out.keep (below_set2 B1.out (Nat.le_succ _) _ _)) (below_set2 B1.out (Nat.le_succ _) _ _))
    | true =>
      have hta : (ttlB ttl && atB now) = true := by rw [ht, ha]; rfl
      have ht' := ttlB_iff.1 ht
      have ha' := atB_iff.1 ha
      have HT := Lib.hid ht; clear ht
      have HA := Lib.hid ha; clear ha
      by_cases h8 : 8 ≤ n
      · have E := Lib.hid (grant_full (s := s) hta (.inl (by omega)))
        clear hta
        go_enter Try.func42, Try.ntmps42
        go_wp2_with fail
        refine (ttl_any ttl _).mono ?_; rintro e w1 ⟨rfl, hw1⟩
        have B1 : Hid (Below w.heap.size w w1) := Lib.hid (by rw [← hw1]; exact B0.out)
        have O1 : Hid (Own w1 w.heap.size 73 (lsCells s A n c)) := Lib.hid (by rw [← hw1]; exact O0.out)
        have R1 : Hid (Own w1 (w.heap.size + 1) 73 zLs) := Lib.hid (by rw [← hw1]; exact R0.out)
        have q0 := O1.out.cell 0 _ rfl
        have q1 := O1.out.cell 1 _ rfl
        have f := R1.out.frozen
        have f1 := O1.out.frozen
        have o0 := R1.out.cell 0 _ rfl
        have o1 := R1.out.cell 1 _ rfl
        clear hw1
        rw [HT.out]
        go_wp2_with fail
        refine (tmay_any now _).mono ?_; rintro e w' ⟨rfl, rfl⟩
        rw [HA.out]
        go_wp2
        refine bodyPost_ret (v := .tuple #[s.agg A n c, .int .i64 0, .int .i64 4]) (by simp [results, Try.results42, go_sem, o0, o1]) rfl (LsEnd3.mk E.out.1 E.out.2.1 E.out.2.2 rfl (HH.out.keep (below_set2 B1.out (Nat.le_succ _) _ _)) (below_set2 B1.out (Nat.le_succ _) _ _))
      · by_cases hnx : 1099511627775 ≤ s.next
        · have E := Lib.hid (grant_full (s := s) hta (.inr hnx))
          clear hta
          go_enter Try.func42, Try.ntmps42
          go_wp2_with fail
          refine (ttl_any ttl _).mono ?_; rintro e w1 ⟨rfl, hw1⟩
          have B1 : Hid (Below w.heap.size w w1) := Lib.hid (by rw [← hw1]; exact B0.out)
          have O1 : Hid (Own w1 w.heap.size 73 (lsCells s A n c)) := Lib.hid (by rw [← hw1]; exact O0.out)
          have R1 : Hid (Own w1 (w.heap.size + 1) 73 zLs) := Lib.hid (by rw [← hw1]; exact R0.out)
          have q0 := O1.out.cell 0 _ rfl
          have q1 := O1.out.cell 1 _ rfl
          have f := R1.out.frozen
          have f1 := O1.out.frozen
          have o0 := R1.out.cell 0 _ rfl
          have o1 := R1.out.cell 1 _ rfl
          clear hw1
          rw [HT.out]
          go_wp2_with fail
          refine (tmay_any now _).mono ?_; rintro e w' ⟨rfl, rfl⟩
          rw [HA.out]
          go_wp2
          refine bodyPost_ret (v := .tuple #[s.agg A n c, .int .i64 0, .int .i64 4]) (by simp [results, Try.results42, go_sem, o0, o1]) rfl (LsEnd3.mk E.out.1 E.out.2.1 E.out.2.2 rfl (HH.out.keep (below_set2 B1.out (Nat.le_succ _) _ _)) (below_set2 B1.out (Nat.le_succ _) _ _))
        · have E := Lib.hid (grant_ok (s := s) hta (by omega) (by omega))
          have OKX : Hid (Le.ok ⟨s.next + 1, ttl, now + ttl⟩) := Lib.hid ⟨⟨by show _ ≤ s.next + 1; omega, by show s.next + 1 ≤ _; omega⟩, ⟨by show _ ≤ ttl; omega, by show ttl ≤ _; omega⟩, ⟨by show _ ≤ now + ttl; omega, by show now + ttl ≤ _; omega⟩⟩
          have HN : Hid (inI (s.next + 1)) := Lib.hid ⟨by omega, by omega⟩
          have HLEN := Lib.hid hlen
          have HN2 : Hid (inI (now + ttl)) := Lib.hid ⟨by omega, by omega⟩
          have cB := lbehind_any now ttl
          obtain ⟨i0, hi0, hz0, hz1, hz2⟩ := info_parts le_info
          clear hta hlen hl
          go_enter Try.func42, Try.ntmps42
          go_wp2_with fail
          refine (ttl_any ttl _).mono ?_; rintro e w1 ⟨rfl, hw1⟩
          have B1 : Hid (Below w.heap.size w w1) := Lib.hid (by rw [← hw1]; exact B0.out)
          have O1 : Hid (Own w1 w.heap.size 73 (lsCells s A n c)) := Lib.hid (by rw [← hw1]; exact O0.out)
          have R1 : Hid (Own w1 (w.heap.size + 1) 73 zLs) := Lib.hid (by rw [← hw1]; exact R0.out)
          have q0 := O1.out.cell 0 _ rfl
          have q1 := O1.out.cell 1 _ rfl
          have f := R1.out.frozen
          have f1 := O1.out.frozen
          have o0 := R1.out.cell 0 _ rfl
          have o1 := R1.out.cell 1 _ rfl
          clear hw1
          rw [HT.out]
          go_wp2_with fail
          refine (tmay_any now _).mono ?_; rintro e w' ⟨rfl, rfl⟩
          rw [HA.out]
          -- the world in which the row is made
          obtain ⟨W, hW⟩ : ∃ W, W = w1.setCell ⟨w.heap.size, 0, none⟩ (.int .i64 (s.next + 1)) := ⟨_, rfl⟩
          have OW : Hid (Own W w.heap.size 73 #[.int .i64 (s.next + 1), .slice A n c]) := Lib.hid (by rw [hW]; exact O1.out.set 0 _)
          have RW : Hid (Own W (w.heap.size + 1) 73 zLs) := Lib.hid (by rw [hW]; exact R1.out.other _ _ _ (by omega))
          have BW : Hid (Below w.heap.size w W) := Lib.hid (by rw [hW]; exact B1.out.setCell (p := ⟨w.heap.size, 0, none⟩) (Nat.le_refl _) _)
          have HWK : Hid (Les W A n c s.l) := Lib.hid (HH.out.row.keep BW.out)
          have hWs : w.heap.size + 2 ≤ W.heap.size := by rw [hW]; have := R1.out.lt; simp [World.setCell]; omega
          have HW := Lib.hid hW
          go_wp2_with fail
          rw [← HW.out]
          clear HW hW
          have e0 : W.cell? ⟨w.heap.size, 0, none⟩ = some (.int .i64 (s.next + 1)) := OW.out.cell 0 _ rfl
          have e1 : W.cell? ⟨w.heap.size, 1, none⟩ = some (.slice A n c) := OW.out.cell 1 _ rfl
          have e0d : W.drew.cell? ⟨w.heap.size, 0, none⟩ = some (.int .i64 (s.next + 1)) := e0
          have e1d : W.drew.cell? ⟨w.heap.size, 1, none⟩ = some (.slice A n c) := e1
          have g0 := OW.out.frozen
          have hWlt := OW.out.lt
          go_region_law (first
            | (refine step_call1 rfl 72 (.tmp 35) 71 rfl (.slice A n c) (by simp [Act.eval, Act.put]) (clone_le A n c s.l _ (HWK.out.keep (new_drew _)) (by omega)) (enters Try.func72 (by kernel_rfl) rfl _) ?_; rintro e w2 ⟨A2, c2, rfl, hown, hb⟩; refine ⟨_, rfl, ?_⟩; have B2 : Hid (Below W.heap.size W w2) := Lib.hid ((new_drew _).trans hb); have HO2 := Lib.hid hown; have OW2 := Lib.hid (OW.out.below B2.out); have RW2 := Lib.hid (RW.out.below B2.out); have e20 := OW2.out.cell 0 _ rfl; have e21 := OW2.out.cell 1 _ rfl; have g20 := OW2.out.frozen; have g2a : ∀ (o : Obj), (w2.alloc o).frozen? ⟨w.heap.size, 1, none⟩ = false := fun o => (OW2.out.alloc o).frozen 1; clear hown hb)
            | (refine step_call2 rfl 73 (.tmp 40) (.tmp 41) 116 3 rfl (.int .i64 now) (.int .i64 ttl) (by simp [Act.eval, Act.put]) (by simp [Act.eval, Act.put]) (cB _ HN2.out) (enters Try.func73 (by kernel_rfl) rfl _) ?_; rintro e w' ⟨rfl, rfl⟩; refine ⟨_, rfl, ?_⟩)
            | (refine step_append_le rfl (.tmp 36) (.tmp 44) rfl W.heap.size A2 s.l.length c2 s.l (by simp [Act.eval, Act.put]) (HO2.out.alloc _) w2.heap.size ⟨s.next + 1, ttl, now + ttl⟩ (by simp [Act.eval, Act.put]) (heap_alloc_new w2 _) (by rw [HLEN.out]; omega) (by have := B2.out.size; simp; omega) ?_; intro g3 c3 w3 hown hg; have X3 := Lib.hid (grant_row B2.out HO2.out hown hg); have OW3 := Lib.hid (OW2.out.past B2.out HO2.out hg hWlt); have RW3 := Lib.hid (RW2.out.past B2.out HO2.out hg RW.out.lt); have e30 := OW3.out.cell 0 _ rfl; have e31 := OW3.out.cell 1 _ rfl; have g30 := OW3.out.frozen; have g3a := fun (v : Value) => (OW3.out.set 1 v).cell 0 _ rfl; have g3b := fun (v : Value) => (OW3.out.set 1 v).cell 1 _ rfl; have g3c := fun (v : Value) => (OW3.out.set 1 v).frozen 1; clear hown hg))
          all_goals
            obtain ⟨W4, hW4⟩ : ∃ W4, W4 = w3.setCell ⟨w.heap.size, 1, none⟩ (.slice (some ⟨g3, 0, none⟩) (s.l.length + 1) c3) := ⟨_, rfl⟩
            rw [← hW4]
            have OW4 : Hid (Own W4 w.heap.size 73 #[.int .i64 (s.next + 1), .slice (some ⟨g3, 0, none⟩) (s.l.length + 1) c3]) := Lib.hid (by rw [hW4]; exact OW3.out.set 1 _)
            have RW4 : Hid (Own W4 (w.heap.size + 1) 73 zLs) := Lib.hid (by rw [hW4]; exact RW3.out.other _ _ _ (by omega))
            have BW4 : Hid (Below w.heap.size w W4) := Lib.hid (by rw [hW4]; exact (BW.out.trans (X3.out.2.mono (by omega))).setCell (p := ⟨w.heap.size, 1, none⟩) (Nat.le_refl _) _)
            have HL4 : Hid (Les W4 (some ⟨g3, 0, none⟩) (s.l.length + 1) c3 (s.l ++ [⟨s.next + 1, ttl, now + ttl⟩])) := Lib.hid (by
              rw [hW4]
              have h1 := own_les X3.out.1 (fun x hx => by rcases List.mem_append.1 hx with hx | hx; exact HH.out.row.ok x hx; simp at hx; subst hx; exact OKX.out)
              exact h1.other _ _ _ (fun a ha => by have := own_freshL X3.out.1 a ha; omega))
            have HF4 : Hid (∀ a, some (⟨g3, 0, none⟩ : Addr) = some a → a.block ≠ w.heap.size + 1) := Lib.hid (fun a ha => by have := own_freshL X3.out.1 a ha; omega)
            clear hW4 e30 e31 g30 g3a g3b g3c e20 e21 g20 g2a e0 e1 g0 e0d e1d q0 q1 f f1 o0 o1
            have e0 := OW4.out.cell 0 _ rfl
            have e1 := OW4.out.cell 1 _ rfl
            have o0 := RW4.out.cell 0 _ rfl
            have o1 := RW4.out.cell 1 _ rfl
            have f := RW4.out.frozen
            go_wp2
            go_region
            go_wp2
            refine bodyPost_ret (v := .tuple #[(Ls.mk (s.next + 1) (s.l ++ [⟨s.next + 1, ttl, now + ttl⟩])).agg (some ⟨g3, 0, none⟩) (s.l.length + 1) c3, .int .i64 (s.next + 1), .int .i64 0]) (by simp [results, Try.results42, go_sem, o0, o1]) rfl (LsEnd3.mk E.out.1 E.out.2.1 E.out.2.2 rfl ?_ ?_)
            · exact ⟨(((HL4.out.other _ _ _ HF4.out).other _ _ _ HF4.out).keep (new_drew _)), HN.out⟩
            · exact ((BW4.out.setCell (p := ⟨w.heap.size + 1, 0, none⟩) (Nat.le_succ _) _).setCell (p := ⟨w.heap.size + 1, 1, none⟩) (Nat.le_succ _) _).drew
end Go.Proofs.Ytpecgkkhjkfmmaa.P
