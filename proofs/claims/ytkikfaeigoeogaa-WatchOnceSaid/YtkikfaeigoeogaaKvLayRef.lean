/- A thing is laid into a list: the document's way. -/
import Derived.Test.YtkikfaeigoeogaaKvLay
namespace Go.Proofs.Ytkikfaeigoeogaa.P
open Go.RowKit Go.Sort
set_option maxHeartbeats 400000
set_option linter.unusedVariables false
set_option maxRecDepth 100000

/-- Nothing behind a row: what nil is as a source. -/
theorem append_nil_src {P : Program} (w : World) (t ty e : TypeId) (i : TypeInfo) (ht : P.underlying t = some (.slice e)) (hi : P.info? e = some i) (a : Addr) (n c c' : Nat) (hn : n ≤ c) :
    (Builtin.append_ #[t, t] ty #[.slice (some a) n c, .slice none 0 c']).run P w = .ok (.slice (some a) n c) w := by
  simp [Builtin.append_, run_underlying ht, sizeOf, typeInfo, hi, Builtin.lenOf, Builtin.firstCells, hn, storeCells]

/-- Where the first thing stands that is not below x. -/
theorem lt_place (l : List KV) (x : KV) : ∃ j, j ≤ l.length ∧ ltTo x l j ∧ ∀ y, l[j]? = some y → tlt y.key x.key = false := by
  induction l with
  | nil => exact ⟨0, Nat.le_refl _, fun z hz => by simp at hz, fun y hy => by simp at hy⟩
  | cons z r ih =>
    cases h : tlt z.key x.key with
    | false => exact ⟨0, Nat.zero_le _, fun z hz => by simp at hz, fun y hy => by simp at hy; subst hy; exact h⟩
    | true =>
      obtain ⟨j, hj, h1, h2⟩ := ih
      refine ⟨j + 1, by simp; omega, fun y hy => ?_, fun y hy => h2 y (by simpa using hy)⟩
      rw [List.take_succ_cons] at hy
      rcases List.mem_cons.1 hy with rfl | hy
      · exact h
      · exact h1 y hy
theorem add_twice (a : Addr) (i j : Nat) : (a.add i).add j = a.add (i + j) := by
  unfold Addr.add
  by_cases hi : i = 0 <;> by_cases hj : j = 0 <;> simp [hi, hj, Nat.add_assoc]
theorem cells_from {w : World} {a : Addr} {n c : Nat} {l : List KV} (h : KVs w (some a) n c l) (i : Nat) (hi : i ≤ n) : ∀ j u, (cellsL (l.drop i))[j]? = some u → w.cell? ((a.add (i * 6)).add j) = some u := fun j u hu => by
  rw [add_twice]
  refine h.cells (i * 6 + j) u ?_
  obtain ⟨hsp, hl1, _⟩ := cells_split l i (by rw [h.len]; exact hi)
  rw [hsp, List.getElem?_append_right (by omega), hl1, show i * 6 + j - i * 6 = j by omega]
  exact hu
theorem cells_to {w : World} {a : Addr} {n c : Nat} {l : List KV} (h : KVs w (some a) n c l) (i : Nat) : ∀ j u, (cellsL (l.take i))[j]? = some u → w.cell? (a.add j) = some u := fun j u hu => by
  refine h.cells j u ?_
  have hsp : cellsL l = cellsL (l.take i) ++ cellsL (l.drop i) := by rw [← cellsL_app, List.take_append_drop]
  rw [hsp, List.getElem?_append_left (List.getElem?_eq_some_iff.1 hu).1]
  exact hu

/-- A thing in its box, while blocks from the next one on are made and written. -/
theorem boxed {w w1 : World} {x : KV} (hb : Below (w.heap.size + 1) (w.alloc (x.obj 36)) w1) :
    w1.cell? ⟨w.heap.size, 0, none⟩ = some (.string x.key) ∧ w1.cell? ⟨w.heap.size, 1, none⟩ = some (.string x.val) ∧ w1.cell? ⟨w.heap.size, 2, none⟩ = some (.int .i64 x.cre) ∧ w1.cell? ⟨w.heap.size, 3, none⟩ = some (.int .i64 x.mod) ∧
    w1.cell? ⟨w.heap.size, 4, none⟩ = some (.int .i64 x.ver) ∧ w1.cell? ⟨w.heap.size, 5, none⟩ = some (.int .i64 x.lea) := by
  have hxb : w1.heap[w.heap.size]? = some (x.obj 36) := (hb.block w.heap.size (by omega)).trans (heap_alloc_new w _)
  refine ⟨?_, ?_, ?_, ?_, ?_, ?_⟩ <;> rw [cell_of_row w1 w.heap.size _ _ _ _ hxb] <;> rfl
theorem out_first {w W w1 : World} {x : KV} {v1 : Value} {p : Nat} {l : List KV} (hW : Below (w.heap.size + 1) (w.alloc (x.obj 36)) W) (h1 : w1.ownsRow (w.heap.size + 1) 36 6 v1 (0 + p) ([] ++ cellsL l)) (hg : (W.alloc (.cells #[] 36)).grownBy w1 (some W.heap.size)) :
    ∃ A1 c1, v1 = .slice A1 p c1 ∧ w1.ownsRow (w.heap.size + 1) 36 6 (.slice A1 p c1) p (cellsL l) ∧ Below (w.heap.size + 1) (w.alloc (x.obj 36)) w1 := by
  rw [Nat.zero_add, List.nil_append] at h1
  obtain ⟨A1, c1, rfl⟩ := own_form h1
  have hz := hW.size
  simp at hz
  exact ⟨A1, c1, rfl, h1, (hW.alloc hz _).grown hg (by simp; omega) (fun k hk => by injection hk with hk; omega)⟩
theorem out_next {w W w1 : World} {x : KV} {v1 : Value} {A : Option Addr} {n c m : Nat} {l l2 : List KV} (hW : Below (w.heap.size + 1) (w.alloc (x.obj 36)) W) (hown : W.ownsRow (w.heap.size + 1) 36 6 (.slice A n c) n (cellsL l)) (o : Obj)
    (h1 : w1.ownsRow (w.heap.size + 1) 36 6 v1 (n + m) (cellsL l ++ cellsL l2)) (hg : (W.alloc o).grownBy w1 (Value.slice A n c).ownBlock) :
    ∃ A1 c1, v1 = .slice A1 (n + m) c1 ∧ w1.ownsRow (w.heap.size + 1) 36 6 (.slice A1 (n + m) c1) (n + m) (cellsL (l ++ l2)) ∧ Below (w.heap.size + 1) (w.alloc (x.obj 36)) w1 := by
  obtain ⟨A1, c1, rfl⟩ := own_form h1
  have hz := hW.size
  simp at hz
  exact ⟨A1, c1, rfl, by rw [cellsL_app]; exact h1, (hW.alloc hz _).grown hg (by simp; omega) (fun k hk => (hown.lt k hk).1)⟩
theorem out_more {w W w1 : World} {x : KV} {v1 : Value} {A : Option Addr} {n c m : Nat} {l l2 : List KV} (hW : Below (w.heap.size + 1) (w.alloc (x.obj 36)) W) (hown : W.ownsRow (w.heap.size + 1) 36 6 (.slice A n c) n (cellsL l))
    (h1 : w1.ownsRow (w.heap.size + 1) 36 6 v1 (n + m) (cellsL l ++ cellsL l2)) (hg : W.grownBy w1 (Value.slice A n c).ownBlock) :
    ∃ A1 c1, v1 = .slice A1 (n + m) c1 ∧ w1.ownsRow (w.heap.size + 1) 36 6 (.slice A1 (n + m) c1) (n + m) (cellsL (l ++ l2)) ∧ Below (w.heap.size + 1) (w.alloc (x.obj 36)) w1 := by
  obtain ⟨A1, c1, rfl⟩ := own_form h1
  have hz := hW.size
  simp at hz
  exact ⟨A1, c1, rfl, by rw [cellsL_app]; exact h1, hW.grown hg hz (fun k hk => (hown.lt k hk).1)⟩

theorem lay_ref_some (a : Addr) (n c : Nat) (l : List KV) (x : KV) (w : World) (h : KVs w (some a) n c l) (hxk : x.ok) (hn : n ≤ 1000000) :
    Calls Try.prog 34 #[.slice (some a) n c, x.agg] w (FreshKVs w (layL l x)) := by
  obtain ⟨i0, hi0, hz0, hz1, hz2⟩ := info_parts kv_info
  have H := Lib.hid h
  have HOK := Lib.hid h.ok
  have HL := Lib.hid h.len
  have HW0 := Lib.hid (((Below.refl w.heap.size w).alloc (Nat.le_refl _) (x.obj 36)))
  obtain ⟨p, hp, hlt, hnot⟩ := lt_place l x
  rw [HL.out] at hp
  have HLT := Lib.hid hlt
  have HNOT := Lib.hid hnot
  have hnc := h.le
  have hcm : c ≤ 9223372036854775807 := by have := h.max; unfold maxLen at this; omega
  have HTL : Hid ((cellsL (l.take p)).length = p * 6) := Lib.hid (by rw [cellsL_len, List.length_take, HL.out, Nat.min_eq_left hp])
  clear h hlt hnot
  go_enter Try.func34, Try.ntmps34
  go_wp2
  go_loopw [5] (fun i wr => ∃ j q : Nat, j ≤ p ∧ i = .int .i64 j ∧ wr = (w.alloc (x.obj 36)).drewN q) (fun i _ => p - (intOf i).toNat)
  case atStart => exact ⟨0, 0, Nat.zero_le _, rfl, rfl⟩
  case round =>
    obtain ⟨j, q, hj, rfl, rfl⟩ := hrel
    by_cases hjp : j < p
    · obtain ⟨a', y, ea, hbl, hy, hok, hc⟩ := (H.out.keep HW0.out).at_ (show j < n by omega)
      obtain rfl := Option.some.inj ea
      obtain ⟨c0, c1, c2, c3, c4, c5⟩ := hc
      have hl3 : Op.bytesLess y.key.toList x.key.toList = true := HLT.out y (List.mem_of_getElem? (i := j) (by rw [List.getElem?_take_of_lt hjp]; exact hy))
      have hjn : (j : Int) < n := by omega
      clear hok hy hbl ea c1 c2 c3 c4 c5
      go_wp2
      go_quiet (fail)
      go_wp2
      go_roundw
      case rel => exact ⟨j + 1, _, by omega, by go_num, rfl⟩
      case measure => simp [intOf]; omega
    · have e : j = p := by omega
      subst e
      by_cases hpn : j < n
      · obtain ⟨a', y, ea, hbl, hy, hok, hc⟩ := (H.out.keep HW0.out).at_ (show j < n by omega)
        obtain rfl := Option.some.inj ea
        obtain ⟨c0, c1, c2, c3, c4, c5⟩ := hc
        have hnl := HNOT.out y hy
        have hl3 : Op.bytesLess y.key.toList x.key.toList = false := hnl
        have hjn : (j : Int) < n := by omega
        clear hok hbl ea c1 c2 c3 c4 c5
        have HY := Lib.hid hy
        have HNL := Lib.hid hnl
        clear hy hnl
        cases he : teq y.key x.key with
        | true =>
          have he' : (y.key.toList == x.key.toList) = true := he
          have HLAY := Lib.hid (layL_hit HLT.out HY.out he)
          clear he
          go_wp2
          go_quiet (fail)
          have HWB : Hid (Below (w.heap.size + 1) (w.alloc (x.obj 36)) ((w.alloc (x.obj 36)).drewN (q + nq))) := Lib.hid (below_drewN (Below.refl _ _) _)
          have HK1 := Lib.hid (H.out.keep ((HW0.out.trans (HWB.out.mono (by omega))).alloc (by simp) (.cells #[] 36)))
          go_wp2_with (first | (at_builtin; refine wpList_append_own_at _ rfl (.tmp 23) (.tmp 26) 22 rfl (w.heap.size + 1) 36 i0 zeroAgg 6 64 Try.underlying22 hi0 hz0 hz1 hz2 rfl (by omega) (.slice (some ⟨w.heap.size + 1, 0, none⟩) 0 0) 0 [] rfl (by have := World.ownsRow_made (base := w.heap.size + 1) (e := 36) (size := 6) ((w.alloc (x.obj 36)).drewN (q + nq)) #[] 0 (by simp) (Nat.zero_le _) rfl; simpa using this) a j c (cellsL (l.take j)) rfl HTL.out (cells_to HK1.out j) (fun u hu => cellsL_one' hu) (by simp only [maxLen]; omega) (by omega) (by simp) ?_; intro v1 w1 hown1 hg1 hnil1 hat1; obtain ⟨A1, c1, rfl, ho1, hb1⟩ := out_first HWB.out hown1 (by simpa [Value.ownBlock] using hg1); have HO1 := Lib.hid ho1; have HB1 := Lib.hid hb1; clear ho1 hb1 hown1 hg1 hnil1 hat1; obtain ⟨y0, y1, y2, y3, y4, y5⟩ := boxed HB1.out) | (at_builtin; refine wpList_append_own_at _ rfl (.tmp 28) (.tmp 30) 22 rfl (w.heap.size + 1) 36 i0 zeroAgg 6 64 Try.underlying22 hi0 hz0 hz1 hz2 rfl (by omega) (.slice A1 j c1) j (cellsL (l.take j)) rfl (HO1.out.alloc _) ⟨w1.heap.size, 0, none⟩ 1 1 (cellsL [x]) rfl rfl (news_one (heap_alloc_new w1 _)) (fun u hu => cellsL_one' hu) (by simp only [maxLen]; omega) (by omega) (by have := HB1.out.size; simp at this; simp; omega) ?_; intro v2 w2 hown2 hg2 hnil2 hat2; obtain ⟨A2, c2, rfl, ho2, hb2⟩ := out_next HB1.out HO1.out (x.obj 36) hown2 hg2; have HO2 := Lib.hid ho2; have HB2 := Lib.hid hb2; clear ho2 hb2 hown2 hg2 hnil2 hat2 y0 y1 y2 y3 y4 y5; obtain ⟨y0, y1, y2, y3, y4, y5⟩ := boxed HB2.out))
          clear y1 y2 y3 y4 y5
          have HK2 := Lib.hid (H.out.keep (HW0.out.trans (HB2.out.mono (by omega))))
          obtain ⟨a'', y', ea', hbl', hy', hok', hc'⟩ := HK2.out.at_ hpn
          obtain rfl := Option.some.inj ea'
          obtain rfl := Option.some.inj (HY.out.symm.trans hy')
          have d0 := hc'.c0
          clear ea' hbl' hy' hok' hc'
          go_quiet (fail)
          skip
          obtain ⟨A0, hA0, hsrc⟩ : ∃ A0 : Addr, (if c = (j + 1) then some a else some (a.add ((j + 1) * 6))) = some A0 ∧ Hid (∀ t u, (cellsL (l.drop (j + 1)))[t]? = some u → w2.cell? (A0.add t) = some u) := by
            by_cases hc0 : c = (j + 1)
            · refine ⟨a, by rw [if_pos hc0], fun t u hu => ?_⟩
              rw [List.drop_of_length_le (by rw [HL.out]; omega)] at hu
              simp [cellsL] at hu
            · exact ⟨a.add ((j + 1) * 6), by rw [if_neg hc0], cells_from HK2.out (j + 1) (by omega)⟩
          have HDL : Hid ((cellsL (l.drop (j + 1))).length = (n - (j + 1)) * 6) := Lib.hid (by rw [cellsL_len, List.length_drop, HL.out])
          have hdc : (j + 1) ≤ c := by omega
          have hdn : (j + 1) ≤ n := by omega
          have hjt : ((j : Int) + 1).toNat = j + 1 := by omega
          have hj0 : (0 : Int) ≤ (j : Int) + 1 := by omega
          have hjn2 : (j : Int) + 1 ≤ n := by omega
          go_wp2_with (at_builtin; refine wpList_append_own_at _ rfl (.tmp 48) (.tmp 51) 22 rfl (w.heap.size + 1) 36 i0 zeroAgg 6 64 Try.underlying22 hi0 hz0 hz1 hz2 rfl (by omega) (.slice A2 (j + 1) c2) (j + 1) (cellsL (l.take j ++ [x])) rfl HO2.out A0 (n - (j + 1)) (c - (j + 1)) (cellsL (l.drop (j + 1))) rfl HDL.out hsrc.out (fun u hu => cellsL_one' hu) (by simp only [maxLen]; omega) (by omega) (by have := HB2.out.size; simp at this; simp; omega) ?_; intro v3 w3 hown3 hg3 hnil3 hat3; obtain ⟨A3, c3, rfl, ho3, hb3⟩ := out_more (W := w2.drewN nq) (below_drewN HB2.out _) HO2.out hown3 hg3; have HO3 := Lib.hid ho3; have HB3 := Lib.hid hb3; clear ho3 hb3 hown3 hg3 hnil3 hat3)
          have HO3' := HO3.out
          rw [show j + 1 + (n - (j + 1)) = n by omega] at HO3'
          go_ret
          refine ⟨A3, _, c3, rfl, ?_, HW0.out.trans (HB3.out.mono (by omega)), fun a ha => Nat.le_trans (Nat.le_succ _) (own_fresh HO3.out a ha)⟩
          have hres : l.take j ++ [x] ++ l.drop (j + 1) = layL l x := by rw [HLAY.out]; simp
          rw [hres] at HO3'
          exact own_kvs HO3' (fun y hy => by rcases layL_mem _ _ _ hy with rfl | hy; exact hxk; exact HOK.out y hy)
        | false =>
          have he' : (y.key.toList == x.key.toList) = false := he
          have HLAY := Lib.hid (layL_mid HLT.out HY.out (tlt_total HNL.out he))
          clear he
          go_wp2
          go_quiet (fail)
          have HWB : Hid (Below (w.heap.size + 1) (w.alloc (x.obj 36)) ((w.alloc (x.obj 36)).drewN (q + nq))) := Lib.hid (below_drewN (Below.refl _ _) _)
          have HK1 := Lib.hid (H.out.keep ((HW0.out.trans (HWB.out.mono (by omega))).alloc (by simp) (.cells #[] 36)))
          go_wp2_with (first | (at_builtin; refine wpList_append_own_at _ rfl (.tmp 23) (.tmp 26) 22 rfl (w.heap.size + 1) 36 i0 zeroAgg 6 64 Try.underlying22 hi0 hz0 hz1 hz2 rfl (by omega) (.slice (some ⟨w.heap.size + 1, 0, none⟩) 0 0) 0 [] rfl (by have := World.ownsRow_made (base := w.heap.size + 1) (e := 36) (size := 6) ((w.alloc (x.obj 36)).drewN (q + nq)) #[] 0 (by simp) (Nat.zero_le _) rfl; simpa using this) a j c (cellsL (l.take j)) rfl HTL.out (cells_to HK1.out j) (fun u hu => cellsL_one' hu) (by simp only [maxLen]; omega) (by omega) (by simp) ?_; intro v1 w1 hown1 hg1 hnil1 hat1; obtain ⟨A1, c1, rfl, ho1, hb1⟩ := out_first HWB.out hown1 (by simpa [Value.ownBlock] using hg1); have HO1 := Lib.hid ho1; have HB1 := Lib.hid hb1; clear ho1 hb1 hown1 hg1 hnil1 hat1; obtain ⟨y0, y1, y2, y3, y4, y5⟩ := boxed HB1.out) | (at_builtin; refine wpList_append_own_at _ rfl (.tmp 28) (.tmp 30) 22 rfl (w.heap.size + 1) 36 i0 zeroAgg 6 64 Try.underlying22 hi0 hz0 hz1 hz2 rfl (by omega) (.slice A1 j c1) j (cellsL (l.take j)) rfl (HO1.out.alloc _) ⟨w1.heap.size, 0, none⟩ 1 1 (cellsL [x]) rfl rfl (news_one (heap_alloc_new w1 _)) (fun u hu => cellsL_one' hu) (by simp only [maxLen]; omega) (by omega) (by have := HB1.out.size; simp at this; simp; omega) ?_; intro v2 w2 hown2 hg2 hnil2 hat2; obtain ⟨A2, c2, rfl, ho2, hb2⟩ := out_next HB1.out HO1.out (x.obj 36) hown2 hg2; have HO2 := Lib.hid ho2; have HB2 := Lib.hid hb2; clear ho2 hb2 hown2 hg2 hnil2 hat2 y0 y1 y2 y3 y4 y5; obtain ⟨y0, y1, y2, y3, y4, y5⟩ := boxed HB2.out))
          clear y1 y2 y3 y4 y5
          have HK2 := Lib.hid (H.out.keep (HW0.out.trans (HB2.out.mono (by omega))))
          obtain ⟨a'', y', ea', hbl', hy', hok', hc'⟩ := HK2.out.at_ hpn
          obtain rfl := Option.some.inj ea'
          obtain rfl := Option.some.inj (HY.out.symm.trans hy')
          have d0 := hc'.c0
          clear ea' hbl' hy' hok' hc'
          go_quiet (fail)
          skip
          have hcj : ¬ (c = j) := by omega
          have hsrc := Lib.hid (cells_from HK2.out j (by omega))
          have HDL : Hid ((cellsL (l.drop j)).length = (n - j) * 6) := Lib.hid (by rw [cellsL_len, List.length_drop, HL.out])
          have hdc : j ≤ c := by omega
          have hdn : j ≤ n := by omega
          have hjn2 : (j : Int) ≤ n := by omega
          go_wp2_with (at_builtin; refine wpList_append_own_at _ rfl (.tmp 48) (.tmp 51) 22 rfl (w.heap.size + 1) 36 i0 zeroAgg 6 64 Try.underlying22 hi0 hz0 hz1 hz2 rfl (by omega) (.slice A2 (j + 1) c2) (j + 1) (cellsL (l.take j ++ [x])) rfl HO2.out (a.add (j * 6)) (n - j) (c - j) (cellsL (l.drop j)) rfl HDL.out hsrc.out (fun u hu => cellsL_one' hu) (by simp only [maxLen]; omega) (by omega) (by have := HB2.out.size; simp at this; simp; omega) ?_; intro v3 w3 hown3 hg3 hnil3 hat3; obtain ⟨A3, c3, rfl, ho3, hb3⟩ := out_more (W := w2.drewN nq) (below_drewN HB2.out _) HO2.out hown3 hg3; have HO3 := Lib.hid ho3; have HB3 := Lib.hid hb3; clear ho3 hb3 hown3 hg3 hnil3 hat3)
          have HO3' := HO3.out
          go_ret
          refine ⟨A3, _, c3, rfl, ?_, HW0.out.trans (HB3.out.mono (by omega)), fun a ha => Nat.le_trans (Nat.le_succ _) (own_fresh HO3.out a ha)⟩
          have hres : l.take j ++ [x] ++ l.drop j = layL l x := by rw [HLAY.out]; simp
          rw [hres] at HO3'
          exact own_kvs HO3' (fun y hy => by rcases layL_mem _ _ _ hy with rfl | hy; exact hxk; exact HOK.out y hy)
      · have e : j = n := by omega
        subst e
        have HLAY := Lib.hid (layL_end HLT.out (by rw [HL.out]; omega))
        have hjn : decide ((j : Int) < j) = false := by simp
        go_wp2
        go_quiet (fail)
        have HWB : Hid (Below (w.heap.size + 1) (w.alloc (x.obj 36)) ((w.alloc (x.obj 36)).drewN (q + nq))) := Lib.hid (below_drewN (Below.refl _ _) _)
        have HK1 := Lib.hid (H.out.keep ((HW0.out.trans (HWB.out.mono (by omega))).alloc (by simp) (.cells #[] 36)))
        go_wp2_with (first | (at_builtin; refine wpList_append_own_at _ rfl (.tmp 23) (.tmp 26) 22 rfl (w.heap.size + 1) 36 i0 zeroAgg 6 64 Try.underlying22 hi0 hz0 hz1 hz2 rfl (by omega) (.slice (some ⟨w.heap.size + 1, 0, none⟩) 0 0) 0 [] rfl (by have := World.ownsRow_made (base := w.heap.size + 1) (e := 36) (size := 6) ((w.alloc (x.obj 36)).drewN (q + nq)) #[] 0 (by simp) (Nat.zero_le _) rfl; simpa using this) a j c (cellsL (l.take j)) rfl HTL.out (cells_to HK1.out j) (fun u hu => cellsL_one' hu) (by simp only [maxLen]; omega) (by omega) (by simp) ?_; intro v1 w1 hown1 hg1 hnil1 hat1; obtain ⟨A1, c1, rfl, ho1, hb1⟩ := out_first HWB.out hown1 (by simpa [Value.ownBlock] using hg1); have HO1 := Lib.hid ho1; have HB1 := Lib.hid hb1; clear ho1 hb1 hown1 hg1 hnil1 hat1; obtain ⟨y0, y1, y2, y3, y4, y5⟩ := boxed HB1.out) | (at_builtin; refine wpList_append_own_at _ rfl (.tmp 28) (.tmp 30) 22 rfl (w.heap.size + 1) 36 i0 zeroAgg 6 64 Try.underlying22 hi0 hz0 hz1 hz2 rfl (by omega) (.slice A1 j c1) j (cellsL (l.take j)) rfl (HO1.out.alloc _) ⟨w1.heap.size, 0, none⟩ 1 1 (cellsL [x]) rfl rfl (news_one (heap_alloc_new w1 _)) (fun u hu => cellsL_one' hu) (by simp only [maxLen]; omega) (by omega) (by have := HB1.out.size; simp at this; simp; omega) ?_; intro v2 w2 hown2 hg2 hnil2 hat2; obtain ⟨A2, c2, rfl, ho2, hb2⟩ := out_next HB1.out HO1.out (x.obj 36) hown2 hg2; have HO2 := Lib.hid ho2; have HB2 := Lib.hid hb2; clear ho2 hb2 hown2 hg2 hnil2 hat2 y0 y1 y2 y3 y4 y5; obtain ⟨y0, y1, y2, y3, y4, y5⟩ := boxed HB2.out))
        clear y1 y2 y3 y4 y5
        have HK2 := Lib.hid (H.out.keep (HW0.out.trans (HB2.out.mono (by omega))))
        go_quiet (fail)
        skip
        have hjn2 : (j : Int) ≤ j := by omega
        by_cases hc0 : c = j
        · subst hc0
          go_wp2_with (at_builtin; refine wpList_append_own_at _ rfl (.tmp 48) (.tmp 51) 22 rfl (w.heap.size + 1) 36 i0 zeroAgg 6 64 Try.underlying22 hi0 hz0 hz1 hz2 rfl (by omega) (.slice A2 (c + 1) c2) (c + 1) (cellsL (l.take c ++ [x])) rfl HO2.out a 0 0 (cellsL []) rfl rfl (fun t u hu => by simp [cellsL] at hu) (fun u hu => cellsL_one' hu) (by simp only [maxLen]; omega) (by omega) (by have := HB2.out.size; simp at this; simp; omega) ?_; intro v3 w3 hown3 hg3 hnil3 hat3; obtain ⟨A3, c3, rfl, ho3, hb3⟩ := out_more (W := w2.drewN nq) (below_drewN HB2.out _) HO2.out hown3 hg3; have HO3 := Lib.hid ho3; have HB3 := Lib.hid hb3; clear ho3 hb3 hown3 hg3 hnil3 hat3)
          have HO3' := HO3.out
          rw [Nat.add_zero] at HO3'
          go_ret
          refine ⟨A3, _, c3, rfl, ?_, HW0.out.trans (HB3.out.mono (by omega)), fun a ha => Nat.le_trans (Nat.le_succ _) (own_fresh HO3.out a ha)⟩
          have hres : l.take c ++ [x] ++ [] = layL l x := by rw [HLAY.out, List.drop_of_length_le (by rw [HL.out]; omega)]; simp
          rw [hres] at HO3'
          exact own_kvs HO3' (fun y hy => by rcases layL_mem _ _ _ hy with rfl | hy; exact hxk; exact HOK.out y hy)
        · have hlc : j ≤ c := hnc
          go_wp2_with (at_builtin; refine wpList_append_own_at _ rfl (.tmp 48) (.tmp 51) 22 rfl (w.heap.size + 1) 36 i0 zeroAgg 6 64 Try.underlying22 hi0 hz0 hz1 hz2 rfl (by omega) (.slice A2 (j + 1) c2) (j + 1) (cellsL (l.take j ++ [x])) rfl HO2.out (a.add (j * 6)) 0 (c - j) (cellsL []) rfl rfl (fun t u hu => by simp [cellsL] at hu) (fun u hu => cellsL_one' hu) (by simp only [maxLen]; omega) (by omega) (by have := HB2.out.size; simp at this; simp; omega) ?_; intro v3 w3 hown3 hg3 hnil3 hat3; obtain ⟨A3, c3, rfl, ho3, hb3⟩ := out_more (W := w2.drewN nq) (below_drewN HB2.out _) HO2.out hown3 hg3; have HO3 := Lib.hid ho3; have HB3 := Lib.hid hb3; clear ho3 hb3 hown3 hg3 hnil3 hat3)
          have HO3' := HO3.out
          rw [Nat.add_zero] at HO3'
          go_ret
          refine ⟨A3, _, c3, rfl, ?_, HW0.out.trans (HB3.out.mono (by omega)), fun a ha => Nat.le_trans (Nat.le_succ _) (own_fresh HO3.out a ha)⟩
          have hres : l.take j ++ [x] ++ [] = layL l x := by rw [HLAY.out, List.drop_of_length_le (by rw [HL.out]; omega)]; simp
          rw [hres] at HO3'
          exact own_kvs HO3' (fun y hy => by rcases layL_mem _ _ _ hy with rfl | hy; exact hxk; exact HOK.out y hy)

theorem lay_ref_none (x : KV) (w : World) (hxk : x.ok) :
    Calls Try.prog 34 #[.slice none 0 0, x.agg] w (FreshKVs w (layL [] x)) := by
  obtain ⟨i0, hi0, hz0, hz1, hz2⟩ := info_parts kv_info
  have HW0 := Lib.hid (((Below.refl w.heap.size w).alloc (Nat.le_refl _) (x.obj 36)))
  have hap := fun (w : World) (ty : TypeId) (a : Addr) (n c c' : Nat) (hn : n ≤ c) => append_nil_src (P := Try.prog) w 22 ty 36 i0 Try.underlying22 hi0 a n c c' hn
  have HAP := Lib.hid hap
  clear hap
  go_enter Try.func34, Try.ntmps34
  go_wp2
  go_loopw [5] (fun i wr => i = .int .i64 0 ∧ wr = w.alloc (x.obj 36)) (fun _ _ => 0)
  case atStart => exact ⟨rfl, rfl⟩
  case round =>
    obtain ⟨rfl, rfl⟩ := hrel
    have hd : decide ((0 : Int) < 0) = false := by simp
    have hap1 := fun (w : World) (ty : TypeId) (a : Addr) => HAP.out w ty a 0 0 0 (Nat.le_refl _)
    go_wp2
    go_quiet (fail)
    have HWB : Hid (Below (w.heap.size + 1) (w.alloc (x.obj 36)) (((w.alloc (x.obj 36)).drewN nq).alloc (.cells #[] 36))) := Lib.hid ((below_drewN (Below.refl _ _) _).alloc (by simp) _)
    have HOW : Hid ((((w.alloc (x.obj 36)).drewN nq).alloc (.cells #[] 36)).ownsRow (w.heap.size + 1) 36 6 (.slice (some ⟨w.heap.size + 1, 0, none⟩) 0 0) 0 (cellsL [])) := Lib.hid (by have := World.ownsRow_made (base := w.heap.size + 1) (e := 36) (size := 6) ((w.alloc (x.obj 36)).drewN nq) #[] 0 (by simp) (Nat.zero_le _) rfl; rw [show (((w.alloc (x.obj 36)).drewN nq).heap.size) = w.heap.size + 1 by simp] at this; exact this)
    have HNW : Hid (∀ j u, (cellsL [x])[j]? = some u → ((((w.alloc (x.obj 36)).drewN nq).alloc (.cells #[] 36)).alloc (x.obj 36)).cell? ((⟨w.heap.size + 1 + 1, 0, none⟩ : Addr).add j) = some u) := Lib.hid (news_one (by have := heap_alloc_new (((w.alloc (x.obj 36)).drewN nq).alloc (.cells #[] 36)) (x.obj 36); simpa using this))
    go_wp2_with (at_builtin; refine wpList_append_own_at _ rfl (.tmp 28) (.tmp 30) 22 rfl (w.heap.size + 1) 36 i0 zeroAgg 6 64 Try.underlying22 hi0 hz0 hz1 hz2 rfl (by omega) (.slice (some ⟨w.heap.size + 1, 0, none⟩) 0 0) 0 (cellsL []) rfl (HOW.out.alloc _) ⟨w.heap.size + 1 + 1, 0, none⟩ 1 1 (cellsL [x]) rfl rfl HNW.out (fun u hu => cellsL_one' hu) (by simp only [maxLen]; omega) (by omega) (by simp <;> omega) ?_; intro v2 w2 hown2 hg2 hnil2 hat2; obtain ⟨A2, c2, rfl, ho2, hb2⟩ := out_next HWB.out HOW.out (x.obj 36) hown2 hg2; have HO2 := Lib.hid ho2; have HB2 := Lib.hid hb2; clear ho2 hb2 hown2 hg2 hnil2 hat2; obtain ⟨y0, y1, y2, y3, y4, y5⟩ := boxed HB2.out)
    go_quiet (fail)
    obtain ⟨g2, hg2, hnc2⟩ : ∃ g, A2 = some ⟨g, 0, none⟩ ∧ 0 + 1 ≤ c2 := by
      rcases HO2.out.2 with ⟨h, h0⟩ | ⟨g, cap, cur, hv, _, _, h1, _⟩
      · omega
      · injection hv with e1 _ e3; subst e3; exact ⟨g, e1, h1⟩
    subst hg2
    have hap2 := fun (w : World) (ty : TypeId) => HAP.out w ty ⟨g2, 0, none⟩ (0 + 1) c2 0 hnc2
    go_wp2_with (at_builtin; refine wpList_append_eq _ rfl (.tmp 48) (.tmp 51) _ _ rfl _ _ rfl rfl (hap2 _ _) ?_)
    go_ret
    refine ⟨some ⟨g2, 0, none⟩, _, c2, rfl, ?_, HW0.out.trans ((below_drewN HB2.out _).mono (by omega)), fun a ha => Nat.le_trans (Nat.le_succ _) (own_fresh HO2.out a ha)⟩
    exact (own_kvs HO2.out (fun y hy => by simp at hy; subst hy; exact hxk)).keep (below_drewN (Below.refl _ _) _)
theorem lay_reff (A : Option Addr) (n c : Nat) (l : List KV) (x : KV) (w : World) (h : KVs w A n c l) (hxk : x.ok) (hn : n ≤ 1000000) :
    Calls Try.prog 34 #[.slice A n c, x.agg] w (FreshKVs w (layL l x)) := by
  rcases A with _ | a
  · have h0 := h.nil rfl
    subst h0
    have hn0 : n = 0 := by have := h.le; omega
    subst hn0
    have hl : l = [] := List.eq_nil_of_length_eq_zero h.len
    subst hl
    exact lay_ref_none x w hxk
  · exact lay_ref_some a n c l x w h hxk hn
theorem lay_ref (A : Option Addr) (n c : Nat) (l : List KV) (x : KV) (w : World) (h : KVs w A n c l) (hxk : x.ok) (hn : n ≤ 1000000) :
    Calls Try.prog 34 #[.slice A n c, x.agg] w (SomeKVs w (layL l x)) := (lay_reff A n c l x w h hxk hn).mono fun e w' h => h.some_
end Go.Proofs.Ytkikfaeigoeogaa.P
