/- A list copied, and without a thing: hist's way, in its own row, and the document's. -/
import Derived.Test.YtkikfaeigoeogaaKvFind
import Derived.Test.YtkikfaeigoeogaaKvRow
import Derived.Deep.RegionLaw
import Derived.WalkSpells
import Derived.Lib.SliceRun
namespace Go.Proofs.Ytkikfaeigoeogaa.P
open Go.RowKit Go.Sort
set_option maxHeartbeats 400000
set_option linter.unusedVariables false
set_option maxRecDepth 100000

theorem kv_info : (Try.prog.info? 36).map (fun i => (i.zero, i.size, i.bytes)) = some (some zeroAgg, 6, 64) := by kernel_rfl

theorem KVs.cells {w : World} {a : Addr} {n c : Nat} {l : List KV} (h : KVs w (some a) n c l) : ∀ j u, (cellsL l)[j]? = some u → w.cell? (a.add j) = some u := by
  intro j u hu
  have hj : j < (cellsL l).length := (List.getElem?_eq_some_iff.1 hu).1
  rw [cellsL_len] at hj
  have hi : j / 6 < l.length := by omega
  obtain ⟨a', e, _, hx⟩ := h.rd (by rw [← h.len]; omega)
  obtain rfl := Option.some.inj e
  have hc := hx (j / 6) _ (List.getElem?_eq_getElem hi)
  have hu' := cellsL_at l (j / 6) (j % 6) _ (List.getElem?_eq_getElem hi) (by omega)
  rw [show j / 6 * 6 + j % 6 = j by omega, hu] at hu'
  have hd : j = j / 6 * 6 + j % 6 := by omega
  rw [hd]
  generalize j / 6 * 6 = m at *
  have hr : j % 6 < 6 := by omega
  generalize j % 6 = r at *
  match r, hr, hu' with
  | 0, _, hu' => rw [Nat.add_zero]; exact hc.c0.trans hu'.symm
  | 1, _, hu' => rw [add_more _ _ _ (by omega)]; exact hc.c1.trans hu'.symm
  | 2, _, hu' => rw [add_more _ _ _ (by omega)]; exact hc.c2.trans hu'.symm
  | 3, _, hu' => rw [add_more _ _ _ (by omega)]; exact hc.c3.trans hu'.symm
  | 4, _, hu' => rw [add_more _ _ _ (by omega)]; exact hc.c4.trans hu'.symm
  | 5, _, hu' => rw [add_more _ _ _ (by omega)]; exact hc.c5.trans hu'.symm

/-- The end of a call that makes a slice: it lies in memory of the call's own. -/
def FreshKVs (w : World) (l : List KV) (e : Ending) (w' : World) : Prop := ∃ A n c, e = .returned (.slice A n c) ∧ KVs w' A n c l ∧ Below w.heap.size w w' ∧ ∀ a, A = some a → w.heap.size ≤ a.block
theorem FreshKVs.some_ {w : World} {l : List KV} {e : Ending} {w' : World} (h : FreshKVs w l e w') : SomeKVs w l e w' := by
  obtain ⟨A, n, c, he, hk, hb, _⟩ := h
  exact ⟨A, n, c, he, hk, hb⟩
theorem own_fresh {w : World} {base e n : Nat} {A : Option Addr} {k c : Nat} {xs : List Value} (h : w.ownsRow base e 6 (.slice A k c) n xs) : ∀ a, A = some a → base ≤ a.block := fun a ha => by
  rcases h.2 with ⟨hv, _⟩ | ⟨g, cap, cur, hv, hb, _⟩
  · injection hv with e1 e2 e3; rw [ha] at e1; cases e1
  · injection hv with e1 e2 e3; rw [ha] at e1; injection e1 with e1; subst e1; exact hb
/-- A slice that is told is the one that was given, or lies in memory of the call's own. -/
def FromA (A : Option Addr) (m : Nat) (w : World) (A' : Option Addr) (m' : Nat) : Prop := (A' = A ∧ m' = m) ∨ ∀ a, A' = some a → w.heap.size ≤ a.block
def OrKVs (A0 : Option Addr) (m : Nat) (w : World) (l : List KV) (e : Ending) (w' : World) : Prop := ∃ A n c, e = .returned (.slice A n c) ∧ KVs w' A n c l ∧ Below w.heap.size w w' ∧ FromA A0 m w A n
/-- The end of a call that makes a row of its own. -/
def OwnEnd (base : Nat) (l : List KV) (w : World) (e : Ending) (w' : World) : Prop := ∃ A c, e = .returned (.slice A l.length c) ∧ w'.ownsRow base 36 6 (.slice A l.length c) l.length (cellsL l) ∧ Below base w w'
theorem own_form {w : World} {base n : Nat} {v : Value} {xs : List Value} (h : w.ownsRow base 36 6 v n xs) : ∃ A c, v = .slice A n c := by
  rcases h.2 with ⟨rfl, rfl⟩ | ⟨g, cap, cur, rfl, _⟩
  · exact ⟨_, _, rfl⟩
  · exact ⟨_, _, rfl⟩
theorem own_keep {w w' : World} {base n : Nat} {v : Value} {xs : List Value} (h : w.ownsRow base 36 6 v n xs) (hb : Below w.heap.size w w') : w'.ownsRow base 36 6 v n xs := by
  rcases h with ⟨h1, h2 | ⟨g, cap, cur, hv, hbg, hg, h3⟩⟩
  · exact ⟨h1, .inl h2⟩
  · have hlt : g < w.heap.size := by
      rcases Nat.lt_or_ge g w.heap.size with hlt | hge
      · exact hlt
      · rw [Array.getElem?_eq_none hge] at hg; cases hg
    exact ⟨h1, .inr ⟨g, cap, cur, hv, hbg, (hb.block g hlt).trans hg, h3⟩⟩
theorem own_kvs {w : World} {base n c : Nat} {A : Option Addr} {l : List KV} (h : w.ownsRow base 36 6 (.slice A n c) n (cellsL l)) (ok : ∀ x ∈ l, x.ok) : KVs w A n c l := by
  obtain ⟨A', c', e, hk⟩ := KVs.of_own h ok
  injection e with e1 e2 e3
  subst e1 e3
  exact hk
theorem OwnEnd.kvs {w : World} {l : List KV} {e : Ending} {w' : World} (h : OwnEnd w.heap.size l w e w') (ok : ∀ x ∈ l, x.ok) : SomeKVs w l e w' := by
  obtain ⟨A, c, rfl, hown, hb⟩ := h
  exact ⟨A, _, c, rfl, own_kvs hown ok, hb⟩

theorem OwnEnd.kvs2 {base : Nat} {w : World} {l : List KV} {e : Ending} {w' : World} (h : OwnEnd base l w e w') (ok : ∀ x ∈ l, x.ok) : ∃ A n c, e = .returned (.slice A n c) ∧ KVs w' A n c l ∧ Below base w w' := by
  obtain ⟨A, c, rfl, hown, hb⟩ := h
  exact ⟨A, _, c, rfl, own_kvs hown ok, hb⟩
theorem clone_any (A : Option Addr) (n c : Nat) (l : List KV) (w : World) (h : KVs w A n c l) (hn : n ≤ 1000000) :
    Calls Try.prog 38 #[.slice A n c] w (OwnEnd w.heap.size l w) := by
  obtain rfl := h.len
  rcases A with _ | a
  · have h0 := h.nil rfl
    subst h0
    have hl0 : l.length = 0 := by have := h.le; omega
    have hl : l = [] := List.eq_nil_of_length_eq_zero hl0
    subst hl
    clear h hl0
    have hnil := fun (w : World) => Lib.run_eql_slice_nil (P := Try.prog) w 22 36 none 0 0 0 0 Try.underlying22
    go_enter Try.func38, Try.ntmps38
    go_wp2
    go_ret
    exact ⟨none, 0, rfl, ⟨rfl, .inl ⟨rfl, rfl⟩⟩, Below.refl _ _⟩
  · obtain ⟨i0, hi0, hz0, hz1, hz2⟩ := info_parts kv_info
    have HH := Lib.hid h
    have H := Lib.hid (HH.out.keep (((Below.refl w.heap.size w).alloc (Nat.le_refl _) (.cells #[] 36))))
    clear h
    have hnil := fun (w : World) (n c : Nat) => Lib.run_eql_slice_nil (P := Try.prog) w 22 36 (some a) n c 0 0 Try.underlying22
    go_enter Try.func38, Try.ntmps38
    go_wp2_with (at_builtin; refine wpList_append_own_at _ rfl _ _ 22 rfl w.heap.size 36 i0 zeroAgg 6 64 Try.underlying22 hi0 hz0 hz1 hz2 rfl (by omega) (.slice (some ⟨w.heap.size, 0, none⟩) 0 0) 0 [] rfl (World.ownsRow_made w #[] 0 (Nat.le_refl _) (Nat.zero_le _) rfl) a l.length c (cellsL l) rfl (cellsL_len l) H.out.cells (fun u hu => cellsL_one' hu) (by simp only [maxLen]; omega) (by omega) (by simp) ?_; intro v1 w1 hown1 hg1 hnil1 hat1)
    rw [Nat.zero_add, List.nil_append] at hown1
    obtain ⟨A1, c1, rfl⟩ := own_form hown1
    have HO := Lib.hid hown1
    have HG := Lib.hid hg1
    clear hown1 hg1 hnil1 hat1
    go_wp2
    go_ret
    exact ⟨A1, c1, rfl, HO.out, ((Below.refl _ _).alloc (Nat.le_refl _) _).grown HG.out (by simp) (fun k hk => by simp [Value.ownBlock] at hk; omega)⟩

theorem zero_kv (w : World) : (zeroValue 36).run Try.prog w = .ok zeroAgg w := by kernel_rfl

theorem take_twice (a d zs d2 : List Value) (k : Nat) (h : a.length = k) : ((a ++ d).take k ++ zs ++ d2).take k = a := by
  rw [List.take_left' h, List.append_assoc, List.take_left' h]
theorem delete_own (base g cap j m : Nat) (l : List KV) (w : World) (hl : l.length = j + 1 + m) (hown : w.ownsRow base 36 6 (.slice (some ⟨g, 0, none⟩) (j + 1 + m) cap) (j + 1 + m) (cellsL l)) (hn : j + 1 + m ≤ 1000000) :
    Calls Try.prog 68 #[.slice (some ⟨g, 0, none⟩) (j + 1 + m) cap, .int .i64 j, .int .i64 ((j : Int) + 1)] w fun e w' => e = .returned (.slice (some ⟨g, 0, none⟩) (j + m) cap) ∧
      w'.ownsRow base 36 6 (.slice (some ⟨g, 0, none⟩) (j + m) cap) (j + m) (cellsL (l.take j ++ l.drop (j + 1))) ∧ Below base w w' := by
  obtain ⟨i0, hi0, hz0, hz1, hz2⟩ := info_parts kv_info
  obtain ⟨cur, hbg, hrow, hnc, hcm, hcs, htake⟩ : ∃ cur, base ≤ g ∧ RowAt w g 36 cur ∧ j + 1 + m ≤ cap ∧ cap ≤ maxLen ∧ cur.size = cap * 6 ∧ cur.toList.take ((j + 1 + m) * 6) = cellsL l := by
    rcases hown.2 with ⟨h, _⟩ | ⟨g', cap', cur, hv, hb, hg, h1, h2, h3, h4⟩
    · cases h
    · injection hv with e1 e2 e3
      injection e1 with e1
      injection e1 with e1 _ _
      subst e1 e3
      exact ⟨cur, hb, hg, h1, h2, h3, h4⟩
  have hcm' : cap ≤ 9223372036854775807 := by unfold maxLen at hcm; omega
  obtain ⟨news, hnews⟩ : ∃ news, news = cellsL (l.drop (j + 1)) := ⟨_, rfl⟩
  have hlen : news.length = m * 6 := by rw [hnews, cellsL_len, List.length_drop, hl]; omega
  have hcell : ∀ t, t < (j + 1 + m) * 6 → w.cell? ⟨g, t, none⟩ = (cellsL l)[t]? := fun t ht => by
    rw [hrow.cell t, ← htake, List.getElem?_take_of_lt ht, Array.getElem?_toList]
  have hdrop : ∀ t, news[t]? = (cellsL l)[(j + 1) * 6 + t]? := fun t => by
    have e : cellsL l = cellsL (l.take (j + 1)) ++ news := by rw [hnews, ← cellsL_app, List.take_append_drop]
    rw [e, List.getElem?_append_right (by rw [cellsL_len, List.length_take]; omega), cellsL_len, List.length_take]
    congr 1
    omega
  obtain ⟨A, hA, hsrc⟩ : ∃ A : Addr, (if cap = j + 1 then some (⟨g, 0, none⟩ : Addr) else some ⟨g, (j + 1) * 6, none⟩) = some A ∧ Hid (∀ t u, news[t]? = some u → w.drew.cell? (A.add t) = some u) := by
    by_cases h : cap = j + 1
    · refine ⟨⟨g, 0, none⟩, by simp [h], fun t u hu => ?_⟩
      have h0 : news.length = 0 := by rw [hlen]; omega
      rw [List.length_eq_zero_iff.1 h0] at hu
      simp at hu
    · refine ⟨⟨g, (j + 1) * 6, none⟩, by simp [h], fun t u hu => ?_⟩
      have ht : t < news.length := (List.getElem?_eq_some_iff.1 hu).1
      rw [hlen] at ht
      rw [hdrop t] at hu
      rw [Addr.add_lit]
      exact (hcell _ (by omega)).trans hu
  have s1 : Hid (news.length = m * 6) := hlen
  have s2 : Hid (∀ u ∈ news, u.oneCell' = true) := fun u hu => cellsL_one' (by rw [hnews] at hu; exact hu)
  have s3 : Hid (∀ t, t < news.length → (w.drew.cell? ⟨g, 0 + j * 6 + t, none⟩).isSome = true ∧ w.drew.frozen? ⟨g, 0 + j * 6 + t, none⟩ = false) := fun t ht => by
    rw [hlen] at ht
    refine ⟨?_, hrow.frozen _⟩
    show (w.cell? _).isSome = true
    rw [hrow.cell, Array.getElem?_eq_getElem (by omega)]
    rfl
  obtain ⟨W1, hW1⟩ : ∃ W1, W1 = w.drew.setCells g (0 + j * 6) news := ⟨_, rfl⟩
  have hrow1 : RowAt W1 g 36 (layC cur (0 + j * 6) news) := by rw [hW1]; exact RowAt.setCells news w.drew cur _ hrow
  obtain ⟨zs, hzl, hcl⟩ := run_clear_rows (P := Try.prog) W1 22 36 zeroAgg 6 Try.underlying22 zero_kv rfl (by intro v hv; simp [Value.cells] at hv; rcases hv with rfl | rfl <;> rfl) (by omega) g ((j + m) * 6) 1 (by omega)
    (fun t ht => by rw [hrow1.cell, Array.getElem?_eq_getElem (by rw [layC_size]; omega)]; rfl) (fun t ht => hrow1.frozen _)
  have hfin : Hid ((W1.setCells g ((j + m) * 6) zs).ownsRow base 36 6 (.slice (some ⟨g, 0, none⟩) (j + m) cap) (j + m) (cellsL (l.take j ++ l.drop (j + 1)))) := by
    refine RowAt.own (RowAt.setCells zs W1 _ _ hrow1) hbg (by omega) hcm (by rw [layC_size, layC_size, hcs]) ?_
    rw [layC_list _ _ _ (by rw [layC_size, hzl]; omega), layC_list _ _ _ (by rw [hlen]; omega)]
    have e1 : cur.toList.take (0 + j * 6) = cellsL (l.take j) := by
      have e : cellsL l = cellsL (l.take j) ++ cellsL (l.drop j) := by rw [← cellsL_app, List.take_append_drop]
      have e2 : cur.toList.take (0 + j * 6) = (cellsL l).take (j * 6) := by rw [← htake, List.take_take]; congr 1; omega
      rw [e2, e, List.take_left' (by rw [cellsL_len, List.length_take]; omega)]
    rw [e1, cellsL_app, ← hnews]
    have hl1 : (cellsL (l.take j) ++ news).length = (j + m) * 6 := by rw [List.length_append, cellsL_len, List.length_take, hlen]; omega
    exact take_twice _ _ _ _ _ hl1
  have hbel : Hid (Below base w (W1.setCells g ((j + m) * 6) zs)) := by
    refine below_setCells zs _ _ ?_ hbg
    rw [hW1]
    exact below_setCells news _ _ (Below.drew (Below.refl _ _)) hbg
  have hW : Hid (W1 = w.drew.setCells g (0 + j * 6) news) := hW1
  have hic : j ≤ cap := by omega
  have hjc : j + 1 ≤ cap := by omega
  have hi1 : ((j : Int) + 1).toNat = j + 1 := by omega
  have hd1 : j + 1 + m - (j + m) = 1 := by omega
  have hb1 : (0 : Int) ≤ (j : Int) + 1 := by omega
  have hb2 : (j : Int) + 1 ≤ (j : Int) + 1 + (m : Int) := by omega
  clear hW1 hrow1 hown hcell hdrop hnews hlen hrow hcs htake hl hzl hz0 hz2
  go_enter Try.func68, Try.ntmps68
  go_wp2_with fail
  go_region_law (refine step_append_room rfl (.tmp 22) (.tmp 25) 22 rfl 36 i0 6 Try.underlying22 hi0 hz1 g 0 j cap (by simp [Act.eval, Act.put]) A m (cap - (j + 1)) news (by simp [Act.eval, Act.put]) s1.out hsrc.out s2.out (by omega) s3.out ?_; rw [← hW.out])
  go_wp2
  go_ret
  exact ⟨rfl, hfin.out, hbel.out⟩

/-- A list without a thing, in its own row. -/
theorem take_own (base : Nat) (A : Option Addr) (c : Nat) (l : List KV) (k : ByteArray) (w : World) (hown : w.ownsRow base 36 6 (.slice A l.length c) l.length (cellsL l)) (ok : ∀ x ∈ l, x.ok) (hn : l.length ≤ 1000000) (hb : base ≤ w.heap.size) :
    Calls Try.prog 50 #[.slice A l.length c, .string k] w (OwnEnd base (takeL l k) w) := by
  have H := Lib.hid (own_kvs hown ok)
  have HO := Lib.hid hown
  have HB := Lib.hid hb
  clear hown ok hb
  obtain ⟨i0, hi0⟩ := idx_exists l k
  have HI0 := Lib.hid hi0
  rcases hi0.find with ⟨rfl, _, ht⟩ | ⟨j, x, rfl, hx, _, ht⟩
  · have HT := Lib.hid ht
    clear hi0 ht
    obtain ⟨n, hnl⟩ : ∃ n, n = l.length := ⟨_, rfl⟩
    rw [← hnl] at H HO hn ⊢
    have HL := Lib.hid hnl
    clear hnl
    go_enter Try.func50, Try.ntmps50
    go_wp2_with fail
    refine (of_any _ _).mono ?_; rintro e w1 ⟨rfl, h1, hz, hb⟩
    have HC := Lib.hid h1
    have HW := Lib.hid hb
    clear h1 hz hb
    go_wp2_with fail
    refine (index_any A n c l k ⟨w.heap.size, 0, none⟩ w1 (H.out.keep HW.out) hn HC.out).mono ?_
    rintro e w2 ⟨i, rfl, hi, hb⟩
    obtain rfl := idx_unique hi HI0.out
    have HW2 := Lib.hid (HW.out.trans (hb.mono HW.out.size))
    have HO2 := Lib.hid (own_keep HO.out HW2.out)
    clear hb hi
    go_wp2
    go_ret
    refine ⟨A, c, ?_, ?_, HW2.out.mono HB.out⟩ <;> rw [HT.out, ← HL.out]
    · rfl
    · exact HO2.out
  · have HT := Lib.hid ht
    have hj : j < l.length := (List.getElem?_eq_some_iff.1 hx).1
    obtain ⟨m, hm⟩ : ∃ m, l.length = j + 1 + m := ⟨l.length - (j + 1), by omega⟩
    rw [hm] at H HO hn ⊢
    have HLL := Lib.hid hm
    obtain ⟨g, rfl⟩ : ∃ g, A = some ⟨g, 0, none⟩ := by
      rcases HO.out.2 with ⟨h, h0⟩ | ⟨g, cap, cur, hv, _⟩
      · omega
      · injection hv with e1; exact ⟨g, e1⟩
    clear hi0 ht hx hj hm
    go_enter Try.func50, Try.ntmps50
    go_wp2_with fail
    refine (of_any _ _).mono ?_; rintro e w1 ⟨rfl, h1, hz, hb⟩
    have HC := Lib.hid h1
    have HW := Lib.hid hb
    clear h1 hz hb
    go_wp2_with fail
    refine (index_any _ _ c l k ⟨w.heap.size, 0, none⟩ w1 (H.out.keep HW.out) hn HC.out).mono ?_
    rintro e w2 ⟨i, rfl, hi, hb⟩
    obtain rfl := idx_unique hi HI0.out
    have HW2 := Lib.hid (HW.out.trans (hb.mono HW.out.size))
    have HO2 := Lib.hid (own_keep HO.out HW2.out)
    clear hb hi
    have HD := Lib.hid (delete_own base g c j m l w2 HLL.out HO2.out hn)
    go_wp2_with fail
    refine HD.out.mono ?_
    rintro e w3 ⟨rfl, hown3, hb3⟩
    have HO3 := Lib.hid hown3
    have HB3 := Lib.hid hb3
    clear hown3 hb3
    go_wp2
    go_ret
    have hlen : (takeL l k).length = j + m := by rw [HT.out, List.length_append, List.length_take, List.length_drop, HLL.out]; omega
    refine ⟨some ⟨g, 0, none⟩, c, ?_, ?_, (HW2.out.mono HB.out).trans HB3.out⟩
    · rw [hlen]; rfl
    · rw [hlen, HT.out]; exact HO3.out

theorem take_at (base : Nat) (A : Option Addr) (n c : Nat) (l : List KV) (k : ByteArray) (w : World) (hl : l.length = n) (hown : w.ownsRow base 36 6 (.slice A n c) n (cellsL l)) (ok : ∀ x ∈ l, x.ok) (hn : n ≤ 1000000) (hb : base ≤ w.heap.size) :
    Calls Try.prog 50 #[.slice A n c, .string k] w (OwnEnd base (takeL l k) w) := by
  subst hl
  exact take_own base A c l k w hown ok hn hb


/-- One thing more behind a row of the call's own: what 'append(out, x)' is handed, and what it leaves. -/
theorem news_one {w : World} {B : Nat} {x : KV} (hb : w.heap[B]? = some (x.obj 36)) : ∀ j u, (cellsL [x])[j]? = some u → w.cell? ((⟨B, 0, none⟩ : Addr).add j) = some u := by
  intro j u hu
  rw [cellsL_one] at hu
  have hadd : (⟨B, 0, none⟩ : Addr).add j = ⟨B, j, none⟩ := by unfold Addr.add; split <;> simp_all
  rw [hadd, cell_of_row w B j _ 36 (0, 0) hb]
  simpa [KV.cells] using hu
theorem own_more {w : World} {base : Nat} {v : Value} {l : List KV} {x : KV} (h : w.ownsRow base 36 6 v (l.length + 1) (cellsL l ++ cellsL [x])) : w.ownsRow base 36 6 v (l ++ [x]).length (cellsL (l ++ [x])) := by
  rw [cellsL_app, List.length_append]; exact h
theorem own_len {w : World} {base n : Nat} {v : Value} {l : List KV} (h : w.ownsRow base 36 6 v n (cellsL l)) : n = l.length := by
  have := h.1; rw [cellsL_len] at this; omega

theorem take_reff (A : Option Addr) (n c : Nat) (l : List KV) (k : ByteArray) (w : World) (h : KVs w A n c l) (hn : n ≤ 1000000) :
    Calls Try.prog 33 #[.slice A n c, .string k] w (FreshKVs w (takeL l k)) := by
  obtain ⟨i0, hi0, hz0, hz1, hz2⟩ := info_parts kv_info
  have H := Lib.hid h
  have HOK := Lib.hid h.ok
  have HL := Lib.hid h.len
  clear h
  go_enter Try.func33, Try.ntmps33
  go_wp2
  go_loopw [5, 6, 7] (fun v g i wr => ∃ (j : Nat) (b : Bool) (o : List KV) (A' : Option Addr) (c' : Nat), j ≤ n ∧ i = .int .i64 j ∧ g = .bool b ∧ v = .slice A' o.length c' ∧
      wr.ownsRow w.heap.size 36 6 (.slice A' o.length c') o.length (cellsL o) ∧ Below w.heap.size w wr ∧ TakeTo l k j b o) (fun _ _ i _ => n - (intOf i).toNat)
  case atStart =>
    exact ⟨0, false, [], some ⟨w.heap.size, 0, none⟩, 0, Nat.zero_le _, rfl, rfl, rfl, World.ownsRow_made w #[] 0 (Nat.le_refl _) (Nat.zero_le _) rfl, (Below.refl _ _).alloc (Nat.le_refl _) _, TakeTo.zero _ _⟩
  case round =>
    obtain ⟨j, b, o, A', c', hj, rfl, rfl, rfl, hown, hbel, ht⟩ := hrel
    have HO := Lib.hid hown
    have HB := Lib.hid hbel
    have HT := Lib.hid ht
    have hol := ht.len
    clear hown hbel ht
    by_cases hlt : j < n
    · obtain ⟨a, x, rfl, hbl, hx, hok, hc⟩ := (H.out.keep HB.out).at_ hlt
      obtain ⟨c0, c1, c2, c3, c4, c5⟩ := hc
      have HX := Lib.hid hx
      clear hok hbl hx
      have fin : ∀ (v1 : Value) (w1 : World), w1.ownsRow w.heap.size 36 6 v1 (o.length + 1) (cellsL o ++ cellsL [x]) → (wr.alloc (x.obj 36)).grownBy w1 (Value.slice A' o.length c').ownBlock →
          ∃ A1 c1, v1 = .slice A1 (o ++ [x]).length c1 ∧ w1.ownsRow w.heap.size 36 6 (.slice A1 (o ++ [x]).length c1) (o ++ [x]).length (cellsL (o ++ [x])) ∧ Below w.heap.size w w1 := fun v1 w1 h1 h2 => by
        have h3 := own_more h1
        obtain ⟨A1, c1, rfl⟩ := own_form h3
        exact ⟨A1, c1, rfl, h3, (HB.out.alloc HB.out.size _).grown h2 (by have := HB.out.size; simp; omega) (fun g hg => (HO.out.lt g hg).1)⟩
      have FIN := Lib.hid fin
      clear fin
      cases b with
      | true =>
        go_wp2_with (at_builtin; refine wpList_append_own_at _ rfl _ _ 22 rfl w.heap.size 36 i0 zeroAgg 6 64 Try.underlying22 hi0 hz0 hz1 hz2 rfl (by omega) (.slice A' o.length c') o.length (cellsL o) rfl (HO.out.alloc _) ⟨wr.heap.size, 0, none⟩ 1 1 (cellsL [x]) rfl rfl (news_one (heap_alloc_new wr _)) (fun u hu => cellsL_one' hu) (by simp only [maxLen]; omega) (by omega) (by have := HB.out.size; simp; omega) ?_; intro v1 w1 hown1 hg1 hnil1 hat1)
        obtain ⟨A1, c1, rfl, hown2, hb2⟩ := FIN.out v1 w1 hown1 hg1
        have HO2 := Lib.hid hown2
        have HB2 := Lib.hid hb2
        clear hown1 hg1 hnil1 hat1 hown2 hb2
        go_wp2
        go_roundw
        case rel => exact ⟨j + 1, true, o ++ [x], A1, c1, by omega, by go_num, rfl, rfl, HO2.out, HB2.out, HT.out.past HX.out⟩
        case measure => simp [intOf]; omega
      | false =>
        cases hk : teq x.key k with
        | true =>
          have HK := Lib.hid hk
          have hk' : (x.key.toList == k.toList) = true := hk
          clear hk
          go_wp2
          go_roundw
          case rel => exact ⟨j + 1, true, o, A', c', by omega, by go_num, rfl, rfl, HO.out, HB.out, HT.out.hit HX.out HK.out⟩
          case measure => simp [intOf]; omega
        | false =>
          have HK := Lib.hid hk
          have hk' : (x.key.toList == k.toList) = false := hk
          clear hk
          go_wp2_with (at_builtin; refine wpList_append_own_at _ rfl _ _ 22 rfl w.heap.size 36 i0 zeroAgg 6 64 Try.underlying22 hi0 hz0 hz1 hz2 rfl (by omega) (.slice A' o.length c') o.length (cellsL o) rfl (HO.out.alloc _) ⟨wr.heap.size, 0, none⟩ 1 1 (cellsL [x]) rfl rfl (news_one (heap_alloc_new wr _)) (fun u hu => cellsL_one' hu) (by simp only [maxLen]; omega) (by omega) (by have := HB.out.size; simp; omega) ?_; intro v1 w1 hown1 hg1 hnil1 hat1)
          obtain ⟨A1, c1, rfl, hown2, hb2⟩ := FIN.out v1 w1 hown1 hg1
          have HO2 := Lib.hid hown2
          have HB2 := Lib.hid hb2
          clear hown1 hg1 hnil1 hat1 hown2 hb2
          go_wp2
          go_roundw
          case rel => exact ⟨j + 1, false, o ++ [x], A1, c1, by omega, by go_num, rfl, rfl, HO2.out, HB2.out, HT.out.pass HX.out HK.out⟩
          case measure => simp [intOf]; omega
    · have HE := Lib.hid (HT.out.all (by rw [HL.out]; omega))
      go_wp2
      go_ret
      refine ⟨A', o.length, c', rfl, ?_, HB.out, own_fresh HO.out⟩
      rw [← HE.out]
      exact own_kvs HO.out (fun y hy => HOK.out y (takeL_mem _ _ _ (by rw [HE.out] at hy; exact hy)))
theorem take_ref (A : Option Addr) (n c : Nat) (l : List KV) (k : ByteArray) (w : World) (h : KVs w A n c l) (hn : n ≤ 1000000) :
    Calls Try.prog 33 #[.slice A n c, .string k] w (SomeKVs w (takeL l k)) := (take_reff A n c l k w h hn).mono fun e w' h => h.some_
end Go.Proofs.Ytkikfaeigoeogaa.P
