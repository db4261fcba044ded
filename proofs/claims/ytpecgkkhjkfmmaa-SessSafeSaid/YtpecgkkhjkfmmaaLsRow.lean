/- Leases: rows of the call's own: copied, without one, with one more. -/
import Derived.Test.YtpecgkkhjkfmmaaLsMay
import Derived.Test.YtpecgkkhjkfmmaaGenApp
import Derived.Deep.RegionLaw
import Derived.Deep.RegionHeld3
import Derived.WalkSpells
import Derived.Lib.SliceRun
import Derived.Lib.BufferMore
import Derived.Lib.BufferOwn
import Derived.Laws.OwnMore
import Derived.Conc.MuLone
namespace Go.Proofs.Ytpecgkkhjkfmmaa.P
open Go.RowKit Go.Sort
set_option maxHeartbeats 1000000
set_option linter.unusedVariables false
set_option linter.unusedSimpArgs false
set_option maxRecDepth 100000

abbrev zeroLeA : Value := .agg #[.int .i64 0, .int .i64 0, .int .i64 0]
theorem le_info : (Try.prog.info? 119).map (fun i => (i.zero, i.size, i.bytes)) = some (some zeroLeA, 3, 24) := by kernel_rfl
abbrev ownL (w : World) (base : Nat) (A : Option Addr) (n c : Nat) (l : List Le) : Prop := w.ownsRow base 119 3 (.slice A n c) n (flatC Le.cells l)
theorem own_lenL {w : World} {base n c : Nat} {A : Option Addr} {l : List Le} (h : ownL w base A n c l) : l.length = n := by
  have := h.1; rw [flat_len le_len] at this; omega
theorem own_les {w : World} {base n c : Nat} {A : Option Addr} {l : List Le} (h : ownL w base A n c l) (ok : ∀ x ∈ l, x.ok) : Les w A n c l := ⟨RowsOf.of_own le_len (own_lenL h) h, ok⟩
theorem own_keepL {w w' : World} {base n : Nat} {v : Value} {xs : List Value} (h : w.ownsRow base 119 3 v n xs) (hb : Below w.heap.size w w') : w'.ownsRow base 119 3 v n xs := by
  rcases h with ⟨h1, h2 | ⟨g, cap, cur, hv, hbg, hg, h3⟩⟩
  · exact ⟨h1, .inl h2⟩
  · have hlt : g < w.heap.size := by
      rcases Nat.lt_or_ge g w.heap.size with hlt | hge
      · exact hlt
      · rw [Array.getElem?_eq_none hge] at hg; cases hg
    exact ⟨h1, .inr ⟨g, cap, cur, hv, hbg, (hb.block g hlt).trans hg, h3⟩⟩
theorem own_formL {w : World} {base n : Nat} {v : Value} {xs : List Value} (h : w.ownsRow base 119 3 v n xs) : ∃ A c, v = .slice A n c := by
  rcases h.2 with ⟨rfl, rfl⟩ | ⟨g, cap, cur, rfl, _⟩
  · exact ⟨_, _, rfl⟩
  · exact ⟨_, _, rfl⟩
theorem own_freshL {w : World} {base n c : Nat} {A : Option Addr} {l : List Le} (h : ownL w base A n c l) : ∀ a, A = some a → base ≤ a.block := by
  intro a ha
  subst ha
  rcases h.2 with ⟨hv, _⟩ | ⟨g, cap, cur, hv, hb, _⟩
  · injection hv with e1; cases e1
  · injection hv with e1
    injection e1 with e1
    subst e1
    exact hb
/-- The end of a call that makes a row of its own. -/
def OwnEndL (base : Nat) (l : List Le) (w : World) (e : Ending) (w' : World) : Prop := ∃ A c, e = .returned (.slice A l.length c) ∧ ownL w' base A l.length c l ∧ Below base w w'
theorem clone_le (A : Option Addr) (n c : Nat) (l : List Le) (w : World) (h : Les w A n c l) (hn : n ≤ 1000000) :
    Calls Try.prog 72 #[.slice A n c] w (OwnEndL w.heap.size l w) := by
  obtain rfl := h.row.len
  rcases A with _ | a
  · have h0 := h.row.nil rfl
    subst h0
    have hl0 : l.length = 0 := by have := h.row.le; omega
    have hl : l = [] := List.eq_nil_of_length_eq_zero hl0
    subst hl
    clear h hl0
    have hnil := fun (w : World) => Lib.run_eql_slice_nil (P := Try.prog) w 71 119 none 0 0 0 0 Try.underlying71
    go_enter Try.func72, Try.ntmps72
    go_wp2
    go_ret
    exact ⟨none, 0, rfl, ⟨rfl, .inl ⟨rfl, rfl⟩⟩, Below.refl _ _⟩
  · obtain ⟨i0, hi0, hz0, hz1, hz2⟩ := info_parts le_info
    have HH := Lib.hid h
    have H := Lib.hid (HH.out.keep (((Below.refl w.heap.size w).alloc (Nat.le_refl _) (.cells #[] 119))))
    clear h
    have hnil := fun (w : World) (n c : Nat) => Lib.run_eql_slice_nil (P := Try.prog) w 71 119 (some a) n c 0 0 Try.underlying71
    go_enter Try.func72, Try.ntmps72
    go_wp2_with (at_builtin; refine wpList_append_own_at _ rfl _ _ 71 rfl w.heap.size 119 i0 zeroLeA 3 24 Try.underlying71 hi0 hz0 hz1 hz2 rfl (by omega) (.slice (some ⟨w.heap.size, 0, none⟩) 0 0) 0 [] rfl (World.ownsRow_made w #[] 0 (Nat.le_refl _) (Nat.zero_le _) rfl) a l.length c (flatC Le.cells l) rfl (flat_len le_len l) (H.out.row.cells le_len (by omega)) (fun u hu => flat_mem le_one hu) (by simp only [maxLen]; omega) (by omega) (by simp) ?_; intro v1 w1 hown1 hg1 hnil1 hat1)
    rw [Nat.zero_add, List.nil_append] at hown1
    obtain ⟨A1, c1, rfl⟩ := own_formL hown1
    have HO := Lib.hid hown1
    have HG := Lib.hid hg1
    clear hown1 hg1 hnil1 hat1
    go_wp2
    go_ret
    exact ⟨A1, c1, rfl, HO.out, ((Below.refl _ _).alloc (Nat.le_refl _) _).grown HG.out (by simp) (fun k hk => by simp [Value.ownBlock] at hk; omega)⟩

theorem zero_le_ (w : World) : (zeroValue 119).run Try.prog w = .ok zeroLeA w := by kernel_rfl
theorem takeL_twice (a d zs d2 : List Value) (k : Nat) (h : a.length = k) : ((a ++ d).take k ++ zs ++ d2).take k = a := by
  rw [List.take_left' h, List.append_assoc, List.take_left' h]
theorem own_rowL {w : World} {base g n cap : Nat} {xs : List Value} (hown : w.ownsRow base 119 3 (.slice (some ⟨g, 0, none⟩) n cap) n xs) : ∃ cur, base ≤ g ∧ RowAt w g 119 cur ∧ n ≤ cap ∧ cap ≤ maxLen ∧ cur.size = cap * 3 ∧ cur.toList.take (n * 3) = xs := by
  rcases hown.2 with ⟨h, _⟩ | ⟨g', cap', cur, hv, hb, hg, h1, h2, h3, h4⟩
  · cases h
  · injection hv with e1 e2 e3
    injection e1 with e1
    injection e1 with e1 _ _
    subst e1 e3
    exact ⟨cur, hb, hg, h1, h2, h3, h4⟩
theorem delete_le (base g cap j m : Nat) (l : List Le) (w : World) (hl : l.length = j + 1 + m) (hown : ownL w base (some ⟨g, 0, none⟩) (j + 1 + m) cap l) (hn : j + 1 + m ≤ 1000000) :
    Calls Try.prog 75 #[.slice (some ⟨g, 0, none⟩) (j + 1 + m) cap, .int .i64 j, .int .i64 ((j : Int) + 1)] w fun e w' => e = .returned (.slice (some ⟨g, 0, none⟩) (j + m) cap) ∧
      ownL w' base (some ⟨g, 0, none⟩) (j + m) cap (l.take j ++ l.drop (j + 1)) ∧ Below base w w' := by
  obtain ⟨i0, hi0, hz0, hz1, hz2⟩ := info_parts le_info
  obtain ⟨cur, hbg, hrow, hnc, hcm, hcs, htake⟩ := own_rowL hown
  have hcm' : cap ≤ 9223372036854775807 := by unfold maxLen at hcm; omega
  obtain ⟨news, hnews⟩ : ∃ news, news = flatC Le.cells (l.drop (j + 1)) := ⟨_, rfl⟩
  have hlen : news.length = m * 3 := by rw [hnews, flat_len le_len, List.length_drop, hl]; omega
  have hcell : ∀ t, t < (j + 1 + m) * 3 → w.cell? ⟨g, t, none⟩ = (flatC Le.cells l)[t]? := fun t ht => by
    rw [hrow.cell t, ← htake, List.getElem?_take_of_lt ht, Array.getElem?_toList]
  have hdrop : ∀ t, news[t]? = (flatC Le.cells l)[(j + 1) * 3 + t]? := fun t => by
    have e : flatC Le.cells l = flatC Le.cells (l.take (j + 1)) ++ news := by rw [hnews, ← flat_app, List.take_append_drop]
    rw [e, List.getElem?_append_right (by rw [flat_len le_len, List.length_take]; omega), flat_len le_len, List.length_take]
    congr 1
    omega
  obtain ⟨A, hA, hsrc⟩ : ∃ A : Addr, (if cap = j + 1 then some (⟨g, 0, none⟩ : Addr) else some ⟨g, (j + 1) * 3, none⟩) = some A ∧ Hid (∀ t u, news[t]? = some u → w.drew.cell? (A.add t) = some u) := by
    by_cases h : cap = j + 1
    · refine ⟨⟨g, 0, none⟩, by simp [h], fun t u hu => ?_⟩
      have h0 : news.length = 0 := by rw [hlen]; omega
      rw [List.length_eq_zero_iff.1 h0] at hu
      simp at hu
    · refine ⟨⟨g, (j + 1) * 3, none⟩, by simp [h], fun t u hu => ?_⟩
      have ht : t < news.length := (List.getElem?_eq_some_iff.1 hu).1
      rw [hlen] at ht
      rw [hdrop t] at hu
      rw [Addr.add_lit]
      exact (hcell _ (by omega)).trans hu
  have s1 : Hid (news.length = m * 3) := hlen
  have s2 : Hid (∀ u ∈ news, u.oneCell' = true) := fun u hu => flat_mem le_one (by rw [hnews] at hu; exact hu)
  have s3 : Hid (∀ t, t < news.length → (w.drew.cell? ⟨g, 0 + j * 3 + t, none⟩).isSome = true ∧ w.drew.frozen? ⟨g, 0 + j * 3 + t, none⟩ = false) := fun t ht => by
    rw [hlen] at ht
    refine ⟨?_, hrow.frozen _⟩
    show (w.cell? _).isSome = true
    rw [hrow.cell, Array.getElem?_eq_getElem (by omega)]
    rfl
  obtain ⟨W1, hW1⟩ : ∃ W1, W1 = w.drew.setCells g (0 + j * 3) news := ⟨_, rfl⟩
  have hrow1 : RowAt W1 g 119 (layC cur (0 + j * 3) news) := by rw [hW1]; exact RowAt.setCells news w.drew cur _ hrow
  obtain ⟨zs, hzl, hcl⟩ := run_clear_rows (P := Try.prog) W1 71 119 zeroLeA 3 Try.underlying71 zero_le_ rfl (by intro v hv; simp [Value.cells] at hv; rcases hv with rfl | rfl | rfl <;> rfl) (by omega) g ((j + m) * 3) 1 (by omega)
    (fun t ht => by rw [hrow1.cell, Array.getElem?_eq_getElem (by rw [layC_size]; omega)]; rfl) (fun t ht => hrow1.frozen _)
  have hfin : Hid (ownL (W1.setCells g ((j + m) * 3) zs) base (some ⟨g, 0, none⟩) (j + m) cap (l.take j ++ l.drop (j + 1))) := by
    refine RowAt.own (RowAt.setCells zs W1 _ _ hrow1) hbg (by omega) hcm (by rw [layC_size, layC_size, hcs]) ?_
    rw [layC_list _ _ _ (by rw [layC_size, hzl]; omega), layC_list _ _ _ (by rw [hlen]; omega)]
    have e1 : cur.toList.take (0 + j * 3) = flatC Le.cells (l.take j) := by
      have e : flatC Le.cells l = flatC Le.cells (l.take j) ++ flatC Le.cells (l.drop j) := by rw [← flat_app, List.take_append_drop]
      have e2 : cur.toList.take (0 + j * 3) = (flatC Le.cells l).take (j * 3) := by rw [← htake, List.take_take]; congr 1; omega
      rw [e2, e, List.take_left' (by rw [flat_len le_len, List.length_take]; omega)]
    rw [e1, flat_app, ← hnews]
    have hl1 : (flatC Le.cells (l.take j) ++ news).length = (j + m) * 3 := by rw [List.length_append, flat_len le_len, List.length_take, hlen]; omega
    exact takeL_twice _ _ _ _ _ hl1
  have hbel : Hid (Below base w (W1.setCells g ((j + m) * 3) zs)) := by
    refine below_setCells zs _ _ ?_ hbg
    rw [hW1]
    exact below_setCells news _ _ (Below.drew (Below.refl _ _)) hbg
  have hW : Hid (W1 = w.drew.setCells g (0 + j * 3) news) := hW1
  have hic : j ≤ cap := by omega
  have hjc : j + 1 ≤ cap := by omega
  have hi1 : ((j : Int) + 1).toNat = j + 1 := by omega
  have hd1 : j + 1 + m - (j + m) = 1 := by omega
  have hb1 : (0 : Int) ≤ (j : Int) + 1 := by omega
  have hb2 : (j : Int) + 1 ≤ (j : Int) + 1 + (m : Int) := by omega
  clear hW1 hrow1 hown hcell hdrop hnews hlen hrow hcs htake hl hzl hz0 hz2
  go_enter Try.func75, Try.ntmps75
  go_wp2_with fail
  go_region_law (refine step_append_room rfl (.tmp 22) (.tmp 25) 71 rfl 119 i0 3 Try.underlying71 hi0 hz1 g 0 j cap (by simp [Act.eval, Act.put]) A m (cap - (j + 1)) news (by simp [Act.eval, Act.put]) s1.out hsrc.out s2.out (by omega) s3.out ?_; rw [← hW.out])
  go_wp2
  go_ret
  exact ⟨rfl, hfin.out, hbel.out⟩
theorem Les.other {w : World} {A : Option Addr} {n c : Nat} {l : List Le} (h : Les w A n c l) (b i : Nat) (v : Value) (hb : ∀ a, A = some a → a.block ≠ b) : Les (w.setCell ⟨b, i, none⟩ v) A n c l :=
  ⟨h.row.keep (Lib.grownBy_setCell w b i v) (fun a ha hh => by injection hh with hh; exact hb a ha hh), h.ok⟩
abbrev zLs : Array Value := #[.int .i64 0, .slice none 0 0]
/-- How a call ends that tells leases, a number and an error. -/
def LsEnd3 (s' : Ls) (i er : Int) (w : World) (e : Ending) (w' : World) : Prop := ∃ A n c, e = .returned (.tuple #[s'.agg A n c, .int .i64 i, .int .i64 er]) ∧ LsAt w' s' A n c ∧ Below w.heap.size w w'
theorem LsEnd3.mk {s' s2 : Ls} {i er i2 er2 : Int} {w : World} {e : Ending} {w' : World} {A : Option Addr} {n c : Nat} (h1 : s' = s2) (h2 : i = i2) (h3 : er = er2) (he : e = .returned (.tuple #[s2.agg A n c, .int .i64 i2, .int .i64 er2])) (hs : LsAt w' s2 A n c) (hb : Below w.heap.size w w') : LsEnd3 s' i er w e w' := by
  subst h1 h2 h3; exact ⟨A, n, c, he, hs, hb⟩
/-- The same, and the row of what is told is a new one, or the one that was handed in. -/
def LsEnd3F (A0 : Option Addr) (s' : Ls) (i er : Int) (w : World) (e : Ending) (w' : World) : Prop := ∃ A n c, e = .returned (.tuple #[s'.agg A n c, .int .i64 i, .int .i64 er]) ∧ LsAt w' s' A n c ∧ Below w.heap.size w w' ∧ ∀ a, A = some a → w.heap.size ≤ a.block ∨ A = A0
theorem LsEnd3F.mk {A0 : Option Addr} {s' s2 : Ls} {i er i2 er2 : Int} {w : World} {e : Ending} {w' : World} {A : Option Addr} {n c : Nat} (h1 : s' = s2) (h2 : i = i2) (h3 : er = er2) (he : e = .returned (.tuple #[s2.agg A n c, .int .i64 i2, .int .i64 er2])) (hs : LsAt w' s2 A n c) (hb : Below w.heap.size w w') (hf : ∀ a, A = some a → w.heap.size ≤ a.block ∨ A = A0) : LsEnd3F A0 s' i er w e w' := by
  subst h1 h2 h3; exact ⟨A, n, c, he, hs, hb, hf⟩
theorem LsEnd3F.weak {A0 : Option Addr} {s' : Ls} {i er : Int} {w : World} {e : Ending} {w' : World} (h : LsEnd3F A0 s' i er w e w') : LsEnd3 s' i er w e w' := by
  obtain ⟨A, n, c, he, hs, hb, _⟩ := h; exact ⟨A, n, c, he, hs, hb⟩
def LsEnd2 (s' : Ls) (er : Int) (w : World) (e : Ending) (w' : World) : Prop := ∃ A n c, e = .returned (.tuple #[s'.agg A n c, .int .i64 er]) ∧ LsAt w' s' A n c ∧ Below w.heap.size w w'
theorem LsEnd2.mk {s' s2 : Ls} {er er2 : Int} {w : World} {e : Ending} {w' : World} {A : Option Addr} {n c : Nat} (h1 : s' = s2) (h3 : er = er2) (he : e = .returned (.tuple #[s2.agg A n c, .int .i64 er2])) (hs : LsAt w' s2 A n c) (hb : Below w.heap.size w w') : LsEnd2 s' er w e w' := by
  subst h1 h3; exact ⟨A, n, c, he, hs, hb⟩
theorem les_new (w : World) (x : Le) : RowsOf Le.cells 3 (w.alloc (x.obj 119)) (some ⟨w.heap.size, 0, none⟩) 1 1 [x] := by
  have h := World.ownsRow_lit (base := w.heap.size) (e := 119) (size := 3) w #[.int .i64 x.id, .int .i64 x.ttl, .int .i64 x.til] 1 (Nat.le_refl _) (by simp only [maxLen]; omega) rfl
  have e : (#[.int .i64 x.id, .int .i64 x.ttl, .int .i64 x.til] : Array Value).toList = flatC Le.cells [x] := by rw [flat_one]; rfl
  rw [e] at h
  exact RowsOf.of_own le_len rfl h
/-- What 'append(out, l...)' comes to where out is a row of the call's own. -/
theorem app_les (base : Nat) (B : Option Addr) (n d : Nat) (xs : List Le) (w : World) (hown : ownL w base B n d xs) (A : Option Addr) (m c : Nat) (l : List Le) (h : RowsOf Le.cells 3 w A m c l) (hn : n + m ≤ 1000000) (hb : base ≤ w.heap.size) :
    ∃ B' d' w', (Builtin.append_ #[71, 71] 71 #[.slice B n d, .slice A m c]).run Try.prog w = .ok (.slice B' (n + m) d') w' ∧ ownL w' base B' (n + m) d' (xs ++ l) ∧ Below base w w' ∧ w.grownBy w' (Value.slice B n d).ownBlock := by
  obtain ⟨i0, hi0, hz0, hz1, hz2⟩ := info_parts le_info
  have hlen := h.len
  rcases A with _ | a
  · have h0 := h.nil rfl
    subst h0
    obtain rfl : m = 0 := by have := h.le; omega
    obtain rfl : l = [] := List.eq_nil_of_length_eq_zero hlen
    refine ⟨B, d, w, ?_, ?_, Below.refl _ _, ⟨rfl, rfl, rfl, Nat.le_refl _, fun _ _ _ => rfl⟩⟩
    · have := run_append_owned_none (P := Try.prog) (w := w) base 71 71 119 i0 3 Try.underlying71 hi0 (.slice B n d) n _ hown
      rw [this]; rfl
    · rw [List.append_nil]; exact hown
  · obtain ⟨v', w', hr, h2, h3, h4, h5⟩ := run_append_own_at (P := Try.prog) w base 71 71 119 i0 zeroLeA 3 24 Try.underlying71 hi0 hz0 hz1 hz2 rfl (by omega) (.slice B n d) n _ hown a m c (flatC Le.cells l) (by rw [flat_len le_len, hlen]) (h.cells le_len (by omega)) (fun u hu => flat_mem le_one hu) (by unfold maxLen; omega) (by omega) hb
    have hsl : ∃ B' d', v' = .slice B' (n + m) d' := by
      rcases h2.2 with ⟨rfl, h0⟩ | ⟨g, cap, cur, rfl, _⟩
      · exact ⟨none, 0, by rw [h0]⟩
      · exact ⟨_, _, rfl⟩
    obtain ⟨B', d', rfl⟩ := hsl
    refine ⟨B', d', w', hr, ?_, (Below.refl _ _).grown h3 hb (fun k hk => (hown.lt k hk).1), h3⟩
    show w'.ownsRow _ _ _ _ _ _
    rw [flat_app]; exact h2
end Go.Proofs.Ytpecgkkhjkfmmaa.P
