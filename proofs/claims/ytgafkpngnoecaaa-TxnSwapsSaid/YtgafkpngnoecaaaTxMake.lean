/- Questions and deeds that are made: the program's way, and the document's. -/
import Derived.Test.YtgafkpngnoecaaaTxPure
import Derived.Test.YtgafkpngnoecaaaMvApply
namespace Go.Proofs.Ytgafkpngnoecaaa.P
open Go.RowKit Go.Sort
set_option maxHeartbeats 1000000
set_option linter.unusedVariables false
set_option linter.unusedSimpArgs false
set_option maxRecDepth 100000

abbrev madeC (k : ByteArray) (rev : Int) : Cm := ⟨k, 1, 1, rev, ⟨#[]⟩⟩
abbrev putT (k v : ByteArray) (l : Int) : Tx := ⟨[madeC k 0], [⟨false, k, v, l⟩], []⟩
abbrev dropT (k : ByteArray) (rev : Int) : Tx := ⟨[madeC k rev], [⟨true, k, ⟨#[]⟩, 0⟩], []⟩
def TxTo (t : Tx) (w : World) (e : Ending) (w' : World) : Prop := ∃ A n c B m d C o e1, e = .returned (t.agg A n c B m d C o e1) ∧ TxAt w' t A n c B m d C o e1 ∧ Below w.heap.size w w'
theorem cms_one {w : World} {g : Nat} {x : Cm} (h : w.heap[g]? = some (x.obj 56)) (ok : x.ok) : Cms w (some ⟨g, 0, none⟩) 1 1 [x] := by
  refine ⟨⟨rfl, Nat.le_refl _, by unfold maxLen; omega, fun _ => ⟨_, rfl, ?_, fun i y hy => ?_⟩, fun h => by cases h⟩, fun y hy => by simp at hy; subst hy; exact ok⟩
  · rcases Nat.lt_or_ge g w.heap.size with hlt | hge
    · exact hlt
    · rw [Array.getElem?_eq_none hge] at h; cases h
  · cases i with
    | zero =>
      simp at hy; subst hy
      intro j v hv
      have e0 : (⟨g, 0, none⟩ : Addr).add (0 * 5) = ⟨g, 0, none⟩ := by simp [Addr.add]
      rw [e0]
      have key : w.cell? ⟨g, j, none⟩ = some v := by
        rw [World.cell?]; simp only [h]
        simpa [Cm.cells] using hv
      unfold subA
      split
      · rename_i hj; subst hj; exact key
      · simpa using key
    | succ i => simp at hy
theorem mus_one {w : World} {g : Nat} {x : Mu} (h : w.heap[g]? = some (x.obj 67)) (ok : x.ok) : Mus w (some ⟨g, 0, none⟩) 1 1 [x] := by
  refine ⟨rfl, Nat.le_refl _, by unfold maxLen; omega, fun y hy => by simp at hy; subst hy; exact ok, fun _ => ⟨_, rfl, ?_, fun i y hy => ?_⟩, fun h => by cases h⟩
  · rcases Nat.lt_or_ge g w.heap.size with hlt | hge
    · exact hlt
    · rw [Array.getElem?_eq_none hge] at h; cases h
  · cases i with
    | zero =>
      simp at hy; subst hy
      have e0 : (⟨g, 0, none⟩ : Addr).add (0 * 4) = ⟨g, 0, none⟩ := by simp [Addr.add]
      rw [e0]
      constructor <;> simp [World.cell?, h]
    | succ i => simp at hy
theorem empty_ok : (⟨#[]⟩ : ByteArray).size ≤ maxLen := by simp [ByteArray.size]
theorem madeC_ok {k : ByteArray} {rev : Int} (hk : k.size ≤ maxLen) (hr : inI rev) : (madeC k rev).ok := ⟨hk, (⟨by decide, by decide⟩ : inI 1), (⟨by decide, by decide⟩ : inI 1), hr, empty_ok⟩
abbrev set3 (w : World) (g : Nat) (v0 v1 v2 : Value) : World := ((w.setCell ⟨g, 0, none⟩ v0).setCell ⟨g, 1, none⟩ v1).setCell ⟨g, 2, none⟩ v2
theorem set3_size (w : World) (g : Nat) (v0 v1 v2 : Value) : (set3 w g v0 v1 v2).heap.size = w.heap.size := by simp [set3, World.setCell]
theorem own_after1 (w : World) (g : Nat) (v0 v1 v2 : Value) (cs : Array Value) (t : TypeId) (o : Obj) : Own (((set3 w g v0 v1 v2).alloc (.cells cs t)).alloc o) w.heap.size t cs := by
  have h := (own_new (set3 w g v0 v1 v2) cs t).alloc o
  rwa [set3_size] at h
theorem own_after2 (w : World) (g : Nat) (v0 v1 v2 : Value) (cs : Array Value) (t : TypeId) (o : Obj) : Own (((set3 w g v0 v1 v2).alloc o).alloc (.cells cs t)) (w.heap.size + 1) t cs := by
  have h := own_new2 (set3 w g v0 v1 v2) o cs t
  rwa [set3_size] at h
theorem below_set3 {B g : Nat} {w w2 : World} (h : Below B w w2) (hg : B ≤ g) (v0 v1 v2 : Value) : Below B w (set3 w2 g v0 v1 v2) :=
  ((h.setCell (p := ⟨g, 0, none⟩) hg _).setCell (p := ⟨g, 1, none⟩) hg _).setCell (p := ⟨g, 2, none⟩) hg _
theorem made_any (k : ByteArray) (rev : Int) (w : World) : Calls Try.prog 34 #[.string k, .int .i64 rev] w fun e w' => e = .returned (madeC k rev).agg ∧ Below w.heap.size w w' := by
  go_enter Try.func34, Try.ntmps34
  go_wp2
  exact bodyPost_ret (v := (madeC k rev).agg) (by simp [results, Try.results34, go_sem]) rfl ⟨rfl, new1 w _⟩
theorem mader_any (k : ByteArray) (rev : Int) (w : World) : Calls Try.prog 35 #[.string k, .int .i64 rev] w fun e w' => e = .returned (madeC k rev).agg ∧ Below w.heap.size w w' := by
  go_enter Try.func35, Try.ntmps35
  go_wp2
  exact bodyPost_ret (v := (madeC k rev).agg) (by simp [results, Try.results35, go_sem]) rfl ⟨rfl, new1 w _⟩
theorem absentr_any (k : ByteArray) (w : World) : Calls Try.prog 33 #[.string k] w fun e w' => e = .returned (madeC k 0).agg ∧ Below w.heap.size w w' := by
  go_enter Try.func33, Try.ntmps33
  go_wp2
  exact bodyPost_ret (v := (madeC k 0).agg) (by simp [results, Try.results33, go_sem]) rfl ⟨rfl, new1 w _⟩
theorem absent_any (k : ByteArray) (w : World) : Calls Try.prog 32 #[.string k] w fun e w' => e = .returned (madeC k 0).agg ∧ Below w.heap.size w w' := by
  have R0 := Lib.hid (own_new w #[.string ⟨#[]⟩, .int .i64 0, .int .i64 0, .int .i64 0, .string ⟨#[]⟩] 56)
  go_enter Try.func32, Try.ntmps32
  go_wp2_with fail
  refine (made_any k 0 _).mono ?_; rintro e w1 ⟨rfl, hb⟩
  have R1 := Lib.hid (R0.out.below hb)
  have B1 := Lib.hid (then_ (new1 w (.cells #[.string ⟨#[]⟩, .int .i64 0, .int .i64 0, .int .i64 0, .string ⟨#[]⟩] 56)) hb)
  clear hb
  have f := R1.out.frozen
  have r0 := R1.out.cell 0 _ rfl
  have r1 := R1.out.cell 1 _ rfl
  have r2 := R1.out.cell 2 _ rfl
  have r3 := R1.out.cell 3 _ rfl
  have r4 := R1.out.cell 4 _ rfl
  go_wp2
  refine bodyPost_ret (v := (madeC k 0).agg) (by simp [results, Try.results32, go_sem, r0, r1, r2, r3, r4]) rfl ⟨rfl, ?_⟩
  exact ((((B1.out.setCell (p := ⟨w.heap.size, 0, none⟩) (Nat.le_refl _) _).setCell (p := ⟨w.heap.size, 1, none⟩) (Nat.le_refl _) _).setCell (p := ⟨w.heap.size, 2, none⟩) (Nat.le_refl _) _).setCell (p := ⟨w.heap.size, 3, none⟩) (Nat.le_refl _) _).setCell (p := ⟨w.heap.size, 4, none⟩) (Nat.le_refl _) _
theorem put_any (k v : ByteArray) (l : Int) (w : World) (hk : k.size ≤ maxLen) (hv : v.size ≤ maxLen) (hl : inI l) : Calls Try.prog 28 #[.string k, .string v, .int .i64 l] w (TxTo (putT k v l) w) := by
  have R0 := Lib.hid (own_new w #[.slice none 0 0, .slice none 0 0, .slice none 0 0] 45)
  have OKC := Lib.hid (madeC_ok (rev := 0) hk (⟨by decide, by decide⟩ : inI 0))
  have OKM : Hid (Mu.ok ⟨false, k, v, l⟩) := Lib.hid ⟨hk, hv, hl⟩
  clear hk hv hl
  go_enter Try.func28, Try.ntmps28
  go_wp2_with fail
  refine (absent_any k _).mono ?_; rintro e w1 ⟨rfl, hb⟩
  have R1 := Lib.hid (R0.out.below hb)
  have B1 := Lib.hid (then_ (new1 w (.cells #[.slice none 0 0, .slice none 0 0, .slice none 0 0] 45)) hb)
  have hlr := R1.out.lt
  clear hb
  have f := R1.out.frozen
  have r0 := R1.out.cell 0 _ rfl
  have r1 := R1.out.cell 1 _ rfl
  have r2 := R1.out.cell 2 _ rfl
  go_wp2
  refine bodyPost_ret (v := (Tx.agg (putT k v l) (some ⟨w1.heap.size, 0, none⟩) 1 1 (some ⟨w1.heap.size + 1, 0, none⟩) 1 1 none 0 0)) (by simp [results, Try.results28, go_sem, r0, r1, r2, hlr, Nat.ne_of_lt hlr, Nat.ne_of_gt hlr, Nat.ne_of_lt (Nat.lt_succ_of_lt hlr), Nat.ne_of_gt (Nat.lt_succ_of_lt hlr)]) rfl ⟨_, _, _, _, _, _, _, _, _, rfl, ⟨?_, ?_, Mus.bare _⟩, ?_⟩
  · exact cms_one (x := (madeC k 0)) (own_after1 w1 _ _ _ _ _ 56 _).ex OKC.out
  · exact mus_one (x := ⟨false, k, v, l⟩) (own_after2 w1 _ _ _ _ _ 67 _).ex OKM.out
  · exact then_ (then_ (below_set3 B1.out (Nat.le_refl _) _ _ _) (new1 _ _)) (new1 _ _)
theorem drop_any (k : ByteArray) (rev : Int) (w : World) (hk : k.size ≤ maxLen) (hl : inI rev) : Calls Try.prog 30 #[.string k, .int .i64 rev] w (TxTo (dropT k rev) w) := by
  have R0 := Lib.hid (own_new w #[.slice none 0 0, .slice none 0 0, .slice none 0 0] 45)
  have OKC := Lib.hid (madeC_ok (rev := rev) hk hl)
  have OKM : Hid (Mu.ok ⟨true, k, ⟨#[]⟩, 0⟩) := Lib.hid ⟨hk, empty_ok, (⟨by decide, by decide⟩ : inI 0)⟩
  clear hk hl
  go_enter Try.func30, Try.ntmps30
  go_wp2_with fail
  refine (made_any k rev _).mono ?_; rintro e w1 ⟨rfl, hb⟩
  have R1 := Lib.hid (R0.out.below hb)
  have B1 := Lib.hid (then_ (new1 w (.cells #[.slice none 0 0, .slice none 0 0, .slice none 0 0] 45)) hb)
  have hlr := R1.out.lt
  clear hb
  have f := R1.out.frozen
  have r0 := R1.out.cell 0 _ rfl
  have r1 := R1.out.cell 1 _ rfl
  have r2 := R1.out.cell 2 _ rfl
  go_wp2
  refine bodyPost_ret (v := (Tx.agg (dropT k rev) (some ⟨w1.heap.size, 0, none⟩) 1 1 (some ⟨w1.heap.size + 1, 0, none⟩) 1 1 none 0 0)) (by simp [results, Try.results30, go_sem, r0, r1, r2, hlr, Nat.ne_of_lt hlr, Nat.ne_of_gt hlr, Nat.ne_of_lt (Nat.lt_succ_of_lt hlr), Nat.ne_of_gt (Nat.lt_succ_of_lt hlr)]) rfl ⟨_, _, _, _, _, _, _, _, _, rfl, ⟨?_, ?_, Mus.bare _⟩, ?_⟩
  · exact cms_one (x := (madeC k rev)) (own_after1 w1 _ _ _ _ _ 56 _).ex OKC.out
  · exact mus_one (x := ⟨true, k, ⟨#[]⟩, 0⟩) (own_after2 w1 _ _ _ _ _ 67 _).ex OKM.out
  · exact then_ (then_ (below_set3 B1.out (Nat.le_refl _) _ _ _) (new1 _ _)) (new1 _ _)
theorem putr_any (k v : ByteArray) (l : Int) (w : World) (hk : k.size ≤ maxLen) (hv : v.size ≤ maxLen) (hl : inI l) : Calls Try.prog 29 #[.string k, .string v, .int .i64 l] w (TxTo (putT k v l) w) := by
  have R0 := Lib.hid (own_new w #[.slice none 0 0, .slice none 0 0, .slice none 0 0] 45)
  have OKC := Lib.hid (madeC_ok (rev := 0) hk (⟨by decide, by decide⟩ : inI 0))
  have OKM : Hid (Mu.ok ⟨false, k, v, l⟩) := Lib.hid ⟨hk, hv, hl⟩
  clear hk hv hl
  go_enter Try.func29, Try.ntmps29
  go_wp2_with fail
  refine (absentr_any k _).mono ?_; rintro e w1 ⟨rfl, hb⟩
  have R1 := Lib.hid (R0.out.below hb)
  have B1 := Lib.hid (then_ (new1 w (.cells #[.slice none 0 0, .slice none 0 0, .slice none 0 0] 45)) hb)
  have hlr := R1.out.lt
  clear hb
  have f := R1.out.frozen
  have r0 := R1.out.cell 0 _ rfl
  have r1 := R1.out.cell 1 _ rfl
  have r2 := R1.out.cell 2 _ rfl
  go_wp2
  refine bodyPost_ret (v := (Tx.agg (putT k v l) (some ⟨w1.heap.size, 0, none⟩) 1 1 (some ⟨w1.heap.size + 1, 0, none⟩) 1 1 none 0 0)) (by simp [results, Try.results29, go_sem, r0, r1, r2, hlr, Nat.ne_of_lt hlr, Nat.ne_of_gt hlr, Nat.ne_of_lt (Nat.lt_succ_of_lt hlr), Nat.ne_of_gt (Nat.lt_succ_of_lt hlr)]) rfl ⟨_, _, _, _, _, _, _, _, _, rfl, ⟨?_, ?_, Mus.bare _⟩, ?_⟩
  · exact cms_one (x := (madeC k 0)) (own_after1 w1 _ _ _ _ _ 56 _).ex OKC.out
  · exact mus_one (x := ⟨false, k, v, l⟩) (own_after2 w1 _ _ _ _ _ 67 _).ex OKM.out
  · exact then_ (then_ (below_set3 B1.out (Nat.le_refl _) _ _ _) (new1 _ _)) (new1 _ _)
theorem dropr_any (k : ByteArray) (rev : Int) (w : World) (hk : k.size ≤ maxLen) (hl : inI rev) : Calls Try.prog 31 #[.string k, .int .i64 rev] w (TxTo (dropT k rev) w) := by
  have R0 := Lib.hid (own_new w #[.slice none 0 0, .slice none 0 0, .slice none 0 0] 45)
  have OKC := Lib.hid (madeC_ok (rev := rev) hk hl)
  have OKM : Hid (Mu.ok ⟨true, k, ⟨#[]⟩, 0⟩) := Lib.hid ⟨hk, empty_ok, (⟨by decide, by decide⟩ : inI 0)⟩
  clear hk hl
  go_enter Try.func31, Try.ntmps31
  go_wp2_with fail
  refine (mader_any k rev _).mono ?_; rintro e w1 ⟨rfl, hb⟩
  have R1 := Lib.hid (R0.out.below hb)
  have B1 := Lib.hid (then_ (new1 w (.cells #[.slice none 0 0, .slice none 0 0, .slice none 0 0] 45)) hb)
  have hlr := R1.out.lt
  clear hb
  have f := R1.out.frozen
  have r0 := R1.out.cell 0 _ rfl
  have r1 := R1.out.cell 1 _ rfl
  have r2 := R1.out.cell 2 _ rfl
  go_wp2
  refine bodyPost_ret (v := (Tx.agg (dropT k rev) (some ⟨w1.heap.size, 0, none⟩) 1 1 (some ⟨w1.heap.size + 1, 0, none⟩) 1 1 none 0 0)) (by simp [results, Try.results31, go_sem, r0, r1, r2, hlr, Nat.ne_of_lt hlr, Nat.ne_of_gt hlr, Nat.ne_of_lt (Nat.lt_succ_of_lt hlr), Nat.ne_of_gt (Nat.lt_succ_of_lt hlr)]) rfl ⟨_, _, _, _, _, _, _, _, _, rfl, ⟨?_, ?_, Mus.bare _⟩, ?_⟩
  · exact cms_one (x := (madeC k rev)) (own_after1 w1 _ _ _ _ _ 56 _).ex OKC.out
  · exact mus_one (x := ⟨true, k, ⟨#[]⟩, 0⟩) (own_after2 w1 _ _ _ _ _ 67 _).ex OKM.out
  · exact then_ (then_ (below_set3 B1.out (Nat.le_refl _) _ _ _) (new1 _ _)) (new1 _ _)
end Go.Proofs.Ytgafkpngnoecaaa.P
