/- For every list of things, every list of events, every revision and every place the law HistParts answers true: what becomes of a list part by part is what becomes of it; events above the revision are of no moment; all have the empty prefix. No condition. -/
import Derived.Test.YtlpnnbjdolodcaaKvOpen
import Derived.Test.YtlpnnbjdolodcaaHistLive
import Derived.Test.YtlpnnbjdolodcaaRows
import Derived.Deep.RegionHeld3
import Derived.Test.YtlpnnbjdolodcaaKeyTwo
namespace Go.Proofs.Ytlpnnbjdolodcaa.histParts
open Go.ChangeShapes Go.WideShapes Go.ChangeAt Go.RowKit Go.Proofs.Ytlpnnbjdolodcaa.P
open Go.ChangeMaps (open_string shut_string)
set_option linter.unusedVariables false
set_option linter.unusedSimpArgs false
set_option maxHeartbeats 2000000
set_option maxRecDepth 100000

theorem ev_info : (Try.prog.info? 38).map (fun i => (i.zero, i.size, i.bytes)) = some (some (.agg #[.int .i64 0, .bool false, .string ⟨#[]⟩, .string ⟨#[]⟩, .int .i64 0, .int .i64 0, .int .i64 0, .int .i64 0]), 8, 80) := by kernel_rfl
theorem own_evs {w : World} {bs n c : Nat} {A : Option Addr} {l : List Ev} (h : w.ownsRow bs 38 8 (.slice A n c) n (cellsE l)) (ok : ∀ x ∈ l, x.ok) : Evs w A n c l := by
  have hlen : l.length = n := by have := h.1; rw [cellsE_len] at this; omega
  rcases h.2 with ⟨hv, h0⟩ | ⟨g, cap, cur, hv, hb, hg, hnc, hcm, hcs, htake⟩
  · injection hv with e1 e2 e3
    subst e1 e2 e3
    have : l = [] := List.eq_nil_of_length_eq_zero hlen
    subst this
    exact ⟨rfl, Nat.le_refl _, Nat.zero_le _, fun _ h => by simp at h, fun h => absurd h (by omega), fun _ => rfl⟩
  · injection hv with e1 e2 e3
    subst e1 e3
    exact evs_of_row hg hlen hnc hcm htake ok
theorem evs_take {w : World} {A : Option Addr} {n c k : Nat} {l : List Ev} (h : Evs w A n c l) (hk : k ≤ n) : Evs w A k c (l.take k) :=
  ⟨by rw [List.length_take, h.len]; omega, by have := h.le; omega, h.max, fun x hx => h.ok x (List.mem_of_mem_take hx), fun h0 => by
    obtain ⟨a, e, hlt, hx⟩ := h.rd (by omega)
    refine ⟨a, e, hlt, fun i x hi => hx i x ?_⟩
    rw [List.getElem?_take] at hi
    split at hi
    · exact hi
    · exact absurd hi (by simp), h.nil⟩
theorem evs_drop {w : World} {a : Addr} {n c k : Nat} {l : List Ev} (h : Evs w (some a) n c l) (hk : k ≤ n) : Evs w (some (a.add (k * 8))) (n - k) (c - k) (l.drop k) :=
  ⟨by rw [List.length_drop, h.len], by have := h.le; omega, by have := h.max; omega, fun x hx => h.ok x (List.mem_of_mem_drop hx), fun h0 => by
    obtain ⟨a', e, hlt, hx⟩ := h.rd (by omega)
    obtain rfl := Option.some.inj e
    refine ⟨_, rfl, by rw [P.block_add]; exact hlt, fun i x hi => ?_⟩
    rw [add_twice, ← Nat.add_mul]
    exact hx (k + i) x (by rwa [List.getElem?_drop] at hi), fun h => by cases h⟩
theorem evs_none {w : World} {A : Option Addr} : Evs w A 0 0 [] := ⟨rfl, Nat.le_refl _, Nat.zero_le _, fun _ h => by simp at h, fun h => absurd h (by omega), fun _ => rfl⟩
def lowL (l : List Ev) (rev : Int) : List Ev := l.filter fun e => decide (e.rev ≤ rev)
theorem low_step (l : List Ev) (rev : Int) (j : Nat) (x : Ev) (h : l[j]? = some x) : lowL (l.take (j + 1)) rev = if x.rev ≤ rev then lowL (l.take j) rev ++ [x] else lowL (l.take j) rev := by
  rw [take_succ l j x h]
  unfold lowL
  rw [List.filter_append, List.filter_cons]
  by_cases hx : x.rev ≤ rev <;> simp [hx]
theorem low_len (l : List Ev) (rev : Int) (j : Nat) : (lowL (l.take j) rev).length ≤ j := Nat.le_trans (List.length_filter_le _ _) (List.length_take_le _ _)
theorem newsE {w : World} {B : Nat} {x : Ev} (hb : w.heap[B]? = some (x.obj 38)) : ∀ j u, (cellsE [x])[j]? = some u → w.cell? ((⟨B, 0, none⟩ : Addr).add j) = some u := by
  intro j u hu
  have hadd : (⟨B, 0, none⟩ : Addr).add j = ⟨B, j, none⟩ := by unfold Addr.add; split <;> simp_all
  rw [hadd, cell_of_row w B j _ 38 (0, 0) hb]
  simpa [cellsE, Ev.cells] using hu
theorem cellsE_one {l : List Ev} {v : Value} (h : v ∈ cellsE l) : v.oneCell' = true := by
  obtain ⟨x, _, hx⟩ := List.mem_flatMap.1 h
  simp [Ev.cells] at hx
  rcases hx with rfl | rfl | rfl | rfl | rfl | rfl | rfl | rfl <;> rfl

theorem walk_gt (w : World) (A0 : Option Addr) (n0 c0 : Nat) (l0 : List KV) (a : Addr) (n1 c1 : Nat) (l1 : List Ev) (a2 : Int) (k : Nat) (k0 : KVs w A0 n0 c0 l0) (k1 : Evs w (some a) n1 c1 l1) (hn : n0 ≤ 40) (hk : k ≤ n1) (hne : ¬ (c1 = k)) (hn1 : n1 ≤ 40) (hf : fewB 40 l0 = true) (hg : fewE 40 l1 = true) :
    Calls Try.prog 7 #[.slice A0 n0 c0, .slice (some a) n1 c1, .agg #[.int .i64 a2, .int .i64 k]] w fun e w' => e = .returned (.bool true) ∧ Below w.heap.size w w' := by
  have K := Lib.hid k0
  have E := Lib.hid k1
  have HF := Lib.hid hf
  have HG := Lib.hid hg
  have HL := Lib.hid k0.len
  have HL1 := Lib.hid k1.len
  obtain ⟨i0, hi0, hz0, hz1, hz2⟩ := info_parts ev_info
  have hc1 : c1 ≤ 9223372036854775807 := by have := k1.max; unfold maxLen at this; omega
  have hnc : n1 ≤ c1 := k1.le
  have hkc : ¬ (c1 = k) := hne
  clear k0 k1 hf hg
  have hk1 : (k : Int) ≤ n1 := by omega
  have hk2 : (k : Int) ≤ c1 := by omega
  have hk0 : (0 : Int) ≤ (k : Int) := by omega
  go_enter Try.func7, Try.ntmps7
  go_wp2_with fail
  go_quiet (fail)
  have B0 : Hid (Below w.heap.size w ((w.alloc (.cells #[.int .i64 a2, .int .i64 k] 43)).drewN nq)) := Lib.hid (below_drewN (new1 _ _) _)
  go_wp2_with fail
  refine (few_any A0 n0 c0 l0 40 _ (K.out.keep B0.out) (by omega)).mono ?_; rintro e w' ⟨rfl, rfl⟩
  rw [HF.out]
  go_wp2_with fail
  refine (fewe_any (some a) n1 c1 l1 40 _ (E.out.keep B0.out) (by omega)).mono ?_; rintro e w' ⟨rfl, rfl⟩
  rw [HG.out]
  go_wp2_with fail
  refine (fold_any A0 n0 c0 l0 (some a) n1 c1 l1 a2 _ (K.out.keep B0.out) (E.out.keep B0.out) (by omega)).mono ?_; rintro e w2 ⟨A9, n9, c9, rfl, h, hb⟩
  have ALL2 := Lib.hid h
  have B2 := Lib.hid (then_ B0.out hb)
  clear h hb
  have hn9 : n9 ≤ 1000 := by have h1 := foldL_len l1 a2 l0; have h2 := ALL2.out.len; have h3 := HL.out; have h4 := HL1.out; omega
  have K2 := Lib.hid (K.out.keep B2.out)
  have E2 := Lib.hid (E.out.keep B2.out)
  go_wp2_with fail
  have tok3 : True := trivial
  have tok4 : True := trivial
  have tok5 : True := trivial
  go_region_held3 (fun w' => True) (trivial) (first
    | (go_at_call 21; have _t := tok3; clear _t tok3; refine (fold_any A0 n0 c0 l0 (some a) k c1 (l1.take k) a2 _ (K2.out.keep (new_drew _)) ((evs_take E2.out (by omega)).keep (new_drew _)) (by omega)).mono ?_; rintro e w3 ⟨A3, n3, c3, rfl, h, hb⟩; have F3 := Lib.hid h; have S3 : Hid (Below w2.heap.size w2 w3) := Lib.hid (then_ (new_drew _) hb); have E3 := Lib.hid (E2.out.keep S3.out); clear h hb; have hn3 : n3 ≤ 1000 := (by have h1 := foldL_len (l1.take k) a2 l0; have h2 := F3.out.len; have h3 := HL.out; have h5 := List.length_take_le k l1; omega))
    | (go_at_call 21; have _t := tok4; clear _t tok4; refine (fold_any A3 n3 c3 (foldL l0 (l1.take k) a2) (some (a.add (k * 8))) (n1 - k) (c1 - k) (l1.drop k) a2 _ F3.out (evs_drop E3.out (by omega)) (by omega)).mono ?_; rintro e w4 ⟨A4, n4, c4, rfl, h, hb⟩; rw [← foldL_app, List.take_append_drop] at h; obtain rfl : n9 = n4 := ALL2.out.len.symm.trans h.len; have F4 := Lib.hid h; have S4 : Hid (Below w2.heap.size w2 w4) := Lib.hid (then_ S3.out hb); have ALL4 := Lib.hid (ALL2.out.keep S4.out); clear h hb S3)
    | (go_at_call 15; have _t := tok5; clear _t tok5; refine (kvs_same A9 A4 n9 c9 c4 _ _ ALL4.out F4.out (by omega)).mono ?_; rintro e w5 ⟨rfl, hb⟩; have S5 : Hid (Below w2.heap.size w2 w5) := Lib.hid (then_ S4.out hb); clear hb S4 ALL4 F4))
  have ALL5 := Lib.hid (ALL2.out.keep S5.out)
  have K5 := Lib.hid (K2.out.keep S5.out)
  have E5 := Lib.hid (E2.out.keep S5.out)
  have B5 := Lib.hid (then_ B2.out S5.out)
  clear F3 E3 K2 E2 ALL2 S5 B2 K E
  go_wp2
  go_loopw [10, 11] (fun v i wr => ∃ (j : Nat) (A' : Option Addr) (k' c' : Nat), j ≤ n1 ∧ i = .int .i64 j ∧ v = .slice A' k' c' ∧ Hid (k' = (lowL (l1.take j) a2).length) ∧
      wr.ownsRow w5.heap.size 38 8 (.slice A' k' c') k' (cellsE (lowL (l1.take j) a2)) ∧ Below w5.heap.size w5 wr) (fun _ i _ => n1 - (intOf i).toNat)
  case atStart => exact ⟨0, none, 0, 0, Nat.zero_le _, rfl, rfl, rfl, World.ownsRow_nil _ _ _ _, Below.refl _ _⟩
  case round =>
    obtain ⟨j, A', k', c', hj, rfl, rfl, hk', hown, hbel⟩ := hrel
    have HO := Lib.hid hown
    have HB := Lib.hid hbel
    clear hown hbel
    by_cases hlt : j < n1
    · obtain ⟨a', x, ea, hbl, hx, hok, hc⟩ := (E5.out.keep HB.out).at_ hlt
      obtain rfl := Option.some.inj ea
      obtain ⟨d0, d1, d2, d3, d4, d5, d6, d7⟩ := hc
      have HX := Lib.hid hx
      have HS := Lib.hid (low_step l1 a2 j x hx)
      have hkl : k' ≤ 40 := by have h1 := low_len l1 a2 j; have h2 := hk'.out; omega
      clear hx hok hbl ea
      by_cases hr : x.rev ≤ a2
      · have HE : Hid (lowL (l1.take (j + 1)) a2 = lowL (l1.take j) a2 ++ [x]) := Lib.hid (by rw [HS.out, if_pos hr])
        go_wp2_with (at_builtin; refine wpList_append_own_at _ rfl _ _ 33 rfl w5.heap.size 38 i0 _ 8 80 Try.underlying33 hi0 hz0 hz1 hz2 rfl (by omega) (.slice A' k' c') k' (cellsE (lowL (l1.take j) a2)) rfl (HO.out.alloc _) ⟨wr.heap.size, 0, none⟩ 1 1 (cellsE [x]) rfl rfl (newsE (heap_alloc_new wr _)) (fun u hu => cellsE_one hu) (by simp only [maxLen]; omega) (by omega) (by have := HB.out.size; simp; omega) ?_; intro v1 w6 hown1 hg1 hnil1 hat1)
        have hres : ∃ A1 c1', v1 = .slice A1 (k' + 1) c1' ∧ w6.ownsRow w5.heap.size 38 8 (.slice A1 (k' + 1) c1') (k' + 1) (cellsE (lowL (l1.take (j + 1)) a2)) ∧ Below w5.heap.size w5 w6 := by
          have h3 : cellsE (lowL (l1.take j) a2) ++ cellsE [x] = cellsE (lowL (l1.take (j + 1)) a2) := by rw [HE.out]; simp [cellsE]
          rw [h3] at hown1
          have hf : ∃ A1 c1', v1 = .slice A1 (k' + 1) c1' := by
            rcases hown1.2 with ⟨rfl, h0⟩ | ⟨g, cap, cur, rfl, _⟩
            · omega
            · exact ⟨_, _, rfl⟩
          obtain ⟨A1, c1', rfl⟩ := hf
          exact ⟨A1, c1', rfl, hown1, (HB.out.alloc HB.out.size _).grown hg1 (by have := HB.out.size; simp; omega) (fun g hg => (HO.out.lt g hg).1)⟩
        obtain ⟨A1, c1', rfl, hown2, hb2⟩ := hres
        have HO2 := Lib.hid hown2
        have HB2 := Lib.hid hb2
        clear hown1 hg1 hnil1 hat1 hown2 hb2
        go_wp2
        go_roundw
        case rel => exact ⟨j + 1, A1, k' + 1, c1', by omega, by go_num, rfl, by show _ = _; rw [HE.out, List.length_append, ← hk'.out]; rfl, HO2.out, HB2.out⟩
        case measure => simp [intOf]; omega
      · have HE : Hid (lowL (l1.take (j + 1)) a2 = lowL (l1.take j) a2) := Lib.hid (by rw [HS.out, if_neg hr])
        go_wp2
        go_roundw
        case rel => exact ⟨j + 1, A', k', c', by omega, by go_num, rfl, by show _ = _; rw [HE.out]; exact hk'.out, by rw [HE.out]; exact HO.out, HB.out⟩
        case measure => simp [intOf]; omega
    · obtain rfl : j = n1 := by omega
      have HE : Hid (lowL (l1.take j) a2 = lowL l1 a2) := Lib.hid (by rw [List.take_of_length_le (by rw [HL1.out]; omega)])
      have EL := Lib.hid (own_evs HO.out (fun x hx => E5.out.ok x (List.mem_of_mem_take (List.mem_filter.1 hx).1)))
      have hkl : k' ≤ 40 := by have h1 := low_len l1 a2 j; have h2 := hk'.out; omega
      have ALL6 := Lib.hid (ALL5.out.keep HB.out)
      go_wp2_with fail
      refine (fold_any A0 n0 c0 l0 A' k' c' _ a2 _ (K5.out.keep HB.out) EL.out (by omega)).mono ?_; rintro e w7 ⟨A7, n7, c7, rfl, h, hb⟩
      rw [HE.out, show foldL l0 (lowL l1 a2) a2 = foldL l0 l1 a2 from foldL_low l1 a2 l0] at h
      obtain rfl : n9 = n7 := ALL5.out.len.symm.trans h.len
      have F7 := Lib.hid h
      have ALL7 := Lib.hid (ALL6.out.keep hb)
      have B7 := Lib.hid (then_ (then_ B5.out HB.out) hb)
      clear h hb
      go_wp2_with fail
      refine (kvs_same A9 A7 n9 c9 c7 _ _ ALL7.out F7.out (by omega)).mono ?_; rintro e w8 ⟨rfl, hb⟩
      have ALL8 := Lib.hid (ALL7.out.keep hb)
      have B8 := Lib.hid (then_ B7.out hb)
      clear hb
      go_wp2_with fail
      refine (From_any A9 n9 c9 _ ⟨#[]⟩ _ ALL8.out (by omega) (by simp [maxLen, ByteArray.size])).mono ?_; rintro e w10 ⟨A10, n10, c10, rfl, h, hb⟩
      rw [fromL_nil _ _ (by rw [ByteArray.toList_eq])] at h
      obtain rfl : n9 = n10 := ALL5.out.len.symm.trans h.len
      have F10 := Lib.hid h
      have ALL10 := Lib.hid (ALL8.out.keep hb)
      have B10 := Lib.hid (then_ B8.out hb)
      clear h hb
      go_wp2_with fail
      refine (kvs_same A10 A9 n9 c10 c9 _ _ F10.out ALL10.out (by omega)).mono ?_; rintro e w11 ⟨rfl, hb⟩
      have B11 := Lib.hid (then_ B10.out hb)
      clear hb
      go_wp2_with fail
      refine (live_any _).mono ?_; rintro e w12 ⟨rfl, hb⟩
      have B12 := Lib.hid (then_ B11.out hb)
      clear hb
      go_wp2
      go_ret
      exact ⟨rfl, B12.out⟩

theorem walk_eq (w : World) (A0 : Option Addr) (n0 c0 : Nat) (l0 : List KV) (a : Addr) (l1 : List Ev) (a2 : Int) (k : Nat) (k0 : KVs w A0 n0 c0 l0) (k1 : Evs w (some a) k k l1) (hn : n0 ≤ 40) (hn1 : k ≤ 40) (hf : fewB 40 l0 = true) (hg : fewE 40 l1 = true) :
    Calls Try.prog 7 #[.slice A0 n0 c0, .slice (some a) k k, .agg #[.int .i64 a2, .int .i64 k]] w fun e w' => e = .returned (.bool true) ∧ Below w.heap.size w w' := by
  have K := Lib.hid k0
  have E := Lib.hid k1
  have HF := Lib.hid hf
  have HG := Lib.hid hg
  have HL := Lib.hid k0.len
  have HL1 := Lib.hid k1.len
  obtain ⟨i0, hi0, hz0, hz1, hz2⟩ := info_parts ev_info
  clear k0 k1 hf hg
  have hk1 : (k : Int) ≤ k := by omega
  have hk0 : (0 : Int) ≤ (k : Int) := by omega
  go_enter Try.func7, Try.ntmps7
  go_wp2_with fail
  go_quiet (fail)
  have B0 : Hid (Below w.heap.size w ((w.alloc (.cells #[.int .i64 a2, .int .i64 k] 43)).drewN nq)) := Lib.hid (below_drewN (new1 _ _) _)
  go_wp2_with fail
  refine (few_any A0 n0 c0 l0 40 _ (K.out.keep B0.out) (by omega)).mono ?_; rintro e w' ⟨rfl, rfl⟩
  rw [HF.out]
  go_wp2_with fail
  refine (fewe_any (some a) k k l1 40 _ (E.out.keep B0.out) (by omega)).mono ?_; rintro e w' ⟨rfl, rfl⟩
  rw [HG.out]
  go_wp2_with fail
  refine (fold_any A0 n0 c0 l0 (some a) k k l1 a2 _ (K.out.keep B0.out) (E.out.keep B0.out) (by omega)).mono ?_; rintro e w2 ⟨A9, n9, c9, rfl, h, hb⟩
  have ALL2 := Lib.hid h
  have B2 := Lib.hid (then_ B0.out hb)
  clear h hb
  have hn9 : n9 ≤ 1000 := by have h1 := foldL_len l1 a2 l0; have h2 := ALL2.out.len; have h3 := HL.out; have h4 := HL1.out; omega
  have K2 := Lib.hid (K.out.keep B2.out)
  have E2 := Lib.hid (E.out.keep B2.out)
  go_wp2_with fail
  have tok3 : True := trivial
  have tok4 : True := trivial
  have tok5 : True := trivial
  go_region_held3 (fun w' => True) (trivial) (first
    | (go_at_call 21; have _t := tok3; clear _t tok3; refine (fold_any A0 n0 c0 l0 (some a) k k (l1.take k) a2 _ (K2.out.keep (new_drew _)) ((evs_take E2.out (Nat.le_refl _)).keep (new_drew _)) (by omega)).mono ?_; rintro e w3 ⟨A3, n3, c3, rfl, h, hb⟩; have F3 := Lib.hid h; have S3 : Hid (Below w2.heap.size w2 w3) := Lib.hid (then_ (new_drew _) hb); have E3 := Lib.hid (E2.out.keep S3.out); clear h hb; have hn3 : n3 ≤ 1000 := (by have h1 := foldL_len (l1.take k) a2 l0; have h2 := F3.out.len; have h3 := HL.out; have h5 := List.length_take_le k l1; omega))
    | (go_at_call 21; have _t := tok4; clear _t tok4; refine (fold_any A3 n3 c3 (foldL l0 (l1.take k) a2) (some a) 0 0 [] a2 _ F3.out (evs_none (A := some a)) (by omega)).mono ?_; rintro e w4 ⟨A4, n4, c4, rfl, h, hb⟩; rw [show foldL (foldL l0 (l1.take k) a2) [] a2 = foldL l0 l1 a2 by rw [List.take_of_length_le (by rw [HL1.out]; omega)]; rfl] at h; obtain rfl : n9 = n4 := ALL2.out.len.symm.trans h.len; have F4 := Lib.hid h; have S4 : Hid (Below w2.heap.size w2 w4) := Lib.hid (then_ S3.out hb); have ALL4 := Lib.hid (ALL2.out.keep S4.out); clear h hb S3)
    | (go_at_call 15; have _t := tok5; clear _t tok5; refine (kvs_same A9 A4 n9 c9 c4 _ _ ALL4.out F4.out (by omega)).mono ?_; rintro e w5 ⟨rfl, hb⟩; have S5 : Hid (Below w2.heap.size w2 w5) := Lib.hid (then_ S4.out hb); clear hb S4 ALL4 F4))
  have ALL5 := Lib.hid (ALL2.out.keep S5.out)
  have K5 := Lib.hid (K2.out.keep S5.out)
  have E5 := Lib.hid (E2.out.keep S5.out)
  have B5 := Lib.hid (then_ B2.out S5.out)
  clear F3 E3 K2 E2 ALL2 S5 B2 K E
  go_wp2
  go_loopw [10, 11] (fun v i wr => ∃ (j : Nat) (A' : Option Addr) (k' c' : Nat), j ≤ k ∧ i = .int .i64 j ∧ v = .slice A' k' c' ∧ Hid (k' = (lowL (l1.take j) a2).length) ∧
      wr.ownsRow w5.heap.size 38 8 (.slice A' k' c') k' (cellsE (lowL (l1.take j) a2)) ∧ Below w5.heap.size w5 wr) (fun _ i _ => k - (intOf i).toNat)
  case atStart => exact ⟨0, none, 0, 0, Nat.zero_le _, rfl, rfl, rfl, World.ownsRow_nil _ _ _ _, Below.refl _ _⟩
  case round =>
    obtain ⟨j, A', k', c', hj, rfl, rfl, hk', hown, hbel⟩ := hrel
    have HO := Lib.hid hown
    have HB := Lib.hid hbel
    clear hown hbel
    by_cases hlt : j < k
    · obtain ⟨a', x, ea, hbl, hx, hok, hc⟩ := (E5.out.keep HB.out).at_ hlt
      obtain rfl := Option.some.inj ea
      obtain ⟨d0, d1, d2, d3, d4, d5, d6, d7⟩ := hc
      have HX := Lib.hid hx
      have HS := Lib.hid (low_step l1 a2 j x hx)
      have hkl : k' ≤ 40 := by have h1 := low_len l1 a2 j; have h2 := hk'.out; omega
      clear hx hok hbl ea
      by_cases hr : x.rev ≤ a2
      · have HE : Hid (lowL (l1.take (j + 1)) a2 = lowL (l1.take j) a2 ++ [x]) := Lib.hid (by rw [HS.out, if_pos hr])
        go_wp2_with (at_builtin; refine wpList_append_own_at _ rfl _ _ 33 rfl w5.heap.size 38 i0 _ 8 80 Try.underlying33 hi0 hz0 hz1 hz2 rfl (by omega) (.slice A' k' c') k' (cellsE (lowL (l1.take j) a2)) rfl (HO.out.alloc _) ⟨wr.heap.size, 0, none⟩ 1 1 (cellsE [x]) rfl rfl (newsE (heap_alloc_new wr _)) (fun u hu => cellsE_one hu) (by simp only [maxLen]; omega) (by omega) (by have := HB.out.size; simp; omega) ?_; intro v1 w6 hown1 hg1 hnil1 hat1)
        have hres : ∃ A1 c1', v1 = .slice A1 (k' + 1) c1' ∧ w6.ownsRow w5.heap.size 38 8 (.slice A1 (k' + 1) c1') (k' + 1) (cellsE (lowL (l1.take (j + 1)) a2)) ∧ Below w5.heap.size w5 w6 := by
          have h3 : cellsE (lowL (l1.take j) a2) ++ cellsE [x] = cellsE (lowL (l1.take (j + 1)) a2) := by rw [HE.out]; simp [cellsE]
          rw [h3] at hown1
          have hf : ∃ A1 c1', v1 = .slice A1 (k' + 1) c1' := by
            rcases hown1.2 with ⟨rfl, h0⟩ | ⟨g, cap, cur, rfl, _⟩
            · omega
            · exact ⟨_, _, rfl⟩
          obtain ⟨A1, c1', rfl⟩ := hf
          exact ⟨A1, c1', rfl, hown1, (HB.out.alloc HB.out.size _).grown hg1 (by have := HB.out.size; simp; omega) (fun g hg => (HO.out.lt g hg).1)⟩
        obtain ⟨A1, c1', rfl, hown2, hb2⟩ := hres
        have HO2 := Lib.hid hown2
        have HB2 := Lib.hid hb2
        clear hown1 hg1 hnil1 hat1 hown2 hb2
        go_wp2
        go_roundw
        case rel => exact ⟨j + 1, A1, k' + 1, c1', by omega, by go_num, rfl, by show _ = _; rw [HE.out, List.length_append, ← hk'.out]; rfl, HO2.out, HB2.out⟩
        case measure => simp [intOf]; omega
      · have HE : Hid (lowL (l1.take (j + 1)) a2 = lowL (l1.take j) a2) := Lib.hid (by rw [HS.out, if_neg hr])
        go_wp2
        go_roundw
        case rel => exact ⟨j + 1, A', k', c', by omega, by go_num, rfl, by show _ = _; rw [HE.out]; exact hk'.out, by rw [HE.out]; exact HO.out, HB.out⟩
        case measure => simp [intOf]; omega
    · obtain rfl : j = k := by omega
      have HE : Hid (lowL (l1.take j) a2 = lowL l1 a2) := Lib.hid (by rw [List.take_of_length_le (by rw [HL1.out]; omega)])
      have EL := Lib.hid (own_evs HO.out (fun x hx => E5.out.ok x (List.mem_of_mem_take (List.mem_filter.1 hx).1)))
      have hkl : k' ≤ 40 := by have h1 := low_len l1 a2 j; have h2 := hk'.out; omega
      have ALL6 := Lib.hid (ALL5.out.keep HB.out)
      go_wp2_with fail
      refine (fold_any A0 n0 c0 l0 A' k' c' _ a2 _ (K5.out.keep HB.out) EL.out (by omega)).mono ?_; rintro e w7 ⟨A7, n7, c7, rfl, h, hb⟩
      rw [HE.out, show foldL l0 (lowL l1 a2) a2 = foldL l0 l1 a2 from foldL_low l1 a2 l0] at h
      obtain rfl : n9 = n7 := ALL5.out.len.symm.trans h.len
      have F7 := Lib.hid h
      have ALL7 := Lib.hid (ALL6.out.keep hb)
      have B7 := Lib.hid (then_ (then_ B5.out HB.out) hb)
      clear h hb
      go_wp2_with fail
      refine (kvs_same A9 A7 n9 c9 c7 _ _ ALL7.out F7.out (by omega)).mono ?_; rintro e w8 ⟨rfl, hb⟩
      have ALL8 := Lib.hid (ALL7.out.keep hb)
      have B8 := Lib.hid (then_ B7.out hb)
      clear hb
      go_wp2_with fail
      refine (From_any A9 n9 c9 _ ⟨#[]⟩ _ ALL8.out (by omega) (by simp [maxLen, ByteArray.size])).mono ?_; rintro e w10 ⟨A10, n10, c10, rfl, h, hb⟩
      rw [fromL_nil _ _ (by rw [ByteArray.toList_eq])] at h
      obtain rfl : n9 = n10 := ALL5.out.len.symm.trans h.len
      have F10 := Lib.hid h
      have ALL10 := Lib.hid (ALL8.out.keep hb)
      have B10 := Lib.hid (then_ B8.out hb)
      clear h hb
      go_wp2_with fail
      refine (kvs_same A10 A9 n9 c10 c9 _ _ F10.out ALL10.out (by omega)).mono ?_; rintro e w11 ⟨rfl, hb⟩
      have B11 := Lib.hid (then_ B10.out hb)
      clear hb
      go_wp2_with fail
      refine (live_any _).mono ?_; rintro e w12 ⟨rfl, hb⟩
      have B12 := Lib.hid (then_ B11.out hb)
      clear hb
      go_wp2
      go_ret
      exact ⟨rfl, B12.out⟩

theorem walk_none (w : World) (A0 : Option Addr) (n0 c0 : Nat) (l0 : List KV)  (l1 : List Ev) (a2 : Int)  (k0 : KVs w A0 n0 c0 l0) (k1 : Evs w none 0 0 l1) (hn : n0 ≤ 40) (hf : fewB 40 l0 = true) (hg : fewE 40 l1 = true) :
    Calls Try.prog 7 #[.slice A0 n0 c0, .slice none 0 0, .agg #[.int .i64 a2, .int .i64 0]] w fun e w' => e = .returned (.bool true) ∧ Below w.heap.size w w' := by
  have K := Lib.hid k0
  have E := Lib.hid k1
  have HF := Lib.hid hf
  have HG := Lib.hid hg
  have HL := Lib.hid k0.len
  have HL1 := Lib.hid k1.len
  obtain ⟨i0, hi0, hz0, hz1, hz2⟩ := info_parts ev_info
  clear k0 k1 hf hg
  go_enter Try.func7, Try.ntmps7
  go_wp2_with fail
  go_quiet (fail)
  have B0 : Hid (Below w.heap.size w ((w.alloc (.cells #[.int .i64 a2, .int .i64 0] 43)).drewN nq)) := Lib.hid (below_drewN (new1 _ _) _)
  go_wp2_with fail
  refine (few_any A0 n0 c0 l0 40 _ (K.out.keep B0.out) (by omega)).mono ?_; rintro e w' ⟨rfl, rfl⟩
  rw [HF.out]
  go_wp2_with fail
  refine (fewe_any none 0 0 l1 40 _ (E.out.keep B0.out) (by omega)).mono ?_; rintro e w' ⟨rfl, rfl⟩
  rw [HG.out]
  go_wp2_with fail
  refine (fold_any A0 n0 c0 l0 none 0 0 l1 a2 _ (K.out.keep B0.out) (E.out.keep B0.out) (by omega)).mono ?_; rintro e w2 ⟨A9, n9, c9, rfl, h, hb⟩
  have ALL2 := Lib.hid h
  have B2 := Lib.hid (then_ B0.out hb)
  clear h hb
  have hn9 : n9 ≤ 1000 := by have h1 := foldL_len l1 a2 l0; have h2 := ALL2.out.len; have h3 := HL.out; have h4 := HL1.out; omega
  have K2 := Lib.hid (K.out.keep B2.out)
  have E2 := Lib.hid (E.out.keep B2.out)
  go_wp2_with fail
  have tok3 : True := trivial
  have tok4 : True := trivial
  have tok5 : True := trivial
  go_region_held3 (fun w' => True) (trivial) (first
    | (go_at_call 21; have _t := tok3; clear _t tok3; refine (fold_any A0 n0 c0 l0 none 0 0 (l1.take 0) a2 _ (K2.out.keep (new_drew _)) ((evs_take (k := 0) E2.out (Nat.le_refl _)).keep (new_drew _)) (by omega)).mono ?_; rintro e w3 ⟨A3, n3, c3, rfl, h, hb⟩; have F3 := Lib.hid h; have S3 : Hid (Below w2.heap.size w2 w3) := Lib.hid (then_ (new_drew _) hb); have E3 := Lib.hid (E2.out.keep S3.out); clear h hb; have hn3 : n3 ≤ 1000 := (by have h1 := foldL_len (l1.take 0) a2 l0; have h2 := F3.out.len; have h3 := HL.out; have h5 := List.length_take_le 0 l1; omega))
    | (go_at_call 21; have _t := tok4; clear _t tok4; refine (fold_any A3 n3 c3 (foldL l0 (l1.take 0) a2) none 0 0 [] a2 _ F3.out (evs_none (A := none)) (by omega)).mono ?_; rintro e w4 ⟨A4, n4, c4, rfl, h, hb⟩; rw [show foldL (foldL l0 (l1.take 0) a2) [] a2 = foldL l0 l1 a2 by rw [List.eq_nil_of_length_eq_zero HL1.out]; rfl] at h; obtain rfl : n9 = n4 := ALL2.out.len.symm.trans h.len; have F4 := Lib.hid h; have S4 : Hid (Below w2.heap.size w2 w4) := Lib.hid (then_ S3.out hb); have ALL4 := Lib.hid (ALL2.out.keep S4.out); clear h hb S3)
    | (go_at_call 15; have _t := tok5; clear _t tok5; refine (kvs_same A9 A4 n9 c9 c4 _ _ ALL4.out F4.out (by omega)).mono ?_; rintro e w5 ⟨rfl, hb⟩; have S5 : Hid (Below w2.heap.size w2 w5) := Lib.hid (then_ S4.out hb); clear hb S4 ALL4 F4))
  have ALL5 := Lib.hid (ALL2.out.keep S5.out)
  have K5 := Lib.hid (K2.out.keep S5.out)
  have E5 := Lib.hid (E2.out.keep S5.out)
  have B5 := Lib.hid (then_ B2.out S5.out)
  clear F3 E3 K2 E2 ALL2 S5 B2 K E
  go_wp2
  go_loopw [10, 11] (fun v i wr => ∃ (j : Nat) (A' : Option Addr) (k' c' : Nat), j ≤ 0 ∧ i = .int .i64 j ∧ v = .slice A' k' c' ∧ Hid (k' = (lowL (l1.take j) a2).length) ∧
      wr.ownsRow w5.heap.size 38 8 (.slice A' k' c') k' (cellsE (lowL (l1.take j) a2)) ∧ Below w5.heap.size w5 wr) (fun _ i _ => 0 - (intOf i).toNat)
  case atStart => exact ⟨0, none, 0, 0, Nat.zero_le _, rfl, rfl, rfl, World.ownsRow_nil _ _ _ _, Below.refl _ _⟩
  case round =>
    obtain ⟨j, A', k', c', hj, rfl, rfl, hk', hown, hbel⟩ := hrel
    have HO := Lib.hid hown
    have HB := Lib.hid hbel
    clear hown hbel
    obtain rfl : j = 0 := by omega
    have HE : Hid (lowL (l1.take 0) a2 = lowL l1 a2) := Lib.hid (by rw [List.take_of_length_le (by rw [HL1.out]; omega)])
    have EL := Lib.hid (own_evs HO.out (fun x hx => E5.out.ok x (List.mem_of_mem_take (List.mem_filter.1 hx).1)))
    have hkl : k' ≤ 40 := by have h1 := low_len l1 a2 0; have h2 := hk'.out; omega
    have ALL6 := Lib.hid (ALL5.out.keep HB.out)
    go_wp2_with fail
    refine (fold_any A0 n0 c0 l0 A' k' c' _ a2 _ (K5.out.keep HB.out) EL.out (by omega)).mono ?_; rintro e w7 ⟨A7, n7, c7, rfl, h, hb⟩
    rw [HE.out, show foldL l0 (lowL l1 a2) a2 = foldL l0 l1 a2 from foldL_low l1 a2 l0] at h
    obtain rfl : n9 = n7 := ALL5.out.len.symm.trans h.len
    have F7 := Lib.hid h
    have ALL7 := Lib.hid (ALL6.out.keep hb)
    have B7 := Lib.hid (then_ (then_ B5.out HB.out) hb)
    clear h hb
    go_wp2_with fail
    refine (kvs_same A9 A7 n9 c9 c7 _ _ ALL7.out F7.out (by omega)).mono ?_; rintro e w8 ⟨rfl, hb⟩
    have ALL8 := Lib.hid (ALL7.out.keep hb)
    have B8 := Lib.hid (then_ B7.out hb)
    clear hb
    go_wp2_with fail
    refine (From_any A9 n9 c9 _ ⟨#[]⟩ _ ALL8.out (by omega) (by simp [maxLen, ByteArray.size])).mono ?_; rintro e w10 ⟨A10, n10, c10, rfl, h, hb⟩
    rw [fromL_nil _ _ (by rw [ByteArray.toList_eq])] at h
    obtain rfl : n9 = n10 := ALL5.out.len.symm.trans h.len
    have F10 := Lib.hid h
    have ALL10 := Lib.hid (ALL8.out.keep hb)
    have B10 := Lib.hid (then_ B8.out hb)
    clear h hb
    go_wp2_with fail
    refine (kvs_same A10 A9 n9 c10 c9 _ _ F10.out ALL10.out (by omega)).mono ?_; rintro e w11 ⟨rfl, hb⟩
    have B11 := Lib.hid (then_ B10.out hb)
    clear hb
    go_wp2_with fail
    refine (live_any _).mono ?_; rintro e w12 ⟨rfl, hb⟩
    have B12 := Lib.hid (then_ B11.out hb)
    clear hb
    go_wp2
    go_ret
    exact ⟨rfl, B12.out⟩

theorem shortFew (w : World) (A0 : Option Addr) (n0 c0 : Nat) (l0 : List KV) (A1 : Option Addr) (n1 c1 : Nat) (l1 : List Ev) (a2 b2 : Int) (k0 : KVs w A0 n0 c0 l0) (k1 : Evs w A1 n1 c1 l1) (hf : fewB 40 l0 = false) :
    Calls Try.prog 7 #[.slice A0 n0 c0, .slice A1 n1 c1, .agg #[.int .i64 a2, .int .i64 b2]] w fun e w' => e = .returned (.bool true) ∧ Below w.heap.size w w' := by
  have K := Lib.hid k0
  have E := Lib.hid k1
  have HF := Lib.hid hf
  clear k0 k1 hf
  go_enter Try.func7, Try.ntmps7
  go_wp2_with fail
  go_quiet (fail)
  have B0 : Hid (Below w.heap.size w ((w.alloc (.cells #[.int .i64 a2, .int .i64 b2] 43)).drewN nq)) := Lib.hid (below_drewN (new1 _ _) _)
  go_wp2_with fail
  refine (few_any A0 n0 c0 l0 40 _ (K.out.keep B0.out) (by omega)).mono ?_; rintro e w' ⟨rfl, rfl⟩
  rw [HF.out]
  go_wp2_with fail
  refine (live_any _).mono ?_; rintro e w1 ⟨rfl, hb⟩
  have B1 := Lib.hid (then_ B0.out hb)
  clear hb
  go_wp2
  go_ret
  exact ⟨rfl, B1.out⟩

theorem shortFewE (w : World) (A0 : Option Addr) (n0 c0 : Nat) (l0 : List KV) (A1 : Option Addr) (n1 c1 : Nat) (l1 : List Ev) (a2 b2 : Int) (k0 : KVs w A0 n0 c0 l0) (k1 : Evs w A1 n1 c1 l1) (hf : fewB 40 l0 = true) (hn : n0 ≤ 40) (hg : fewE 40 l1 = false) :
    Calls Try.prog 7 #[.slice A0 n0 c0, .slice A1 n1 c1, .agg #[.int .i64 a2, .int .i64 b2]] w fun e w' => e = .returned (.bool true) ∧ Below w.heap.size w w' := by
  have K := Lib.hid k0
  have E := Lib.hid k1
  have HF := Lib.hid hf
  have HG := Lib.hid hg
  clear k0 k1 hf hg
  go_enter Try.func7, Try.ntmps7
  go_wp2_with fail
  go_quiet (fail)
  have B0 : Hid (Below w.heap.size w ((w.alloc (.cells #[.int .i64 a2, .int .i64 b2] 43)).drewN nq)) := Lib.hid (below_drewN (new1 _ _) _)
  go_wp2_with fail
  refine (few_any A0 n0 c0 l0 40 _ (K.out.keep B0.out) (by omega)).mono ?_; rintro e w' ⟨rfl, rfl⟩
  rw [HF.out]
  go_wp2_with fail
  refine (fewe_any A1 n1 c1 l1 40 _ (E.out.keep B0.out) (by omega)).mono ?_; rintro e w' ⟨rfl, rfl⟩
  rw [HG.out]
  go_wp2_with fail
  refine (live_any _).mono ?_; rintro e w1 ⟨rfl, hb⟩
  have B1 := Lib.hid (then_ B0.out hb)
  clear hb
  go_wp2
  go_ret
  exact ⟨rfl, B1.out⟩

theorem shortLow (w : World) (A0 : Option Addr) (n0 c0 : Nat) (l0 : List KV) (A1 : Option Addr) (n1 c1 : Nat) (l1 : List Ev) (a2 b2 : Int) (k0 : KVs w A0 n0 c0 l0) (k1 : Evs w A1 n1 c1 l1) (hf : fewB 40 l0 = true) (hn : n0 ≤ 40) (hg : fewE 40 l1 = true) (hb : b2 < 0) :
    Calls Try.prog 7 #[.slice A0 n0 c0, .slice A1 n1 c1, .agg #[.int .i64 a2, .int .i64 b2]] w fun e w' => e = .returned (.bool true) ∧ Below w.heap.size w w' := by
  have K := Lib.hid k0
  have E := Lib.hid k1
  have HF := Lib.hid hf
  have HG := Lib.hid hg
  clear k0 k1 hf hg
  go_enter Try.func7, Try.ntmps7
  go_wp2_with fail
  go_quiet (fail)
  have B0 : Hid (Below w.heap.size w ((w.alloc (.cells #[.int .i64 a2, .int .i64 b2] 43)).drewN nq)) := Lib.hid (below_drewN (new1 _ _) _)
  go_wp2_with fail
  refine (few_any A0 n0 c0 l0 40 _ (K.out.keep B0.out) (by omega)).mono ?_; rintro e w' ⟨rfl, rfl⟩
  rw [HF.out]
  go_wp2_with fail
  refine (fewe_any A1 n1 c1 l1 40 _ (E.out.keep B0.out) (by omega)).mono ?_; rintro e w' ⟨rfl, rfl⟩
  rw [HG.out]
  go_wp2_with fail
  refine (live_any _).mono ?_; rintro e w1 ⟨rfl, hb⟩
  have B1 := Lib.hid (then_ B0.out hb)
  clear hb
  go_wp2
  go_ret
  exact ⟨rfl, B1.out⟩

theorem shortHigh (w : World) (A0 : Option Addr) (n0 c0 : Nat) (l0 : List KV) (A1 : Option Addr) (n1 c1 : Nat) (l1 : List Ev) (a2 b2 : Int) (k0 : KVs w A0 n0 c0 l0) (k1 : Evs w A1 n1 c1 l1) (hf : fewB 40 l0 = true) (hn : n0 ≤ 40) (hg : fewE 40 l1 = true) (hn1 : n1 ≤ 40) (hb0 : 0 ≤ b2) (hb : (n1 : Int) < b2) :
    Calls Try.prog 7 #[.slice A0 n0 c0, .slice A1 n1 c1, .agg #[.int .i64 a2, .int .i64 b2]] w fun e w' => e = .returned (.bool true) ∧ Below w.heap.size w w' := by
  have K := Lib.hid k0
  have E := Lib.hid k1
  have HF := Lib.hid hf
  have HG := Lib.hid hg
  clear k0 k1 hf hg
  go_enter Try.func7, Try.ntmps7
  go_wp2_with fail
  go_quiet (fail)
  have B0 : Hid (Below w.heap.size w ((w.alloc (.cells #[.int .i64 a2, .int .i64 b2] 43)).drewN nq)) := Lib.hid (below_drewN (new1 _ _) _)
  go_wp2_with fail
  refine (few_any A0 n0 c0 l0 40 _ (K.out.keep B0.out) (by omega)).mono ?_; rintro e w' ⟨rfl, rfl⟩
  rw [HF.out]
  go_wp2_with fail
  refine (fewe_any A1 n1 c1 l1 40 _ (E.out.keep B0.out) (by omega)).mono ?_; rintro e w' ⟨rfl, rfl⟩
  rw [HG.out]
  go_wp2_with fail
  refine (live_any _).mono ?_; rintro e w1 ⟨rfl, hb⟩
  have B1 := Lib.hid (then_ B0.out hb)
  clear hb
  go_wp2
  go_ret
  exact ⟨rfl, B1.out⟩

theorem walk (w : World) (A0 : Option Addr) (n0 c0 : Nat) (l0 : List KV) (A1 : Option Addr) (n1 c1 : Nat) (l1 : List Ev) (a2 b2 : Int) (k0 : KVs w A0 n0 c0 l0) (k1 : Evs w A1 n1 c1 l1) (w2 : (Lit.int .i64 a2).wf = true) (u2 : (Lit.int .i64 b2).wf = true) :
    Calls Try.prog 7 #[.slice A0 n0 c0, .slice A1 n1 c1, .agg #[.int .i64 a2, .int .i64 b2]] w fun e w' => e = .returned (.bool true) ∧ Below w.heap.size w w' := by
  cases hf : fewB 40 l0 with
  | false => exact shortFew w A0 n0 c0 l0 A1 n1 c1 l1 a2 b2 k0 k1 hf
  | true =>
    have hn : n0 ≤ 40 := by have := k0.len; simp only [fewB, Bool.and_eq_true, decide_eq_true_eq] at hf; omega
    cases hg : fewE 40 l1 with
    | false => exact shortFewE w A0 n0 c0 l0 A1 n1 c1 l1 a2 b2 k0 k1 hf hn hg
    | true =>
      have hn1 : n1 ≤ 40 := by have := k1.len; simp only [fewE, Bool.and_eq_true, decide_eq_true_eq] at hg; omega
      by_cases hb0 : 0 ≤ b2
      · by_cases hb1 : (n1 : Int) < b2
        · exact shortHigh w A0 n0 c0 l0 A1 n1 c1 l1 a2 b2 k0 k1 hf hn hg hn1 hb0 hb1
        · obtain ⟨k, rfl⟩ : ∃ k : Nat, b2 = (k : Int) := ⟨b2.toNat, by omega⟩
          have hk : k ≤ n1 := by omega
          rcases A1 with _ | a
          · have h0 := k1.nil rfl
            subst h0
            obtain rfl : n1 = 0 := by have := k1.le; omega
            obtain rfl : k = 0 := by omega
            exact walk_none w A0 n0 c0 l0 l1 a2 k0 k1 hn hf hg
          · by_cases hc : c1 = k
            · have hle := k1.le
              obtain rfl : n1 = k := by omega
              subst hc
              exact walk_eq w A0 n0 c0 l0 a l1 a2 _ k0 k1 hn hn1 hf hg
            · exact walk_gt w A0 n0 c0 l0 a n1 c1 l1 a2 k k0 k1 hn hk hc hn1 hf hg
      · exact shortLow w A0 n0 c0 l0 A1 n1 c1 l1 a2 b2 k0 k1 hf hn hg (by omega)

theorem own : ownKnob Try.prog.godebug = none := by kernel_rfl
theorem laidOut : laidOutB Try.prog = true := by kernel_rfl

set_option maxRecDepth 100000 in
theorem lifted (os : Os) (started : os.Started) (H : Type) (enc : TypeId × Value → H) :
    ReturnsInHanded {} Try.checked os 7 .any (Rows.histPartsSpec.pre6 enc Try.prog Try.f7 Rows.histPartsRow.domain false) (Rows.histPartsSpec.post enc Try.prog Try.f7 false true false false) := by
  refine returnsInHanded_of_change (C := Try.checked) own started (by kernel_rfl) Try.func7
    (ChangeSpec.witness6 (enc := enc) (C := Try.checked) false ⟨#[], #[.slice none 0 0, .slice none 0 0, .agg #[.int .i64 0, .int .i64 0]], []⟩ 8 (by kernel_rfl) (by kernel_rfl) (by kernel_rfl) (by kernel_rfl)) ?_
  intro W base args ds gs before hval0 hW hcnd _
  have hval : ∀ (j : Nat) t v, Try.f7.params[j]? = some t → args[j]? = some v → Value.okWide Try.prog W .any base t v := hval0
  have hW' := hW
  obtain ⟨p, q, hA0, hV, rfl, hfz, hnd⟩ := hW
  have hA : DataW.TrodAll enc Try.prog W 0 (fun _ => true) true Try.f7.params.toList args.toList ds p := hA0
  rw [Try.params7] at hA hval
  obtain ⟨v0, vs0, d0, ds0, p0, q0, hargs, rfl, rfl, h0, r0⟩ := trodAll_cons hA
  obtain ⟨v1, vs1, d1, ds1, p1, q1, rfl, rfl, rfl, h1, r1⟩ := trodAll_cons r0
  obtain ⟨v2, vs2, d2, ds2, p2, q2, rfl, rfl, rfl, h2, r2⟩ := trodAll_cons r1
  obtain ⟨rfl, rfl, rfl⟩ := trodAll_nil r2
  obtain rfl : args = #[v0, v1, v2] := by cases args; simp_all
  obtain ⟨rfl, rfl⟩ := trodVars_none hV
  obtain ⟨A0, n0, c0, l0, rfl, k0⟩ := open_kvs (hval 0 22 v0 rfl rfl) h0
  obtain ⟨A1, n1, c1, l1, rfl, k1⟩ := open_evs (hval 1 33 v1 rfl rfl) h1
  obtain ⟨a2, b2, rfl, rfl, rfl, w2, u2⟩ := open_two_int Try.underlying43 Try.underlying3 (by kernel_rfl) (by kernel_rfl) (hval 2 43 v2 rfl rfl) h2
  clear hA0 hval0
  refine (walk W A0 n0 c0 l0 A1 n1 c1 l1 a2 b2 k0 k1 w2 u2).mono fun e W' ⟨he, bel⟩ => ?_
  subst he
  exact ⟨_, rfl, _, _, _, [], _, [], hW', trodAll_mk1 (shut_bool Try.underlying4 _), (trodAll_cons_mk (Below.trod laidOut (by kernel_rfl) (of_decide_eq_true (by kernel_rfl)) h0 bel (fun x hx => hW'.lt x (by simp [hx]))) (trodAll_cons_mk (Below.trod laidOut (by kernel_rfl) (of_decide_eq_true (by kernel_rfl)) h1 bel (fun x hx => hW'.lt x (by simp [hx]))) (trodAll_cons_mk (shut_two_int Try.underlying43 Try.underlying3 (by kernel_rfl) (by kernel_rfl) w2 u2) trodAll_mk0))), rfl, bel.frame _, fun h => by cases h⟩

theorem over : Rows.histPartsRow.holds Try.pinned (OpenSpec.ofChange Rows.histPartsSpec) :=
  OpenClaim.holds_of_wide 7 Try.f7 rfl rfl rfl rfl rfl rfl rfl ⟨rfl, rfl, rfl, rfl, rfl⟩ rfl rfl rfl rfl rfl (by kernel_rfl) Try.func7 (by kernel_rfl)
    (of_decide_eq_true (by kernel_rfl)) (by unfold Func.isWrapper; first | (rw [if_pos (by decide +kernel)]; kernel_rfl) | (rw [if_neg (by decide +kernel)]; exact ⟨rfl, rfl⟩))
    (fun os started H enc _ => lifted os started H enc)

theorem proved : Rows.HistPartsSaid := over
#print axioms proved
end Go.Proofs.Ytlpnnbjdolodcaa.histParts
