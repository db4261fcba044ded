/- The things of a prefix: hist's way, and the document's. -/
import Derived.Test.YtkikfaeigoeogaaKvTake
namespace Go.Proofs.Ytkikfaeigoeogaa.P
open Go.RowKit Go.Sort
set_option maxHeartbeats 400000
set_option linter.unusedVariables false
set_option maxRecDepth 100000

theorem bytes_extract (s : ByteArray) (b : Nat) : (s.extract 0 b).toList = s.toList.take b := by
  rw [ByteArray.toList_eq, ByteArray.toList_eq, ByteArray.data_extract, Array.toList_extract]
  simp [List.extract_eq_take_drop]
theorem bytes_len (s : ByteArray) : s.toList.length = s.size := by
  rw [ByteArray.toList_eq]; simp
theorem begins_long {p k : ByteArray} (h : k.size < p.size) : begins p k = false := by
  cases hb : begins p k
  · rfl
  · unfold begins at hb
    rw [List.isPrefixOf_iff_prefix] at hb
    have := hb.length_le
    rw [bytes_len, bytes_len] at this
    omega
theorem begins_fit (p k : ByteArray) : begins p k = ((k.extract 0 p.size).toList == p.toList) := by
  rw [Bool.eq_iff_iff]
  unfold begins
  rw [List.isPrefixOf_iff_prefix, List.prefix_iff_eq_take, bytes_extract, bytes_len, beq_iff_eq]
  exact ⟨fun h => h.symm, fun h => h.symm⟩

theorem hasl_any (k p : ByteArray) (w : World) (hm : k.size ≤ maxLen) (hm2 : p.size ≤ maxLen) :
    Calls Try.prog 65 #[.string k, .string p] w fun e w' => e = .returned (.bool (begins p k)) ∧ w = w' := by
  unfold maxLen at hm hm2
  have hk1 : (k.size : Int) ≤ 9223372036854775807 := by omega
  have hp1 : (p.size : Int) ≤ 9223372036854775807 := by omega
  by_cases h : p.size ≤ k.size
  · have HB := Lib.hid (begins_fit p k)
    cases hb : begins p k with
    | true =>
      have he : ((k.extract 0 p.size).toList == p.toList) = true := by rw [← HB.out, hb]
      clear hb
      go_enter Try.func65, Try.ntmps65
      go_wp2
      go_ret
      exact ⟨rfl, rfl⟩
    | false =>
      have he : ((k.extract 0 p.size).toList == p.toList) = false := by rw [← HB.out, hb]
      clear hb
      go_enter Try.func65, Try.ntmps65
      go_wp2
      go_ret
      exact ⟨rfl, rfl⟩
  · rw [begins_long (by omega)]
    go_enter Try.func65, Try.ntmps65
    go_wp2
    go_ret
    exact ⟨rfl, rfl⟩
theorem has_any (k p : ByteArray) (w : World) (hm : k.size ≤ maxLen) (hm2 : p.size ≤ maxLen) :
    Calls Try.prog 49 #[.string k, .string p] w fun e w' => e = .returned (.bool (begins p k)) ∧ w = w' := by
  have H1 := Lib.hid hm
  have H2 := Lib.hid hm2
  clear hm hm2
  go_enter Try.func49, Try.ntmps49
  go_wp2_with fail
  refine (hasl_any k p _ H1.out H2.out).mono ?_; rintro e w1 ⟨rfl, rfl⟩
  go_wp2
  go_ret
  exact ⟨rfl, rfl⟩

theorem from_step (l : List KV) (p : ByteArray) (j : Nat) (x : KV) (h : l[j]? = some x) : fromL (l.take (j + 1)) p = if begins p x.key then fromL (l.take j) p ++ [x] else fromL (l.take j) p := by
  rw [take_succ l j x h]
  unfold fromL
  rw [List.filter_append, List.filter_cons]
  split <;> simp
theorem from_len (l : List KV) (p : ByteArray) (j : Nat) : (fromL (l.take j) p).length ≤ j :=
  Nat.le_trans (List.length_filter_le _ _) (List.length_take_le _ _)


theorem from_ref (A : Option Addr) (n c : Nat) (l : List KV) (p : ByteArray) (w : World) (h : KVs w A n c l) (hn : n ≤ 1000000) (hp : p.size ≤ maxLen) :
    Calls Try.prog 21 #[.slice A n c, .string p] w (SomeKVs w (fromL l p)) := by
  obtain ⟨i0, hi0, hz0, hz1, hz2⟩ := info_parts kv_info
  have H := Lib.hid h
  have HOK := Lib.hid h.ok
  have HL := Lib.hid h.len
  unfold maxLen at hp
  have hp1 : (p.size : Int) ≤ 9223372036854775807 := by omega
  clear h
  go_enter Try.func21, Try.ntmps21
  go_wp2
  go_loopw [5, 6] (fun v i wr => ∃ (j : Nat) (o : List KV) (A' : Option Addr) (c' : Nat), j ≤ n ∧ i = .int .i64 j ∧ v = .slice A' o.length c' ∧
      wr.ownsRow w.heap.size 36 6 (.slice A' o.length c') o.length (cellsL o) ∧ Below w.heap.size w wr ∧ Hid (o = fromL (l.take j) p)) (fun _ i _ => n - (intOf i).toNat)
  case atStart => exact ⟨0, [], none, 0, Nat.zero_le _, rfl, rfl, World.ownsRow_nil _ _ _ _, Below.refl _ _, rfl⟩
  case round =>
    obtain ⟨j, o, A', c', hj, rfl, rfl, hown, hbel, ht⟩ := hrel
    have HO := Lib.hid hown
    have HB := Lib.hid hbel
    have hol : o.length ≤ j := by rw [ht.out]; exact from_len _ _ _
    clear hown hbel
    by_cases hlt : j < n
    · obtain ⟨a, x, rfl, hbl, hx, hok, hc⟩ := (H.out.keep HB.out).at_ hlt
      obtain ⟨c0, c1, c2, c3, c4, c5⟩ := hc
      have HX := Lib.hid hx
      have HS := Lib.hid (from_step l p j x hx)
      have hk1 : (x.key.size : Int) ≤ 9223372036854775807 := by have := hok.key; unfold maxLen at this; omega
      have HZ := Lib.hid HB.out.size
      clear hok hbl hx
      cases hb : begins p x.key with
      | true =>
        have HBE := Lib.hid hb
        have he : ((x.key.extract 0 p.size).toList == p.toList) = true := by rw [← begins_fit, hb]
        have hle : p.size ≤ x.key.size := by
          rcases Nat.lt_or_ge x.key.size p.size with h | h
          · rw [begins_long h] at hb; cases hb
          · exact h
        clear hb
        have fin : ∀ (v1 : Value) (w1 : World), w1.ownsRow w.heap.size 36 6 v1 (o.length + 1) (cellsL o ++ cellsL [x]) → (wr.alloc (x.obj 36)).grownBy w1 (Value.slice A' o.length c').ownBlock →
            ∃ A1 c1, v1 = .slice A1 (o ++ [x]).length c1 ∧ w1.ownsRow w.heap.size 36 6 (.slice A1 (o ++ [x]).length c1) (o ++ [x]).length (cellsL (o ++ [x])) ∧ Below w.heap.size w w1 := fun v1 w1 h1 h2 => by
          have h3 := own_more h1
          obtain ⟨A1, c1, rfl⟩ := own_form h3
          exact ⟨A1, c1, rfl, h3, (HB.out.alloc HB.out.size _).grown h2 (by have := HB.out.size; simp; omega) (fun g hg => (HO.out.lt g hg).1)⟩
        have FIN := Lib.hid fin
        clear fin
        go_wp2_with (at_builtin; refine wpList_append_own_at _ rfl _ _ 22 rfl w.heap.size 36 i0 zeroAgg 6 64 Try.underlying22 hi0 hz0 hz1 hz2 rfl (by omega) (.slice A' o.length c') o.length (cellsL o) rfl (HO.out.alloc _) ⟨wr.heap.size, 0, none⟩ 1 1 (cellsL [x]) rfl rfl (news_one (heap_alloc_new wr _)) (fun u hu => cellsL_one' hu) (by simp only [maxLen]; omega) (by omega) (by have := HZ.out; simp; omega) ?_; intro v1 w1 hown1 hg1 hnil1 hat1)
        obtain ⟨A1, c1, rfl, hown2, hb2⟩ := FIN.out v1 w1 hown1 hg1
        have HO2 := Lib.hid hown2
        have HB2 := Lib.hid hb2
        clear hown1 hg1 hnil1 hat1 hown2 hb2
        go_wp2
        go_roundw
        case rel => exact ⟨j + 1, o ++ [x], A1, c1, by omega, by go_num, rfl, HO2.out, HB2.out, by show _ = _; rw [HS.out, HBE.out, if_pos rfl, ← ht.out]⟩
        case measure => simp [intOf]; omega
      | false =>
        have HBE := Lib.hid hb
        have he : ((x.key.extract 0 p.size).toList == p.toList) = false := by rw [← begins_fit, hb]
        clear hb
        by_cases hle : p.size ≤ x.key.size
        · go_wp2
          go_roundw
          case rel => exact ⟨j + 1, o, A', c', by omega, by go_num, rfl, HO.out, HB.out, by show _ = _; rw [HS.out, HBE.out, ← ht.out]; rfl⟩
          case measure => simp [intOf]; omega
        · clear he
          go_wp2
          go_roundw
          case rel => exact ⟨j + 1, o, A', c', by omega, by go_num, rfl, HO.out, HB.out, by show _ = _; rw [HS.out, HBE.out, ← ht.out]; rfl⟩
          case measure => simp [intOf]; omega
    · have HE : Hid (o = fromL l p) := Lib.hid (by rw [ht.out, List.take_of_length_le (by rw [HL.out]; omega)])
      clear hol
      go_wp2
      go_ret
      refine ⟨A', o.length, c', rfl, ?_, HB.out⟩
      rw [← HE.out]
      exact own_kvs HO.out (fun y hy => HOK.out y (by rw [HE.out] at hy; exact (List.mem_filter.1 hy).1))
end Go.Proofs.Ytkikfaeigoeogaa.P
