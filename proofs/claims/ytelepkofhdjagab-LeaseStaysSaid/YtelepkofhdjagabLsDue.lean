/- Leases: Due and Drops, both ways; whether two lists are the same. -/
import Derived.Test.YtelepkofhdjagabLsRow
namespace Go.Proofs.Ytelepkofhdjagab.P
open Go.RowKit Go.Sort
set_option maxHeartbeats 1000000
set_option linter.unusedVariables false
set_option linter.unusedSimpArgs false
set_option maxRecDepth 100000

def intC (z : Int) : List Value := [.int .i64 z]
theorem intC_len (z : Int) : (intC z).length = 1 := rfl
theorem intC_one (z : Int) : ∀ v ∈ intC z, v.oneCell' = true := by intro v h; simp [intC] at h; subst h; rfl
abbrev zeroIntV : Value := .int .i64 0
theorem int_info : (Try.prog.info? 3).map (fun i => (i.zero, i.size, i.bytes)) = some (some zeroIntV, 1, 8) := by kernel_rfl
def Mu.cells (x : Mu) : List Value := [.bool x.gone, .string x.key, .string x.val, .int .i64 x.lea]
theorem mu_len (x : Mu) : x.cells.length = 4 := rfl
theorem mu_one (x : Mu) : ∀ v ∈ x.cells, v.oneCell' = true := by intro v h; simp [Mu.cells] at h; rcases h with rfl | rfl | rfl | rfl <;> rfl
abbrev zeroMuA : Value := .agg #[.bool false, .string ⟨#[]⟩, .string ⟨#[]⟩, .int .i64 0]
theorem mu_info : (Try.prog.info? 50).map (fun i => (i.zero, i.size, i.bytes)) = some (some zeroMuA, 4, 48) := by kernel_rfl
abbrev Is (w : World) (A : Option Addr) (n c : Nat) (l : List Int) : Prop := RowsOf intC 1 w A n c l
theorem Is.at_ {w : World} {A : Option Addr} {n c k : Nat} {l : List Int} (h : Is w A n c l) (hk : k < n) : ∃ a z, A = some a ∧ l[k]? = some z ∧ w.cell? (a.add k) = some (.int .i64 z) := by
  obtain ⟨a, z, e, hb, hx, hl⟩ := RowsOf.at_ h hk
  have := hl 0 _ rfl
  rw [Nat.mul_one] at this
  exact ⟨a, z, e, hx, this⟩
abbrev Mus (w : World) (A : Option Addr) (n c : Nat) (l : List Mu) : Prop := RowsOf Mu.cells 4 w A n c l
theorem app_ints (base : Nat) (B : Option Addr) (n d : Nat) (xs : List Int) (w : World) (z : Int) (hown : ownG intC 1 3 w base B n d xs) (hn : n ≤ 1000) (hb : base ≤ w.heap.size) :
    ∃ B' d' w', (Builtin.append_ #[39, 39] 39 #[.slice B n d, .slice (some ⟨w.heap.size, 0, none⟩) 1 1]).run Try.prog (w.alloc (.cells #[.int .i64 z] 3)) = .ok (.slice B' (n + 1) d') w' ∧ ownG intC 1 3 w' base B' (n + 1) d' (xs ++ [z]) ∧ Below base w w' := by
  obtain ⟨i0, hi0, hz0, hz1, hz2⟩ := info_parts int_info
  obtain ⟨B', d', w', h1, h2, h3, _⟩ := app_rows intC_len (by omega) intC_one Try.underlying39 hi0 hz0 hz1 hz2 rfl (by omega) base B n d xs (w.alloc (.cells #[.int .i64 z] 3)) (hown.alloc _) _ 1 1 [z] (rows_new intC_len (e := 3) w z #[.int .i64 z] rfl) (by omega) (by simp; omega)
  exact ⟨B', d', w', h1, h2, ((Below.refl _ _).alloc hb _).trans h3⟩
theorem app_mus (base : Nat) (B : Option Addr) (n d : Nat) (xs : List Mu) (w : World) (x : Mu) (hown : ownG Mu.cells 4 50 w base B n d xs) (hn : n ≤ 1000) (hb : base ≤ w.heap.size) :
    ∃ B' d' w', (Builtin.append_ #[42, 42] 42 #[.slice B n d, .slice (some ⟨w.heap.size, 0, none⟩) 1 1]).run Try.prog (w.alloc (.cells #[.bool x.gone, .string x.key, .string x.val, .int .i64 x.lea] 50)) = .ok (.slice B' (n + 1) d') w' ∧ ownG Mu.cells 4 50 w' base B' (n + 1) d' (xs ++ [x]) ∧ Below base w w' := by
  obtain ⟨i0, hi0, hz0, hz1, hz2⟩ := info_parts mu_info
  obtain ⟨B', d', w', h1, h2, h3, _⟩ := app_rows mu_len (by omega) mu_one Try.underlying42 hi0 hz0 hz1 hz2 rfl (by omega) base B n d xs (w.alloc (.cells #[.bool x.gone, .string x.key, .string x.val, .int .i64 x.lea] 50)) (hown.alloc _) _ 1 1 [x] (rows_new mu_len (e := 50) w x _ rfl) (by omega) (by simp; omega)
  exact ⟨B', d', w', h1, h2, ((Below.refl _ _).alloc hb _).trans h3⟩

/-- How a call ends that makes a row. -/
def RowEnd {α : Type} (cells : α → List Value) (q : Nat) (l : List α) (w : World) (e : Ending) (w' : World) : Prop := ∃ A n c, e = .returned (.slice A n c) ∧ RowsOf cells q w' A n c l ∧ Below w.heap.size w w'
theorem due_more {l : List Le} {now : Int} {j : Nat} {x : Le} (hx : l[j]? = some x) : dueL (l.take (j + 1)) now = if x.til ≤ now then dueL (l.take j) now ++ [x.id] else dueL (l.take j) now := by
  unfold dueL
  rw [take_succ l j x hx, List.filter_append, List.map_append]
  by_cases h : x.til ≤ now <;> simp [h]
theorem due_len (l : List Le) (now : Int) (j : Nat) : (dueL (l.take j) now).length ≤ j := by
  unfold dueL
  rw [List.length_map]
  exact Nat.le_trans (List.length_filter_le _ _) (by rw [List.length_take]; omega)
theorem due_any (s : Ls) (A : Option Addr) (n c : Nat) (now : Int) (w : World) (h : LsAt w s A n c) (hl : n ≤ 1000) :
    Calls Try.prog 30 #[s.agg A n c, .int .i64 now] w (RowEnd intC 1 (dueL s.l now) w) := by
  have H := Lib.hid (h.keep (new1 w (.cells (lsCells s A n c) 24)))
  have O := Lib.hid (own_new w (lsCells s A n c) 24)
  have HL := Lib.hid h.row.row.len
  have q1 := O.out.cell 1 _ rfl
  clear h
  go_enter Try.func30, Try.ntmps30
  go_wp2
  go_loopw [5, 11] (fun v i wr => ∃ (j k : Nat) (B : Option Addr) (d : Nat), j ≤ n ∧ k ≤ j ∧ v = .slice B k d ∧ i = .int .i64 j ∧ ownG intC 1 3 wr (w.heap.size + 1) B k d (dueL (s.l.take j) now) ∧ Below (w.heap.size + 1) (w.alloc (.cells (lsCells s A n c) 24)) wr) (fun _ i _ => n - (intOf i).toNat)
  case atStart => exact ⟨0, 0, none, 0, Nat.zero_le _, Nat.le_refl _, rfl, rfl, ownG_nil _ _ _ _ _, Below.refl _ _⟩
  case round =>
    obtain ⟨j, k, B, d, hj, hkj, rfl, rfl, hown, hbel⟩ := hrel
    have hsz : w.heap.size + 1 ≤ wr.heap.size := by have := hbel.size; simpa using this
    have HB := Lib.hid hbel
    have HO := Lib.hid hown
    have HLS : Hid (LsAt wr s A n c) := Lib.hid (H.out.keep (by simpa using hbel))
    clear hown hbel
    by_cases hlt : j < n
    · obtain ⟨a, x, rfl, hbl, hx, hok, hc⟩ := HLS.out.row.at_ hlt
      obtain ⟨c0, c1, c2⟩ := hc
      have HM := Lib.hid (due_more (now := now) hx)
      have BA := Lib.hid (HB.out.alloc hsz (x.obj 80))
      have OA := Lib.hid (HO.out.alloc (x.obj 80))
      clear hok hbl hx
      by_cases ht : x.til ≤ now
      · obtain ⟨B', d', w', hr, hown', hb'⟩ := app_ints (w.heap.size + 1) B k d _ (wr.alloc (x.obj 80)) x.id OA.out (by omega) (by simp; omega)
        have HO2 := Lib.hid hown'
        have HB2 := Lib.hid (BA.out.trans hb')
        have HM2 : Hid (dueL (s.l.take (j + 1)) now = dueL (s.l.take j) now ++ [x.id]) := Lib.hid (by rw [HM.out, if_pos ht])
        rw [show (wr.alloc (x.obj 80)).heap.size = wr.heap.size + 1 by simp] at hr
        clear hown' hb'
        go_wp2_with (at_builtin; refine wpList_append_eq _ rfl (.tmp 19) (.tmp 22) _ _ rfl _ _ rfl rfl hr ?_)
        go_roundw
        case rel => exact ⟨j + 1, k + 1, B', d', by omega, by omega, rfl, by go_num, by rw [HM2.out]; exact HO2.out, HB2.out⟩
        case measure => simp [intOf]; omega
      · have HM2 : Hid (dueL (s.l.take (j + 1)) now = dueL (s.l.take j) now) := Lib.hid (by rw [HM.out, if_neg ht])
        go_wp2
        go_roundw
        case rel => exact ⟨j + 1, k, B, d, by omega, by omega, rfl, by go_num, by rw [HM2.out]; exact OA.out, BA.out⟩
        case measure => simp [intOf]; omega
    · obtain rfl : j = n := by omega
      have HE : Hid (dueL (s.l.take j) now = dueL s.l now) := Lib.hid (by rw [take_full _ _ HL.out])
      go_wp2
      go_ret
      refine ⟨B, k, d, rfl, ?_, (new1 w _).trans (HB.out.mono (Nat.le_succ _))⟩
      rw [← HE.out]; exact ownG_rows intC_len (by omega) HO.out
theorem due_ref (s : Ls) (A : Option Addr) (n c : Nat) (now : Int) (w : World) (h : LsAt w s A n c) (hl : n ≤ 1000) :
    Calls Try.prog 31 #[s.agg A n c, .int .i64 now] w (RowEnd intC 1 (dueL s.l now) w) := by
  have H := Lib.hid (h.keep (new1 w (.cells (lsCells s A n c) 24)))
  have O := Lib.hid (own_new w (lsCells s A n c) 24)
  have HL := Lib.hid h.row.row.len
  have q1 := O.out.cell 1 _ rfl
  clear h
  go_enter Try.func31, Try.ntmps31
  go_wp2
  go_loopw [5, 6] (fun v i wr => ∃ (j k : Nat) (B : Option Addr) (d : Nat), j ≤ n ∧ k ≤ j ∧ v = .slice B k d ∧ i = .int .i64 j ∧ ownG intC 1 3 wr (w.heap.size + 1) B k d (dueL (s.l.take j) now) ∧ Below (w.heap.size + 1) (w.alloc (.cells (lsCells s A n c) 24)) wr) (fun _ i _ => n - (intOf i).toNat)
  case atStart => exact ⟨0, 0, none, 0, Nat.zero_le _, Nat.le_refl _, rfl, rfl, ownG_nil _ _ _ _ _, Below.refl _ _⟩
  case round =>
    obtain ⟨j, k, B, d, hj, hkj, rfl, rfl, hown, hbel⟩ := hrel
    have hsz : w.heap.size + 1 ≤ wr.heap.size := by have := hbel.size; simpa using this
    have hbel' : Below (w.alloc (.cells (lsCells s A n c) 24)).heap.size (w.alloc (.cells (lsCells s A n c) 24)) wr := by simpa using hbel
    have HB := Lib.hid hbel
    have HO := Lib.hid hown
    have HLS : Hid (LsAt wr s A n c) := Lib.hid (H.out.keep hbel')
    have r1 := (O.out.below hbel').cell 1 _ rfl
    clear hown hbel hbel'
    by_cases hlt : j < n
    · obtain ⟨a, x, rfl, hbl, hx, hok, hc⟩ := HLS.out.row.at_ hlt
      obtain ⟨c0, c1, c2⟩ := hc
      have HM := Lib.hid (due_more (now := now) hx)
      clear hok hbl hx
      by_cases ht : x.til ≤ now
      · obtain ⟨B', d', w', hr, hown', hb'⟩ := app_ints (w.heap.size + 1) B k d _ wr x.id HO.out (by omega) hsz
        have HO2 := Lib.hid hown'
        have HB2 := Lib.hid (HB.out.trans hb')
        have HM2 : Hid (dueL (s.l.take (j + 1)) now = dueL (s.l.take j) now ++ [x.id]) := Lib.hid (by rw [HM.out, if_pos ht])
        clear hown' hb'
        go_wp2_with (at_builtin; refine wpList_append_eq _ rfl (.tmp 22) (.tmp 29) _ _ rfl _ _ rfl rfl hr ?_)
        go_roundw
        case rel => exact ⟨j + 1, k + 1, B', d', by omega, by omega, rfl, by go_num, by rw [HM2.out]; exact HO2.out, HB2.out⟩
        case measure => simp [intOf]; omega
      · have HM2 : Hid (dueL (s.l.take (j + 1)) now = dueL (s.l.take j) now) := Lib.hid (by rw [HM.out, if_neg ht])
        go_wp2
        go_roundw
        case rel => exact ⟨j + 1, k, B, d, by omega, by omega, rfl, by go_num, by rw [HM2.out]; exact HO.out, HB.out⟩
        case measure => simp [intOf]; omega
    · obtain rfl : j = n := by omega
      have HE : Hid (dueL (s.l.take j) now = dueL s.l now) := Lib.hid (by rw [take_full _ _ HL.out])
      go_wp2
      go_ret
      refine ⟨B, k, d, rfl, ?_, (new1 w _).trans (HB.out.mono (Nat.le_succ _))⟩
      rw [← HE.out]; exact ownG_rows intC_len (by omega) HO.out
theorem drops_more {l : List KV} {id : Int} {j : Nat} {x : KV} (h0 : id ≠ 0) (hx : l[j]? = some x) : dropsL (l.take (j + 1)) id = if x.lea = id then dropsL (l.take j) id ++ [dropOf x] else dropsL (l.take j) id := by
  unfold dropsL
  rw [if_neg h0, if_neg h0, take_succ l j x hx, List.filter_append, List.map_append]
  by_cases h : x.lea = id <;> simp [h]
theorem drops_zero {l : List KV} : dropsL l 0 = [] := if_pos rfl
theorem drops_any (A : Option Addr) (n c : Nat) (l : List KV) (id : Int) (w : World) (h : KVs w A n c l) (hl : n ≤ 1000) :
    Calls Try.prog 33 #[.slice A n c, .int .i64 id] w (RowEnd Mu.cells 4 (dropsL l id) w) := by
  have H := Lib.hid h
  have HL := Lib.hid h.len
  clear h
  by_cases h0 : id = 0
  · subst h0
    go_enter Try.func33, Try.ntmps33
    go_wp2
    go_ret
    exact ⟨none, 0, 0, rfl, by rw [drops_zero]; exact RowsOf.bare _, Below.refl _ _⟩
  · have hb0 : (id == 0) = false := by simp [h0]
    go_enter Try.func33, Try.ntmps33
    go_wp2
    go_loopw [5, 12] (fun v i wr => ∃ (j k : Nat) (B : Option Addr) (d : Nat), j ≤ n ∧ k ≤ j ∧ v = .slice B k d ∧ i = .int .i64 j ∧ ownG Mu.cells 4 50 wr w.heap.size B k d (dropsL (l.take j) id) ∧ Below w.heap.size w wr) (fun _ i _ => n - (intOf i).toNat)
    case atStart => exact ⟨0, 0, none, 0, Nat.zero_le _, Nat.le_refl _, rfl, rfl, by rw [show dropsL (l.take 0) id = [] by simp [dropsL]]; exact ownG_nil _ _ _ _ _, Below.refl _ _⟩
    case round =>
      obtain ⟨j, k, B, d, hj, hkj, rfl, rfl, hown, hbel⟩ := hrel
      have hsz := hbel.size
      have HB := Lib.hid hbel
      have HO := Lib.hid hown
      clear hown hbel
      by_cases hlt : j < n
      · obtain ⟨a, x, rfl, hbl, hx, hok, hc⟩ := (H.out.keep HB.out).at_ hlt
        obtain ⟨c0, c1, c2, c3, c4, c5⟩ := hc
        have HM := Lib.hid (drops_more h0 hx)
        have BA := Lib.hid (HB.out.alloc hsz (x.obj 48))
        have OA := Lib.hid (HO.out.alloc (x.obj 48))
        clear hok hbl hx
        by_cases ht : x.lea = id
        · subst ht
          obtain ⟨B', d', w', hr, hown', hb'⟩ := app_mus w.heap.size B k d _ (wr.alloc (x.obj 48)) (dropOf x) OA.out (by omega) (by simp; omega)
          have HO2 := Lib.hid hown'
          have HB2 := Lib.hid (BA.out.trans hb')
          have HM2 : Hid (dropsL (l.take (j + 1)) x.lea = dropsL (l.take j) x.lea ++ [dropOf x]) := Lib.hid (by rw [HM.out, if_pos rfl])
          rw [show (wr.alloc (x.obj 48)).heap.size = wr.heap.size + 1 by simp] at hr
          dsimp only [dropOf] at hr
          clear hown' hb'
          go_wp2_with (at_builtin; refine wpList_append_eq _ rfl (.tmp 20) (.tmp 24) _ _ rfl _ _ rfl rfl hr ?_)
          go_roundw
          case rel => exact ⟨j + 1, k + 1, B', d', by omega, by omega, rfl, by go_num, by rw [HM2.out]; exact HO2.out, HB2.out⟩
          case measure => simp [intOf]; omega
        · have HM2 : Hid (dropsL (l.take (j + 1)) id = dropsL (l.take j) id) := Lib.hid (by rw [HM.out, if_neg ht])
          go_wp2
          go_roundw
          case rel => exact ⟨j + 1, k, B, d, by omega, by omega, rfl, by go_num, by rw [HM2.out]; exact OA.out, BA.out⟩
          case measure => simp [intOf]; omega
      · obtain rfl : j = n := by omega
        have HE : Hid (dropsL (l.take j) id = dropsL l id) := Lib.hid (by rw [take_full _ _ HL.out])
        go_wp2
        go_ret
        refine ⟨B, k, d, rfl, ?_, HB.out⟩
        rw [← HE.out]; exact ownG_rows mu_len (by omega) HO.out
theorem drops_ref (A : Option Addr) (n c : Nat) (l : List KV) (id : Int) (w : World) (h : KVs w A n c l) (hl : n ≤ 1000) :
    Calls Try.prog 34 #[.slice A n c, .int .i64 id] w (RowEnd Mu.cells 4 (dropsL l id) w) := by
  have H := Lib.hid h
  have HL := Lib.hid h.len
  clear h
  go_enter Try.func34, Try.ntmps34
  go_wp2
  go_loopw [5, 6] (fun v i wr => ∃ (j k : Nat) (B : Option Addr) (d : Nat), j ≤ n ∧ k ≤ j ∧ v = .slice B k d ∧ i = .int .i64 j ∧ ownG Mu.cells 4 50 wr w.heap.size B k d (dropsL (l.take j) id) ∧ Below w.heap.size w wr) (fun _ i _ => n - (intOf i).toNat)
  case atStart => exact ⟨0, 0, none, 0, Nat.zero_le _, Nat.le_refl _, rfl, rfl, by rw [show dropsL (l.take 0) id = [] by simp [dropsL]]; exact ownG_nil _ _ _ _ _, Below.refl _ _⟩
  case round =>
    obtain ⟨j, k, B, d, hj, hkj, rfl, rfl, hown, hbel⟩ := hrel
    have hsz := hbel.size
    have HB := Lib.hid hbel
    have HO := Lib.hid hown
    clear hown hbel
    by_cases hlt : j < n
    · obtain ⟨a, x, rfl, hbl, hx, hok, hc⟩ := (H.out.keep HB.out).at_ hlt
      obtain ⟨c0, c1, c2, c3, c4, c5⟩ := hc
      have HX := Lib.hid hx
      clear hok hbl hx
      by_cases h0 : id = 0
      · have HM2 : Hid (dropsL (l.take (j + 1)) id = dropsL (l.take j) id) := Lib.hid (by rw [h0, drops_zero, drops_zero])
        go_wp2
        go_roundw
        case rel => exact ⟨j + 1, k, B, d, by omega, by omega, rfl, by go_num, by rw [HM2.out]; exact HO.out, HB.out⟩
        case measure => simp [intOf]; omega
      · have HM := Lib.hid (drops_more h0 HX.out)
        by_cases ht : x.lea = id
        · subst ht
          obtain ⟨B', d', w', hr, hown', hb'⟩ := app_mus w.heap.size B k d _ wr (dropOf x) HO.out (by omega) hsz
          have HO2 := Lib.hid hown'
          have HB2 := Lib.hid (HB.out.trans hb')
          have HM2 : Hid (dropsL (l.take (j + 1)) x.lea = dropsL (l.take j) x.lea ++ [dropOf x]) := Lib.hid (by rw [HM.out, if_pos rfl])
          dsimp only [dropOf] at hr
          clear hown' hb'
          go_wp2_with (at_builtin; refine wpList_append_eq _ rfl (.tmp 24) (.tmp 31) _ _ rfl _ _ rfl rfl hr ?_)
          go_roundw
          case rel => exact ⟨j + 1, k + 1, B', d', by omega, by omega, rfl, by go_num, by rw [HM2.out]; exact HO2.out, HB2.out⟩
          case measure => simp [intOf]; omega
        · have HM2 : Hid (dropsL (l.take (j + 1)) id = dropsL (l.take j) id) := Lib.hid (by rw [HM.out, if_neg ht])
          have hb0 : (id != 0) = true := by simp [h0]
          have hb1 : (x.lea == id) = false := by simp [ht]
          go_wp2
          go_roundw
          case rel => exact ⟨j + 1, k, B, d, by omega, by omega, rfl, by go_num, by rw [HM2.out]; exact HO.out, HB.out⟩
          case measure => simp [intOf]; omega
    · obtain rfl : j = n := by omega
      have HE : Hid (dropsL (l.take j) id = dropsL l id) := Lib.hid (by rw [take_full _ _ HL.out])
      go_wp2
      go_ret
      refine ⟨B, k, d, rfl, ?_, HB.out⟩
      rw [← HE.out]; exact ownG_rows mu_len (by omega) HO.out
theorem in_any (A : Option Addr) (n c : Nat) (l : List Int) (z : Int) (w : World) (h : Is w A n c l) (hl : n ≤ 1000000) :
    Calls Try.prog 35 #[.slice A n c, .int .i64 z] w fun e w' => e = .returned (.bool (decide (z ∈ l))) ∧ w = w' := by
  have H := Lib.hid h
  have HL := Lib.hid h.len
  clear h
  go_enter Try.func35, Try.ntmps35
  go_wp2
  go_loop [5] (fun i => ∃ k : Nat, k ≤ n ∧ i = .int .i64 k ∧ Hid (z ∉ l.take k)) (fun i => n - (intOf i).toNat)
  case atStart => exact ⟨0, Nat.zero_le _, rfl, Lib.hid (by simp)⟩
  case round =>
    obtain ⟨k, hk, rfl, hn⟩ := hrel
    by_cases hlt : k < n
    · obtain ⟨a, y, rfl, hx, hc⟩ := H.out.at_ hlt
      have HX := Lib.hid hx
      clear hx
      by_cases he : y = z
      · have HT : Hid (decide (z ∈ l) = true) := Lib.hid (decide_eq_true (by rw [← he]; exact List.mem_of_getElem? HX.out))
        have he2 : (y == z) = true := by simp [he]
        go_wp2
        go_ret
        exact ⟨retB HT.out.symm, rfl⟩
      · have HT : Hid (z ∉ l.take (k + 1)) := Lib.hid (by rw [take_succ l k y HX.out]; intro hm; rcases List.mem_append.1 hm with hm | hm; exact hn.out hm; simp at hm; exact he hm.symm)
        have he2 : (y == z) = false := by simp [he]
        go_wp2
        go_round
        case rel => exact ⟨k + 1, by omega, by go_num, HT⟩
        case measure => simp [intOf]; omega
    · obtain rfl : k = n := by omega
      have HT : Hid (decide (z ∈ l) = false) := Lib.hid (decide_eq_false (by have := hn.out; rwa [take_full _ _ HL.out] at this))
      go_wp2
      go_ret
      exact ⟨retB HT.out.symm, rfl⟩
theorem ints_same (A B : Option Addr) (n c d : Nat) (l : List Int) (w : World) (h : Is w A n c l) (g : Is w B n d l) (hm : n ≤ 1000000) :
    Calls Try.prog 29 #[.slice A n c, .slice B n d] w fun e w' => e = .returned (.bool true) ∧ Below w.heap.size w w' := by
  have H := Lib.hid h
  have G := Lib.hid g
  clear h g
  go_enter Try.func29, Try.ntmps29
  go_wp2
  go_loopw [5] (fun i wr => ∃ k q : Nat, k ≤ n ∧ i = .int .i64 k ∧ wr = w.drewN q) (fun i _ => n - (intOf i).toNat)
  case atStart => exact ⟨0, 0, Nat.zero_le _, rfl, rfl⟩
  case round =>
    obtain ⟨k, q, hk, rfl, rfl⟩ := hrel
    by_cases hlt : k < n
    · obtain ⟨a, x, rfl, hx, hc⟩ := H.out.at_ hlt
      obtain ⟨b, y, rfl, hy, gc⟩ := G.out.at_ hlt
      obtain rfl : x = y := Option.some.inj (hx.symm.trans hy)
      clear hx hy
      go_wp2
      go_quiet (fail)
      go_wp2
      go_roundw
      case rel => exact ⟨k + 1, _, by omega, by go_num, rfl⟩
      case measure => simp [intOf]; omega
    · obtain rfl : k = n := by omega
      go_wp2
      go_ret
      exact ⟨rfl, below_drewN (Below.refl _ _) _⟩
theorem neq_mu (w : World) (g : Bool) (a b : ByteArray) (i : Int) :
    (binOp .neq 50 (.agg #[.bool g, .string a, .string b, .int .i64 i]) (.agg #[.bool g, .string a, .string b, .int .i64 i])).run Try.prog w = .ok (.bool false) w := by
  simp [go_sem, Try.underlying50]
theorem muts_same (A B : Option Addr) (n c d : Nat) (l : List Mu) (w : World) (h : Mus w A n c l) (g : Mus w B n d l) (hm : n ≤ 1000000) :
    Calls Try.prog 32 #[.slice A n c, .slice B n d] w fun e w' => e = .returned (.bool true) ∧ Below w.heap.size w w' := by
  have H := Lib.hid h
  have G := Lib.hid g
  clear h g
  go_enter Try.func32, Try.ntmps32
  go_wp2
  go_loopw [5] (fun i wr => ∃ k q : Nat, k ≤ n ∧ i = .int .i64 k ∧ wr = w.drewN q) (fun i _ => n - (intOf i).toNat)
  case atStart => exact ⟨0, 0, Nat.zero_le _, rfl, rfl⟩
  case round =>
    obtain ⟨k, q, hk, rfl, rfl⟩ := hrel
    by_cases hlt : k < n
    · obtain ⟨a, x, rfl, hbl, hx, hc⟩ := RowsOf.at_ H.out hlt
      obtain ⟨b, y, rfl, gbl, hy, gc⟩ := RowsOf.at_ G.out hlt
      obtain rfl : x = y := Option.some.inj (hx.symm.trans hy)
      have c0 : w.cell? (a.add (k * 4)) = some (.bool x.gone) := hc 0 _ rfl
      have c1 : w.cell? ⟨(a.add (k * 4)).block, (a.add (k * 4)).off + 1, none⟩ = some (.string x.key) := hc 1 _ rfl
      have c2 : w.cell? ⟨(a.add (k * 4)).block, (a.add (k * 4)).off + 2, none⟩ = some (.string x.val) := hc 2 _ rfl
      have c3 : w.cell? ⟨(a.add (k * 4)).block, (a.add (k * 4)).off + 3, none⟩ = some (.int .i64 x.lea) := hc 3 _ rfl
      have d0 : w.cell? (b.add (k * 4)) = some (.bool x.gone) := gc 0 _ rfl
      have d1 : w.cell? ⟨(b.add (k * 4)).block, (b.add (k * 4)).off + 1, none⟩ = some (.string x.key) := gc 1 _ rfl
      have d2 : w.cell? ⟨(b.add (k * 4)).block, (b.add (k * 4)).off + 2, none⟩ = some (.string x.val) := gc 2 _ rfl
      have d3 : w.cell? ⟨(b.add (k * 4)).block, (b.add (k * 4)).off + 3, none⟩ = some (.int .i64 x.lea) := gc 3 _ rfl
      have hne := neq_mu
      clear hx hy hc gc hbl gbl
      go_wp2
      go_quiet (fail)
      go_wp2
      go_roundw
      case rel => exact ⟨k + 1, _, by omega, by go_num, rfl⟩
      case measure => simp [intOf]; omega
    · obtain rfl : k = n := by omega
      go_wp2
      go_ret
      exact ⟨rfl, below_drewN (Below.refl _ _) _⟩
theorem neq_le (w : World) (i j k : Int) : (binOp .neq 80 (.agg #[.int .i64 i, .int .i64 j, .int .i64 k]) (.agg #[.int .i64 i, .int .i64 j, .int .i64 k])).run Try.prog w = .ok (.bool false) w := by
  simp [go_sem, Try.underlying80]
theorem ls_same (s : Ls) (A B : Option Addr) (n c d : Nat) (w : World) (h : LsAt w s A n c) (g : LsAt w s B n d) (hm : n ≤ 1000000) :
    Calls Try.prog 21 #[s.agg A n c, s.agg B n d] w fun e w' => e = .returned (.bool true) ∧ Below w.heap.size w w' := by
  have bn := then_ (new1 w (.cells (lsCells s A n c) 24)) (new1 _ (.cells (lsCells s B n d) 24))
  have H := Lib.hid (h.keep bn)
  have G := Lib.hid (g.keep bn)
  have BN := Lib.hid bn
  have O := Lib.hid ((own_new w (lsCells s A n c) 24).alloc (.cells (lsCells s B n d) 24))
  have R := Lib.hid (own_new2 w (.cells (lsCells s A n c) 24) (lsCells s B n d) 24)
  have q0 := O.out.cell 0 _ rfl
  have q1 := O.out.cell 1 _ rfl
  have r0 := R.out.cell 0 _ rfl
  have r1 := R.out.cell 1 _ rfl
  clear h g bn
  go_enter Try.func21, Try.ntmps21
  go_wp2
  go_loopw [5] (fun i wr => ∃ k q : Nat, k ≤ n ∧ i = .int .i64 k ∧ wr = ((w.alloc (.cells (lsCells s A n c) 24)).alloc (.cells (lsCells s B n d) 24)).drewN q) (fun i _ => n - (intOf i).toNat)
  case atStart => exact ⟨0, 0, Nat.zero_le _, rfl, rfl⟩
  case round =>
    obtain ⟨k, q, hk, rfl, rfl⟩ := hrel
    by_cases hlt : k < n
    · obtain ⟨a, x, rfl, hbl, hx, hok, hc⟩ := H.out.row.at_ hlt
      obtain ⟨b, y, rfl, gbl, hy, gok, gc⟩ := G.out.row.at_ hlt
      obtain rfl : x = y := Option.some.inj (hx.symm.trans hy)
      obtain ⟨c0, c1, c2⟩ := hc
      obtain ⟨d0, d1, d2⟩ := gc
      have hne := neq_le
      clear hx hy hok gok hbl gbl
      go_wp2
      go_quiet (fail)
      go_wp2
      go_roundw
      case rel => exact ⟨k + 1, _, by omega, by go_num, rfl⟩
      case measure => simp [intOf]; omega
    · obtain rfl : k = n := by omega
      go_wp2
      go_ret
      exact ⟨rfl, below_drewN BN.out _⟩
end Go.Proofs.Ytelepkofhdjagab.P
