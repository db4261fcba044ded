/- A thing is found by its key: hist's way, by a closure, and the document's. -/
import Derived.Test.YtkikfaeigoeogaaKvRead
import Derived.Lib.QuietBelow
namespace Go.Proofs.Ytkikfaeigoeogaa.P
open Go.RowKit Go.Sort
set_option maxHeartbeats 400000
set_option linter.unusedVariables false
set_option linter.unusedSimpArgs false
set_option maxRecDepth 100000

theorem of_any (k : ByteArray) (w : World) :
    Calls Try.prog 67 #[.string k] w fun e w' => e = .returned (.func (.func 78) #[] #[.pointer (some ⟨w.heap.size, 0, none⟩)]) ∧
      w'.cell? ⟨w.heap.size, 0, none⟩ = some (.string k) ∧ w'.heap.size = w.heap.size + 1 ∧ Below w.heap.size w w' := by
  go_enter Try.func67, Try.ntmps67
  go_wp2
  go_ret
  refine ⟨rfl, ?_, by simp, (Below.refl _ _).alloc (Nat.le_refl _) _⟩
  simp [go_sem]

theorem off_any (x : KV) (k : ByteArray) (p : Addr) (w : World) (hp : w.cell? p = some (.string k)) :
    Calls Try.prog 78 #[x.agg, .pointer (some p)] w fun e w' => e = .returned (.bool (teq x.key k)) ∧ Below w.heap.size w w' := by
  have hlt := World.block_lt_of_cell? w p hp
  go_enter Try.func78, Try.ntmps78
  go_wp2
  go_ret
  exact ⟨rfl, (Below.refl _ _).alloc (Nat.le_refl _) _⟩

/-- Where the first thing of a key stands, or -1. -/
def IdxIs (l : List KV) (k : ByteArray) (i : Int) : Prop :=
  (i = -1 ∧ ∀ y ∈ l, teq y.key k = false) ∨ (∃ (j : Nat) (x : KV), i = j ∧ l[j]? = some x ∧ teq x.key k = true ∧ ∀ y ∈ l.take j, teq y.key k = false)
def IdxEnd (l : List KV) (k : ByteArray) (w : World) (e : Ending) (w' : World) : Prop := ∃ i : Int, e = .returned (.int .i64 i) ∧ IdxIs l k i ∧ Below w.heap.size w w'
theorem none_of_all {l : List KV} {k : ByteArray} {j : Nat} (h : AllTo (fun y => !teq y.key k) l j) : ∀ y ∈ l.take j, teq y.key k = false := fun y hy => by
  have := List.all_eq_true.1 h.out y hy
  simpa using this

theorem index_any (A : Option Addr) (n c : Nat) (l : List KV) (k : ByteArray) (p : Addr) (w : World) (h : KVs w A n c l) (hn : n ≤ 1000000) (hp : w.cell? p = some (.string k)) :
    Calls Try.prog 66 #[.slice A n c, .func (.func 78) #[] #[.pointer (some p)]] w (IdxEnd l k w) := by
  have hlt0 := World.block_lt_of_cell? w p hp
  have H := Lib.hid h
  have HP := Lib.hid hp
  have HL := Lib.hid hlt0
  clear h hp hlt0
  go_enter Try.func66, Try.ntmps66
  go_wp2
  go_loopw [8] (fun i wr => ∃ j : Nat, j ≤ n ∧ i = .int .i64 j ∧ AllTo (fun y => !teq y.key k) l j ∧ Below w.heap.size w wr) (fun i _ => n - (intOf i).toNat)
  case atStart => exact ⟨0, Nat.zero_le _, rfl, rfl, Below.refl _ _⟩
  case round =>
    obtain ⟨j, hj, rfl, hall, hbel⟩ := hrel
    by_cases hlt : j < n
    · obtain ⟨a, x, rfl, hbl, hx, hok, hc⟩ := (H.out.keep hbel).at_ hlt
      obtain ⟨c0, c1, c2, c3, c4, c5⟩ := hc
      have HA := Lib.hid hall
      have HB := Lib.hid hbel
      have HX := Lib.hid hx
      have HC := Lib.hid ((HB.out.cell HL.out).trans HP.out)
      clear hok hall hbel hx hbl
      cases ht : teq x.key k with
      | true =>
        have HT := Lib.hid ht
        clear ht
        go_wp2_with fail
        refine (off_any x k p wr HC.out).mono ?_; rintro e w1 ⟨rfl, hb⟩
        have HB1 := Lib.hid hb
        clear hb
        rw [HT.out]
        go_wp2
        go_ret
        exact ⟨j, rfl, .inr ⟨j, x, rfl, HX.out, HT.out, none_of_all HA.out⟩, HB.out.trans (HB1.out.mono HB.out.size)⟩
      | false =>
        have HT := Lib.hid ht
        clear ht
        go_wp2_with fail
        refine (off_any x k p wr HC.out).mono ?_; rintro e w1 ⟨rfl, hb⟩
        have HB1 := Lib.hid hb
        clear hb
        rw [HT.out]
        go_wp2
        go_roundw
        case rel => exact ⟨j + 1, by omega, by go_num, by show _ = true; rw [all_take_s l _ j x HX.out, HA.out.out, HT.out]; rfl, HB.out.trans (HB1.out.mono HB.out.size)⟩
        case measure => simp [intOf]; omega
    · have e : j = n := by omega
      subst e
      have HA := Lib.hid hall
      have HB := Lib.hid hbel
      clear hall hbel
      go_wp2
      go_ret
      exact ⟨-1, rfl, .inl ⟨rfl, by have := none_of_all HA.out; rwa [take_full l j H.out.len] at this⟩, HB.out⟩

theorem IdxIs.find {l : List KV} {k : ByteArray} {i : Int} (h : IdxIs l k i) : (i = -1 ∧ findL l k = none ∧ takeL l k = l) ∨
    (∃ (j : Nat) (x : KV), i = j ∧ l[j]? = some x ∧ findL l k = some x ∧ takeL l k = l.take j ++ l.drop (j + 1)) := by
  rcases h with ⟨rfl, h⟩ | ⟨j, x, rfl, hx, ht, h⟩
  · have h1 := findL_pre l [] k h
    have h2 := takeL_pre l [] k h
    rw [List.append_nil] at h1 h2
    exact .inl ⟨rfl, h1, by rw [h2]; simp [takeL]⟩
  · refine .inr ⟨j, x, rfl, hx, ?_, ?_⟩
    · rw [split_at l j x hx, findL_pre _ _ k h]
      simp [findL, ht]
    · conv => lhs; rw [split_at l j x hx]
      rw [takeL_pre _ _ k h]
      simp [takeL, ht]

theorem idx_exists (l : List KV) (k : ByteArray) : ∃ i, IdxIs l k i := by
  induction l with
  | nil => exact ⟨-1, .inl ⟨rfl, fun y hy => by simp at hy⟩⟩
  | cons z r ih =>
    cases hz : teq z.key k with
    | true => exact ⟨0, .inr ⟨0, z, rfl, rfl, hz, fun y hy => by simp at hy⟩⟩
    | false =>
      obtain ⟨i, ⟨rfl, h⟩ | ⟨j, x, rfl, hx, ht, h⟩⟩ := ih
      · exact ⟨-1, .inl ⟨rfl, fun y hy => by rcases List.mem_cons.1 hy with rfl | hy; exact hz; exact h y hy⟩⟩
      · exact ⟨((j + 1 : Nat) : Int), .inr ⟨j + 1, x, rfl, by simpa using hx, ht, fun y hy => by
          rw [List.take_succ_cons] at hy
          rcases List.mem_cons.1 hy with rfl | hy
          · exact hz
          · exact h y hy⟩⟩
theorem idx_unique {l : List KV} {k : ByteArray} {i i' : Int} (h : IdxIs l k i) (h' : IdxIs l k i') : i = i' := by
  have key : ∀ (j j' : Nat) (x x' : KV), l[j]? = some x → teq x.key k = true → l[j']? = some x' → (∀ y ∈ l.take j', teq y.key k = false) → ¬ j < j' := fun j j' x x' hx ht hx' hall hlt => by
    have : x ∈ l.take j' := List.mem_of_getElem? (i := j) (by rw [List.getElem?_take_of_lt hlt]; exact hx)
    rw [hall x this] at ht
    cases ht
  rcases h with ⟨rfl, h⟩ | ⟨j, x, rfl, hx, ht, h⟩
  · rcases h' with ⟨rfl, _⟩ | ⟨j, x, rfl, hx, ht, _⟩
    · rfl
    · have := h x (List.mem_of_getElem? hx); rw [ht] at this; cases this
  · rcases h' with ⟨rfl, h'⟩ | ⟨j', x', rfl, hx', ht', h'⟩
    · have := h' x (List.mem_of_getElem? hx); rw [ht] at this; cases this
    · have h1 := key j j' x x' hx ht hx' h'
      have h2 := key j' j x' x hx' ht' hx h
      omega

abbrev zeroAgg : Value := .agg #[.string ⟨#[]⟩, .string ⟨#[]⟩, .int .i64 0, .int .i64 0, .int .i64 0, .int .i64 0]
/-- What a search ends in. -/
def FoundEnd (o : Option KV) (w : World) (e : Ending) (w' : World) : Prop :=
  (match o with | some x => e = .returned (.tuple #[x.agg, .bool true]) | none => e = .returned (.tuple #[zeroAgg, .bool false])) ∧ Below w.heap.size w w'
theorem FoundEnd.to_none {l : List KV} {k : ByteArray} {w : World} {e : Ending} {w' : World} (hf : findL l k = none) (h : e = .returned (.tuple #[zeroAgg, .bool false]) ∧ Below w.heap.size w w') : FoundEnd (findL l k) w e w' := by rw [hf]; exact h
theorem FoundEnd.to_some {l : List KV} {k : ByteArray} {x : KV} {w : World} {e : Ending} {w' : World} (hf : findL l k = some x) (h : e = .returned (.tuple #[x.agg, .bool true]) ∧ Below w.heap.size w w') : FoundEnd (findL l k) w e w' := by rw [hf]; exact h
theorem FoundEnd.none_ {w : World} {e : Ending} {w' : World} (h : FoundEnd none w e w') : e = .returned (.tuple #[zeroAgg, .bool false]) ∧ Below w.heap.size w w' := h
theorem FoundEnd.some_ {x : KV} {w : World} {e : Ending} {w' : World} (h : FoundEnd (some x) w e w') : e = .returned (.tuple #[x.agg, .bool true]) ∧ Below w.heap.size w w' := h

theorem find_any (A : Option Addr) (n c : Nat) (l : List KV) (k : ByteArray) (w : World) (h : KVs w A n c l) (hn : n ≤ 1000000) :
    Calls Try.prog 72 #[.slice A n c, .string k] w (FoundEnd (findL l k) w) := by
  have H := Lib.hid h
  clear h
  go_enter Try.func72, Try.ntmps72
  go_wp2_with fail
  refine (of_any _ _).mono ?_; rintro e w1 ⟨rfl, h1, hz, hb⟩
  have HC : Hid (w1.cell? ⟨w.heap.size + 1, 0, none⟩ = some (.string k)) := Lib.hid (by simpa using h1)
  have HW := Lib.hid (((Below.refl w.heap.size w).alloc (Nat.le_refl _) _).trans (hb.mono (by simp)))
  have HZ : Hid (w.heap.size + 1 < w1.heap.size) := Lib.hid (by rw [hz]; simp)
  have HV := Lib.hid hb
  clear h1 hz hb
  go_wp2_with fail
  refine (index_any A n c l k ⟨w.heap.size + 1, 0, none⟩ w1 (H.out.keep HW.out) hn HC.out).mono ?_
  rintro e w2 ⟨i, rfl, hi, hb⟩
  have HB2 := Lib.hid (HV.out.trans (hb.mono HV.out.size))
  have HW2 := Lib.hid (HW.out.trans (hb.mono HW.out.size))
  clear hb
  obtain ⟨hc, hf⟩ := bcell HB2.out
  have hz0 : w.heap.size < w2.heap.size := by have h1 := HB2.out.size; simp at h1; omega
  rcases hi.find with ⟨rfl, hfi, _⟩ | ⟨j, x, rfl, hx, hfi, _⟩
  · have HFI := Lib.hid hfi
    clear hi hfi
    go_wp2
    refine bodyPost_ret (v := .tuple #[zeroAgg, .bool false]) (by simp [results, Try.results72, go_sem, hc, hz0]) rfl (FoundEnd.to_none HFI.out ⟨rfl, ?_⟩)
    exact below_set6 HW2.out (Nat.le_refl _) _ _ _ _ _ _
  · have HFI := Lib.hid hfi
    have hjn : j < n := by rw [← H.out.len]; exact (List.getElem?_eq_some_iff.1 hx).1
    obtain ⟨a, y, rfl, hbl, hy, hok, hcy⟩ := (H.out.keep HW2.out).at_ hjn
    obtain rfl : x = y := Option.some.inj (hx.symm.trans hy)
    obtain ⟨c0, c1, c2, c3, c4, c5⟩ := hcy
    clear hi hfi hx hy hok hbl
    go_wp2
    refine bodyPost_ret (v := .tuple #[x.agg, .bool true]) (by simp [results, Try.results72, go_sem, hc, hz0]) rfl (FoundEnd.to_some HFI.out ⟨rfl, ?_⟩)
    exact below_set6 HW2.out (Nat.le_refl _) _ _ _ _ _ _

theorem find_ref (A : Option Addr) (n c : Nat) (l : List KV) (k : ByteArray) (w : World) (h : KVs w A n c l) (hn : n ≤ 1000000) :
    Calls Try.prog 60 #[.slice A n c, .string k] w (FoundEnd (findL l k) w) := by
  have H := Lib.hid h
  clear h
  have HW := Lib.hid (H.out.keep ((Below.refl w.heap.size w).alloc (Nat.le_refl _) (.cells #[.string ⟨#[]⟩, .string ⟨#[]⟩, .int .i64 0, .int .i64 0, .int .i64 0, .int .i64 0] 36)))
  have HL := Lib.hid H.out.len
  go_enter Try.func60, Try.ntmps60
  go_wp2
  go_loop [6] (fun i => ∃ j : Nat, j ≤ n ∧ i = .int .i64 j ∧ AllTo (fun y => !teq y.key k) l j) (fun i => n - (intOf i).toNat)
  case atStart => exact ⟨0, Nat.zero_le _, rfl, rfl⟩
  case round =>
    obtain ⟨j, hj, rfl, hall⟩ := hrel
    by_cases hlt : j < n
    · obtain ⟨a, x, rfl, hbl, hx, hok, hc⟩ := HW.out.at_ hlt
      obtain ⟨c0, c1, c2, c3, c4, c5⟩ := hc
      have HA := Lib.hid hall
      have HX := Lib.hid hx
      clear hok hall hx hbl
      cases ht : teq x.key k with
      | true =>
        have HT := Lib.hid ht
        have ht' : (x.key.toList == k.toList) = true := ht
        have hfi : findL l k = some x := by
          rw [split_at l j x HX.out, findL_pre _ _ k (none_of_all HA.out)]
          simp [findL, HT.out]
        have HFI := Lib.hid hfi
        clear ht hfi
        go_wp2
        refine bodyPost_ret (v := .tuple #[x.agg, .bool true]) (by simp [results, Try.results60, go_sem]) rfl (FoundEnd.to_some HFI.out ⟨rfl, ?_⟩)
        exact (Below.refl _ _).alloc (Nat.le_refl _) _
      | false =>
        have HT := Lib.hid ht
        have ht' : (x.key.toList == k.toList) = false := ht
        clear ht
        go_wp2
        go_round
        case rel => exact ⟨j + 1, by omega, by go_num, by show _ = true; rw [all_take_s l _ j x HX.out, HA.out.out, HT.out]; rfl⟩
        case measure => simp [intOf]; omega
    · have e : j = n := by omega
      subst e
      have hfi : findL l k = none := by
        have := none_of_all hall
        rw [take_full l j HL.out] at this
        have h1 := findL_pre l [] k this
        rw [List.append_nil] at h1
        exact h1
      have HFI := Lib.hid hfi
      clear hfi hall
      go_wp2
      refine bodyPost_ret (v := .tuple #[zeroAgg, .bool false]) (by simp [results, Try.results60, go_sem]) rfl (FoundEnd.to_none HFI.out ⟨rfl, ?_⟩)
      exact (Below.refl _ _).alloc (Nat.le_refl _) _
end Go.Proofs.Ytkikfaeigoeogaa.P
