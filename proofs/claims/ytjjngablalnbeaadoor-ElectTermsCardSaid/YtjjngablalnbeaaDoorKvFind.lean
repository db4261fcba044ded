/- A thing is found by its key: hist's way, by a closure, and the document's. -/
import Derived.Test.YtjjngablalnbeaaDoorKvRead
import Derived.Lib.QuietBelow
namespace Go.Proofs.YtjjngablalnbeaaDoor.P
open Go.RowKit Go.Sort
set_option maxHeartbeats 400000
set_option linter.unusedVariables false
set_option linter.unusedSimpArgs false
set_option maxRecDepth 100000

theorem of_any (k : ByteArray) (w : World) :
    Calls Tryd.prog 72 #[.string k] w fun e w' => e = .returned (.func (.func 77) #[] #[.pointer (some ⟨w.heap.size, 0, none⟩)]) ∧
      w'.cell? ⟨w.heap.size, 0, none⟩ = some (.string k) ∧ w'.heap.size = w.heap.size + 1 ∧ Below w.heap.size w w' := by
  go_enter Tryd.func72, Tryd.ntmps72
  go_wp2
  go_ret
  refine ⟨rfl, ?_, by simp, (Below.refl _ _).alloc (Nat.le_refl _) _⟩
  simp [go_sem]

theorem off_any (x : KV) (k : ByteArray) (p : Addr) (w : World) (hp : w.cell? p = some (.string k)) :
    Calls Tryd.prog 77 #[x.agg, .pointer (some p)] w fun e w' => e = .returned (.bool (teq x.key k)) ∧ Below w.heap.size w w' := by
  have hlt := World.block_lt_of_cell? w p hp
  go_enter Tryd.func77, Tryd.ntmps77
  go_wp2
  go_ret
  exact ⟨rfl, (Below.refl _ _).alloc (Nat.le_refl _) _⟩

/-- Where the first thing of a key stands, or -1. -/
def IdxIs (l : List KV) (k : ByteArray) (i : Int) : Prop :=
  (i = -1 ∧ ∀ y ∈ l, teq y.key k = false) ∨ (∃ (j : Nat) (x : KV), i = j ∧ l[j]? = some x ∧ teq x.key k = true ∧ ∀ y ∈ l.take j, teq y.key k = false)
def IdxEnd (l : List KV) (k : ByteArray) (w : World) (e : Ending) (w' : World) : Prop := ∃ i : Int, e = .returned (.int .i64 i) ∧ IdxIs l k i ∧ Below w.heap.size w w'
theorem none_of_all {l : List KV} {k : ByteArray} {j : Nat} (h : AllTo (fun y => !teq y.key k) l j) : ∀ y ∈ l.take j, teq y.key k = false := fun y hy => by
  have := List.all_eq_true.1 h.out y hy
  simpa using this

theorem index_any (A : Option Addr) (n c : Nat) (l : List KV) (k : ByteArray) (p : Addr) (w : World) (h : KVs w A n c l) (hn : n ≤ 1000000) (hp : w.cell? p = some (.string k)) :
    Calls Tryd.prog 71 #[.slice A n c, .func (.func 77) #[] #[.pointer (some p)]] w (IdxEnd l k w) := by
  have hlt0 := World.block_lt_of_cell? w p hp
  have H := Lib.hid h
  have HP := Lib.hid hp
  have HL := Lib.hid hlt0
  clear h hp hlt0
  go_enter Tryd.func71, Tryd.ntmps71
  go_wp2
  go_loopw [8] (fun i wr => ∃ j : Nat, j ≤ n ∧ i = .int .i64 j ∧ AllTo (fun y => !teq y.key k) l j ∧ Below w.heap.size w wr) (fun i _ => n - (intOf i).toNat)
  case atStart => exact ⟨0, Nat.zero_le _, rfl, rfl, Below.refl _ _⟩
  case round =>
    obtain ⟨j, hj, rfl, hall, hbel⟩ := hrel
    by_cases hlt : j < n
    · obtain ⟨a, x, rfl, hbl, hx, hok, hc⟩ := (H.out.keep hbel).at_ hlt
      obtain ⟨c0, c1, c2, c3, c4, c5⟩ := hc
      have HA := Lib.hid hall
      have HB := Lib.hid hbel
      have HX := Lib.hid hx
      have HC := Lib.hid ((HB.out.cell HL.out).trans HP.out)
      clear hok hall hbel hx hbl
      cases ht : teq x.key k with
      | true =>
        have HT := Lib.hid ht
        clear ht
        go_wp2_with fail
        refine (off_any x k p wr HC.out).mono ?_; rintro e w1 ⟨rfl, hb⟩
        have HB1 := Lib.hid hb
        clear hb
        rw [HT.out]
        go_wp2
        go_ret
        exact ⟨j, rfl, .inr ⟨j, x, rfl, HX.out, HT.out, none_of_all HA.out⟩, HB.out.trans (HB1.out.mono HB.out.size)⟩
      | false =>
        have HT := Lib.hid ht
        clear ht
        go_wp2_with fail
        refine (off_any x k p wr HC.out).mono ?_; rintro e w1 ⟨rfl, hb⟩
        have HB1 := Lib.hid hb
        clear hb
        rw [HT.out]
        go_wp2
        go_roundw
        case rel => exact ⟨j + 1, by omega, by go_num, by show _ = true; rw [all_take_s l _ j x HX.out, HA.out.out, HT.out]; rfl, HB.out.trans (HB1.out.mono HB.out.size)⟩
        case measure => simp [intOf]; omega
    · have e : j = n := by omega
      subst e
      have HA := Lib.hid hall
      have HB := Lib.hid hbel
      clear hall hbel
      go_wp2
      go_ret
      exact ⟨-1, rfl, .inl ⟨rfl, by have := none_of_all HA.out; rwa [take_full l j H.out.len] at this⟩, HB.out⟩

theorem IdxIs.find {l : List KV} {k : ByteArray} {i : Int} (h : IdxIs l k i) : (i = -1 ∧ findL l k = none ∧ takeL l k = l) ∨
    (∃ (j : Nat) (x : KV), i = j ∧ l[j]? = some x ∧ findL l k = some x ∧ takeL l k = l.take j ++ l.drop (j + 1)) := by
  rcases h with ⟨rfl, h⟩ | ⟨j, x, rfl, hx, ht, h⟩
  · have h1 := findL_pre l [] k h
    have h2 := takeL_pre l [] k h
    rw [List.append_nil] at h1 h2
    exact .inl ⟨rfl, h1, by rw [h2]; simp [takeL]⟩
  · refine .inr ⟨j, x, rfl, hx, ?_, ?_⟩
    · rw [split_at l j x hx, findL_pre _ _ k h]
      simp [findL, ht]
    · conv => lhs; rw [split_at l j x hx]
      rw [takeL_pre _ _ k h]
      simp [takeL, ht]

theorem idx_exists (l : List KV) (k : ByteArray) : ∃ i, IdxIs l k i := by
  induction l with
  | nil => exact ⟨-1, .inl ⟨rfl, fun y hy => by simp at hy⟩⟩
  | cons z r ih =>
    cases hz : teq z.key k with
    | true => exact ⟨0, .inr ⟨0, z, rfl, rfl, hz, fun y hy => by simp at hy⟩⟩
    | false =>
      obtain ⟨i, ⟨rfl, h⟩ | ⟨j, x, rfl, hx, ht, h⟩⟩ := ih
      · exact ⟨-1, .inl ⟨rfl, fun y hy => by rcases List.mem_cons.1 hy with rfl | hy; exact hz; exact h y hy⟩⟩
      · exact ⟨((j + 1 : Nat) : Int), .inr ⟨j + 1, x, rfl, by simpa using hx, ht, fun y hy => by
          rw [List.take_succ_cons] at hy
          rcases List.mem_cons.1 hy with rfl | hy
          · exact hz
          · exact h y hy⟩⟩
theorem idx_unique {l : List KV} {k : ByteArray} {i i' : Int} (h : IdxIs l k i) (h' : IdxIs l k i') : i = i' := by
  have key : ∀ (j j' : Nat) (x x' : KV), l[j]? = some x → teq x.key k = true → l[j']? = some x' → (∀ y ∈ l.take j', teq y.key k = false) → ¬ j < j' := fun j j' x x' hx ht hx' hall hlt => by
    have : x ∈ l.take j' := List.mem_of_getElem? (i := j) (by rw [List.getElem?_take_of_lt hlt]; exact hx)
    rw [hall x this] at ht
    cases ht
  rcases h with ⟨rfl, h⟩ | ⟨j, x, rfl, hx, ht, h⟩
  · rcases h' with ⟨rfl, _⟩ | ⟨j, x, rfl, hx, ht, _⟩
    · rfl
    · have := h x (List.mem_of_getElem? hx); rw [ht] at this; cases this
  · rcases h' with ⟨rfl, h'⟩ | ⟨j', x', rfl, hx', ht', h'⟩
    · have := h' x (List.mem_of_getElem? hx); rw [ht] at this; cases this
    · have h1 := key j j' x x' hx ht hx' h'
      have h2 := key j' j x' x hx' ht' hx h
      omega

abbrev zeroAgg : Value := .agg #[.string ⟨#[]⟩, .string ⟨#[]⟩, .int .i64 0, .int .i64 0, .int .i64 0, .int .i64 0]
/-- What a search ends in. -/
def FoundEnd (o : Option KV) (w : World) (e : Ending) (w' : World) : Prop :=
  (match o with | some x => e = .returned (.tuple #[x.agg, .bool true]) | none => e = .returned (.tuple #[zeroAgg, .bool false])) ∧ Below w.heap.size w w'
theorem FoundEnd.to_none {l : List KV} {k : ByteArray} {w : World} {e : Ending} {w' : World} (hf : findL l k = none) (h : e = .returned (.tuple #[zeroAgg, .bool false]) ∧ Below w.heap.size w w') : FoundEnd (findL l k) w e w' := by rw [hf]; exact h
theorem FoundEnd.to_some {l : List KV} {k : ByteArray} {x : KV} {w : World} {e : Ending} {w' : World} (hf : findL l k = some x) (h : e = .returned (.tuple #[x.agg, .bool true]) ∧ Below w.heap.size w w') : FoundEnd (findL l k) w e w' := by rw [hf]; exact h
theorem FoundEnd.none_ {w : World} {e : Ending} {w' : World} (h : FoundEnd none w e w') : e = .returned (.tuple #[zeroAgg, .bool false]) ∧ Below w.heap.size w w' := h
theorem FoundEnd.some_ {x : KV} {w : World} {e : Ending} {w' : World} (h : FoundEnd (some x) w e w') : e = .returned (.tuple #[x.agg, .bool true]) ∧ Below w.heap.size w w' := h


theorem find_ref (A : Option Addr) (n c : Nat) (l : List KV) (k : ByteArray) (w : World) (h : KVs w A n c l) (hn : n ≤ 1000000) :
    Calls Tryd.prog 27 #[.slice A n c, .string k] w (FoundEnd (findL l k) w) := by
  have H := Lib.hid h
  clear h
  have HW := Lib.hid (H.out.keep ((Below.refl w.heap.size w).alloc (Nat.le_refl _) (.cells #[.string ⟨#[]⟩, .string ⟨#[]⟩, .int .i64 0, .int .i64 0, .int .i64 0, .int .i64 0] 26)))
  have HL := Lib.hid H.out.len
  go_enter Tryd.func27, Tryd.ntmps27
  go_wp2
  go_loop [6] (fun i => ∃ j : Nat, j ≤ n ∧ i = .int .i64 j ∧ AllTo (fun y => !teq y.key k) l j) (fun i => n - (intOf i).toNat)
  case atStart => exact ⟨0, Nat.zero_le _, rfl, rfl⟩
  case round =>
    obtain ⟨j, hj, rfl, hall⟩ := hrel
    by_cases hlt : j < n
    · obtain ⟨a, x, rfl, hbl, hx, hok, hc⟩ := HW.out.at_ hlt
      obtain ⟨c0, c1, c2, c3, c4, c5⟩ := hc
      have HA := Lib.hid hall
      have HX := Lib.hid hx
      clear hok hall hx hbl
      cases ht : teq x.key k with
      | true =>
        have HT := Lib.hid ht
        have ht' : (x.key.toList == k.toList) = true := ht
        have hfi : findL l k = some x := by
          rw [split_at l j x HX.out, findL_pre _ _ k (none_of_all HA.out)]
          simp [findL, HT.out]
        have HFI := Lib.hid hfi
        clear ht hfi
        go_wp2
        refine bodyPost_ret (v := .tuple #[x.agg, .bool true]) (by simp [results, Tryd.results27, go_sem]) rfl (FoundEnd.to_some HFI.out ⟨rfl, ?_⟩)
        exact (Below.refl _ _).alloc (Nat.le_refl _) _
      | false =>
        have HT := Lib.hid ht
        have ht' : (x.key.toList == k.toList) = false := ht
        clear ht
        go_wp2
        go_round
        case rel => exact ⟨j + 1, by omega, by go_num, by show _ = true; rw [all_take_s l _ j x HX.out, HA.out.out, HT.out]; rfl⟩
        case measure => simp [intOf]; omega
    · have e : j = n := by omega
      subst e
      have hfi : findL l k = none := by
        have := none_of_all hall
        rw [take_full l j HL.out] at this
        have h1 := findL_pre l [] k this
        rw [List.append_nil] at h1
        exact h1
      have HFI := Lib.hid hfi
      clear hfi hall
      go_wp2
      refine bodyPost_ret (v := .tuple #[zeroAgg, .bool false]) (by simp [results, Tryd.results27, go_sem]) rfl (FoundEnd.to_none HFI.out ⟨rfl, ?_⟩)
      exact (Below.refl _ _).alloc (Nat.le_refl _) _
end Go.Proofs.YtjjngablalnbeaaDoor.P
