/- Layer 9: the first floor of somebody. -/
import Derived.Test.YtcbnfgehmeikgaaMe
import Derived.Lib.QuietBelow
namespace Go.Proofs.Ytcbnfgehmeikgaa.P
open Go.RowKit Go.Sort
set_option maxHeartbeats 1000000
set_option linter.unusedVariables false
set_option linter.unusedSimpArgs false
set_option maxRecDepth 100000

/-- Where the first floor of somebody stands, or -1. -/
def FlIdx (old : List (Int × Int)) (who i : Int) : Prop :=
  (i = -1 ∧ ∀ y ∈ old, y.1 ≠ who) ∨ ∃ (j : Nat) (x : Int × Int), i = j ∧ old[j]? = some x ∧ x.1 = who ∧ ∀ y ∈ old.take j, y.1 ≠ who
theorem fl_pre : ∀ (a b : List (Int × Int)) (who : Int), (∀ y ∈ a, y.1 ≠ who) → flI (a ++ b) who = flI b who
  | [], b, who, _ => rfl
  | x :: r, b, who, h => by
    show (if x.1 = who then some x.2 else flI (r ++ b) who) = _
    rw [if_neg (h x List.mem_cons_self)]
    exact fl_pre r b who fun y hy => h y (List.mem_cons_of_mem _ hy)
theorem raise_pre : ∀ (a b : List (Int × Int)) (who s : Int), (∀ y ∈ a, y.1 ≠ who) → raise (a ++ b) who s = a ++ raise b who s
  | [], b, who, s, _ => rfl
  | x :: r, b, who, s, h => by
    show (if x.1 = who then (x.1, max x.2 s) :: (r ++ b) else x :: raise (r ++ b) who s) = _
    rw [if_neg (h x List.mem_cons_self), raise_pre r b who s fun y hy => h y (List.mem_cons_of_mem _ hy)]; rfl
theorem list_at {α : Type} (l : List α) (j : Nat) (x : α) (h : l[j]? = some x) : l = l.take j ++ x :: l.drop (j + 1) := by
  have hj : j < l.length := (List.getElem?_eq_some_iff.1 h).1
  have := List.drop_eq_getElem_cons hj
  have hx : l[j] = x := by rw [List.getElem?_eq_getElem hj] at h; exact Option.some.inj h
  rw [hx] at this
  conv => lhs; rw [← List.take_append_drop j l, this]
theorem FlIdx.none_ {old : List (Int × Int)} {who : Int} (h : ∀ y ∈ old, y.1 ≠ who) : flI old who = none := by
  have := fl_pre old [] who h
  rwa [List.append_nil] at this
theorem FlIdx.some_ {old : List (Int × Int)} {who : Int} {j : Nat} {x : Int × Int} (hx : old[j]? = some x) (hw : x.1 = who) (h : ∀ y ∈ old.take j, y.1 ≠ who) : flI old who = some x.2 := by
  rw [list_at old j x hx, fl_pre _ _ _ h]
  show (if x.1 = who then some x.2 else _) = _
  rw [if_pos hw]
theorem FlIdx.raise_none {old : List (Int × Int)} {who s : Int} (h : ∀ y ∈ old, y.1 ≠ who) : raise old who s = old ++ [(who, s)] := by
  have := raise_pre old [] who s h
  rwa [List.append_nil] at this
theorem FlIdx.raise_some {old : List (Int × Int)} {who s : Int} {j : Nat} {x : Int × Int} (hx : old[j]? = some x) (hw : x.1 = who) (h : ∀ y ∈ old.take j, y.1 ≠ who) : raise old who s = old.take j ++ (who, max x.2 s) :: old.drop (j + 1) := by
  conv => lhs; rw [list_at old j x hx, raise_pre _ _ _ _ h]
  show _ ++ (if x.1 = who then (x.1, max x.2 s) :: _ else _) = _
  rw [if_pos hw, hw]
theorem FlIdx.exists_ (old : List (Int × Int)) (who : Int) : ∃ i, FlIdx old who i := by
  induction old with
  | nil => exact ⟨-1, .inl ⟨rfl, fun y hy => by simp at hy⟩⟩
  | cons z r ih =>
    by_cases hz : z.1 = who
    · exact ⟨0, .inr ⟨0, z, rfl, rfl, hz, fun y hy => by simp at hy⟩⟩
    · obtain ⟨i, ⟨rfl, h⟩ | ⟨j, x, rfl, hx, ht, h⟩⟩ := ih
      · exact ⟨-1, .inl ⟨rfl, fun y hy => by rcases List.mem_cons.1 hy with rfl | hy; exact hz; exact h y hy⟩⟩
      · exact ⟨((j + 1 : Nat) : Int), .inr ⟨j + 1, x, rfl, by simpa using hx, ht, fun y hy => by
          rw [List.take_succ_cons] at hy
          rcases List.mem_cons.1 hy with rfl | hy
          · exact hz
          · exact h y hy⟩⟩
theorem FlIdx.unique {old : List (Int × Int)} {who i i' : Int} (h : FlIdx old who i) (h' : FlIdx old who i') : i = i' := by
  have key : ∀ (j j' : Nat) (x : Int × Int), old[j]? = some x → x.1 = who → (∀ y ∈ old.take j', y.1 ≠ who) → ¬ j < j' := fun j j' x hx ht hall hlt =>
    hall x (List.mem_of_getElem? (i := j) (by rw [List.getElem?_take_of_lt hlt]; exact hx)) ht
  rcases h with ⟨rfl, h⟩ | ⟨j, x, rfl, hx, ht, h⟩
  · rcases h' with ⟨rfl, _⟩ | ⟨j, x, rfl, hx, ht, _⟩
    · rfl
    · exact absurd ht (h x (List.mem_of_getElem? hx))
  · rcases h' with ⟨rfl, h'⟩ | ⟨j', x', rfl, hx', ht', h'⟩
    · exact absurd ht (h' x (List.mem_of_getElem? hx))
    · have h1 := key j j' x hx ht h'
      have h2 := key j' j x' hx' ht' h
      omega
/-- A floor as it lies. -/
theorem Fls.at_ {w : World} {A : Option Addr} {n c k : Nat} {l : List (Int × Int)} (h : Fls w A n c l) (hk : k < n) : ∃ a x, A = some a ∧ a.block < w.heap.size ∧ l[k]? = some x ∧ w.cell? (a.add (k * 2)) = some (.int .i64 x.1) ∧ w.cell? ⟨(a.add (k * 2)).block, (a.add (k * 2)).off + 1, none⟩ = some (.int .i64 x.2) := by
  obtain ⟨a, x, e, hb, hx, hl⟩ := RowsOf.at_ h hk
  exact ⟨a, x, e, hb, hx, hl 0 _ rfl, hl 1 _ rfl⟩
theorem flof_any (x : Int × Int) (who : Int) (p : Addr) (w : World) (hp : w.cell? p = some (.int .i64 who)) :
    Calls Try.prog 43 #[.agg #[.int .i64 x.1, .int .i64 x.2], .pointer (some p)] w fun e w' => e = .returned (.bool (decide (x.1 = who))) ∧ Below w.heap.size w w' := by
  have hlt := World.block_lt_of_cell? w p hp
  have HD : Hid ((x.1 == who) = decide (x.1 = who)) := Lib.hid rfl
  go_enter Try.func43, Try.ntmps43
  go_wp2
  go_ret
  exact ⟨retBo HD.out, (Below.refl _ _).alloc (Nat.le_refl _) _⟩
theorem indexf_any (A : Option Addr) (n c : Nat) (l : List (Int × Int)) (who : Int) (p : Addr) (w : World) (h : Fls w A n c l) (hn : n ≤ 1000000) (hp : w.cell? p = some (.int .i64 who)) :
    Calls Try.prog 42 #[.slice A n c, .func (.func 43) #[] #[.pointer (some p)]] w fun e w' => ∃ i : Int, e = .returned (.int .i64 i) ∧ FlIdx l who i ∧ Below w.heap.size w w' := by
  have hlt0 := World.block_lt_of_cell? w p hp
  have H := Lib.hid h
  have HP := Lib.hid hp
  have HL := Lib.hid hlt0
  have HLn := Lib.hid h.len
  clear h hp hlt0
  go_enter Try.func42, Try.ntmps42
  go_wp2
  go_loopw [8] (fun i wr => ∃ j : Nat, j ≤ n ∧ i = .int .i64 j ∧ Hid (∀ y ∈ l.take j, y.1 ≠ who) ∧ Below w.heap.size w wr) (fun i _ => n - (intOf i).toNat)
  case atStart => exact ⟨0, Nat.zero_le _, rfl, Lib.hid (fun y hy => by simp at hy), Below.refl _ _⟩
  case round =>
    obtain ⟨j, hj, rfl, hall, hbel⟩ := hrel
    by_cases hlt : j < n
    · obtain ⟨a, x, rfl, hbl, hx, c0, c1⟩ := Fls.at_ (RowsOf.below H.out hbel) hlt
      have HA := Lib.hid hall.out
      have HB := Lib.hid hbel
      have HX := Lib.hid hx
      have HC := Lib.hid ((HB.out.cell HL.out).trans HP.out)
      clear hall hbel hx hbl
      have cF := Lib.hid (flof_any x who p wr HC.out)
      by_cases ht : x.1 = who
      · have HT := Lib.hid ht
        have hd : decide (x.1 = who) = true := decide_eq_true ht
        rw [hd] at cF
        clear ht hd
        go_wp2_with fail
        refine cF.out.mono ?_; rintro e w1 ⟨rfl, hb⟩
        have HB1 := Lib.hid hb
        clear hb
        go_wp2
        go_ret
        exact ⟨j, rfl, .inr ⟨j, x, rfl, HX.out, HT.out, HA.out⟩, HB.out.trans (HB1.out.mono HB.out.size)⟩
      · have HT := Lib.hid ht
        have hd : decide (x.1 = who) = false := decide_eq_false ht
        rw [hd] at cF
        clear ht hd
        go_wp2_with fail
        refine cF.out.mono ?_; rintro e w1 ⟨rfl, hb⟩
        have HB1 := Lib.hid hb
        clear hb
        go_wp2
        go_roundw
        case rel => exact ⟨j + 1, by omega, by go_num, Lib.hid (fun y hy => by
          rw [List.take_add_one, HX.out, List.mem_append] at hy
          rcases hy with hy | hy
          · exact HA.out y hy
          · simp at hy; subst hy; exact HT.out), HB.out.trans (HB1.out.mono HB.out.size)⟩
        case measure => simp [intOf]; omega
    · have e : j = n := by omega
      subst e
      have HA := Lib.hid hall.out
      have HB := Lib.hid hbel
      clear hall hbel
      go_wp2
      go_ret
      exact ⟨-1, rfl, .inl ⟨rfl, by have := HA.out; rwa [← HLn.out, List.take_length] at this⟩, HB.out⟩
theorem floor_any (A : Option Addr) (n c : Nat) (l : List (Int × Int)) (who i : Int) (w : World) (h : Fls w A n c l) (hn : n ≤ 1000000) (hi : FlIdx l who i) :
    Calls Try.prog 35 #[.slice A n c, .int .i64 who] w fun e w' => e = .returned (.int .i64 i) ∧ Below w.heap.size w w' := by
  have B0 := Lib.hid (new1 w (.cells #[.int .i64 who] 3))
  have O0 := Lib.hid (own_new w #[.int .i64 who] 3)
  have cI := Lib.hid (indexf_any A n c l who ⟨w.heap.size, 0, none⟩ _ (h.below B0.out) hn (O0.out.cell 0 _ rfl))
  have HI := Lib.hid hi
  clear h hi
  go_enter Try.func35, Try.ntmps35
  go_wp2_with fail
  refine cI.out.mono ?_; rintro e w1 ⟨i', rfl, hi', hb⟩
  have HE : Hid (i = i') := Lib.hid (FlIdx.unique HI.out hi')
  have HB := Lib.hid (then_ B0.out hb)
  clear hi' hb
  go_wp2
  go_ret
  exact ⟨retIn HE.out.symm, HB.out⟩
theorem Floor_any (m : GMos) (A : Option Addr) (n c : Nat) (B : Option Addr) (k d : Nat) (who : Int) (w : World) (h : Fls w B k d m.2) (hn : k ≤ 1000000) :
    Calls Try.prog 19 #[moV A n c B k d, .int .i64 who] w fun e w' => e = .returned (.int .i64 (floorL m.2 who)) ∧ Below w.heap.size w w' := by
  obtain ⟨i, hi⟩ := FlIdx.exists_ m.2 who
  have B0 := Lib.hid (new1 w (.cells (moA A n c B k d) 25))
  have O0 := Lib.hid (own_new w (moA A n c B k d) 25)
  have cF := Lib.hid (floor_any B k d m.2 who i _ (h.below B0.out) hn hi)
  have H := Lib.hid h
  clear h
  rcases hi with ⟨rfl, hi⟩ | ⟨j, x, rfl, hx, hw, hi⟩
  · have HV : Hid (floorL m.2 who = -1) := Lib.hid (by unfold floorL; rw [FlIdx.none_ hi]; rfl)
    clear hi
    go_enter Try.func19, Try.ntmps19
    go_wp2_with fail
    refine cF.out.mono ?_; rintro e w1 ⟨rfl, hb⟩
    have HB := Lib.hid (then_ B0.out hb)
    clear hb
    go_wp2
    go_ret
    exact ⟨retIn HV.out.symm, HB.out⟩
  · have HV : Hid (floorL m.2 who = x.2) := Lib.hid (by unfold floorL; rw [FlIdx.some_ hx hw hi]; rfl)
    have hjk : j < k := by rw [← H.out.len]; exact (List.getElem?_eq_some_iff.1 hx).1
    have HX := Lib.hid hx
    clear hi hx hw
    go_enter Try.func19, Try.ntmps19
    go_wp2_with fail
    refine cF.out.mono ?_; rintro e w1 ⟨rfl, hb⟩
    have HB := Lib.hid (then_ B0.out hb)
    have O1 := Lib.hid (O0.out.below hb)
    obtain ⟨a, y, rfl, hbl, hy, c0, c1⟩ := Fls.at_ (RowsOf.below H.out HB.out) hjk
    obtain rfl : x = y := Option.some.inj (HX.out.symm.trans hy)
    have d1 := O1.out.cell 1 _ rfl
    clear hb hy hbl
    go_wp2
    go_ret
    exact ⟨retIn HV.out.symm, HB.out⟩
theorem floorr_any (m : GMos) (A : Option Addr) (n c : Nat) (B : Option Addr) (k d : Nat) (who : Int) (w : World) (h : Fls w B k d m.2) (hn : k ≤ 1000000) :
    Calls Try.prog 25 #[moV A n c B k d, .int .i64 who] w fun e w' => e = .returned (.int .i64 (floorL m.2 who)) ∧ Below w.heap.size w w' := by
  have B0 := Lib.hid (new1 w (.cells (moA A n c B k d) 25))
  have O0 := Lib.hid (own_new w (moA A n c B k d) 25)
  have H := Lib.hid (h.below B0.out)
  have d1 := O0.out.cell 1 _ rfl
  obtain ⟨W1, hW1⟩ : ∃ W1, W1 = w.alloc (.cells (moA A n c B k d) 25) := ⟨_, rfl⟩
  rw [← hW1] at d1
  have H1 : Hid (Fls W1 B k d m.2) := by rw [hW1]; exact H
  have HLn := Lib.hid h.len
  have hB : Hid (Below w.heap.size w W1) := by rw [hW1]; exact B0
  clear h
  go_enter Try.func25, Try.ntmps25
  go_wp2
  rw [← hW1]
  clear hW1 O0 B0 H
  go_loop [5] (fun i => ∃ j : Nat, j ≤ k ∧ i = .int .i64 j ∧ Hid (∀ y ∈ m.2.take j, y.1 ≠ who)) (fun i => k - (intOf i).toNat)
  case atStart => exact ⟨0, Nat.zero_le _, rfl, Lib.hid (fun y hy => by simp at hy)⟩
  case round =>
    obtain ⟨j, hj, rfl, hall⟩ := hrel
    by_cases hlt : j < k
    · obtain ⟨a, x, rfl, hbl, hx, c0, c1⟩ := Fls.at_ H1.out hlt
      have HX := Lib.hid hx
      clear hx hbl
      by_cases ht : x.1 = who
      · have HV : Hid (floorL m.2 who = x.2) := Lib.hid (by unfold floorL; rw [FlIdx.some_ HX.out ht hall.out]; rfl)
        subst ht
        have he : (x.1 == x.1) = true := by simp
        go_wp2
        go_ret
        exact ⟨retIn HV.out.symm, hB.out⟩
      · have HT := Lib.hid ht
        have he : (x.1 == who) = false := by simpa using ht
        clear ht
        go_wp2
        go_round
        case rel => exact ⟨j + 1, by omega, by go_num, Lib.hid (fun y hy => by
          rw [List.take_add_one, HX.out, List.mem_append] at hy
          rcases hy with hy | hy
          · exact hall.out y hy
          · simp at hy; subst hy; exact HT.out)⟩
        case measure => simp [intOf]; omega
    · obtain rfl : j = k := by omega
      have HV : Hid (floorL m.2 who = -1) := Lib.hid (by
        have := hall.out
        rw [← HLn.out, List.take_length] at this
        unfold floorL; rw [FlIdx.none_ this]; rfl)
      go_wp2
      go_ret
      exact ⟨retIn HV.out.symm, hB.out⟩
end Go.Proofs.Ytcbnfgehmeikgaa.P
