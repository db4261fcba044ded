/- What a machine asks to be done: a thing laid once, a thing laid while it is the same one; and requests that are the same. -/
import Derived.Test.YthagkjadbfodaaaDoorMcJoin
import Derived.BigQuiet
namespace Go.Proofs.YthagkjadbfodaaaDoor.P
open Go.RowKit Go.Sort
set_option maxHeartbeats 4000000
set_option linter.unusedVariables false
set_option linter.unusedSimpArgs false
set_option maxRecDepth 100000

/-- A question whether a key was made at a revision; a deed. -/
structure ACm where
  key : ByteArray
  rev : Int
structure AMu where
  gone : Bool
  key : ByteArray
  val : ByteArray
  lea : Int
abbrev ACm.arr (x : ACm) : Array Value := #[.string x.key, .int .i64 1, .int .i64 1, .int .i64 x.rev, .string ⟨#[]⟩]
abbrev AMu.arr (x : AMu) : Array Value := #[.bool x.gone, .string x.key, .string x.val, .int .i64 x.lea]
def ACm.cells (x : ACm) : List Value := [.string x.key, .int .i64 1, .int .i64 1, .int .i64 x.rev, .string ⟨#[]⟩]
def AMu.cells (x : AMu) : List Value := [.bool x.gone, .string x.key, .string x.val, .int .i64 x.lea]
theorem lies_grown {α : Type} {cells : α → List Value} {w w' : World} {p : Addr} {x : α} {row : Option Nat} (h : Lies cells w p x) (hlt : p.block < w.heap.size) (hg : w.grownBy w' row) (hne : some p.block ≠ row) : Lies cells w' p x := fun j v hv => by
  have h1 := h j v hv
  have e : w'.cell? (subA p j) = w.cell? (subA p j) := World.cell?_of_block (by rw [subA_block]; exact hg.block _ hlt hne)
  exact e.trans h1
theorem RowsOf.grown {α : Type} {cells : α → List Value} {q : Nat} {w w' : World} {A : Option Addr} {n c : Nat} {l : List α} {row : Option Nat} (h : RowsOf cells q w A n c l) (hg : w.grownBy w' row) (hne : ∀ a, A = some a → some a.block ≠ row) : RowsOf cells q w' A n c l :=
  ⟨h.len, h.le, h.max, fun hn => by
    obtain ⟨a, e, hlt, hx⟩ := h.rd hn
    exact ⟨a, e, Nat.lt_of_lt_of_le hlt hg.size, fun i x hi => lies_grown (hx i x hi) (by rw [Go.Proofs.YthagkjadbfodaaaDoor.P.block_add]; exact hlt) hg (by rw [Go.Proofs.YthagkjadbfodaaaDoor.P.block_add]; exact hne a e)⟩, h.nil⟩
def TxTo (iff : List ACm) (thn : List AMu) (w : World) (e : Ending) (w' : World) : Prop :=
  ∃ A n c B m d, e = .returned (.agg #[.slice A n c, .slice B m d, .slice none 0 0]) ∧ RowsOf ACm.cells 5 w' A n c iff ∧ RowsOf AMu.cells 4 w' B m d thn ∧ Below w.heap.size w w' ∧ (∀ a, A = some a → w.heap.size ≤ a.block) ∧ (∀ a, B = some a → w.heap.size ≤ a.block)
abbrev zTx : Array Value := #[.slice none 0 0, .slice none 0 0, .slice none 0 0]
abbrev zCm : Array Value := #[.string ⟨#[]⟩, .int .i64 0, .int .i64 0, .int .i64 0, .string ⟨#[]⟩]
theorem made_any (k : ByteArray) (rev : Int) (w : World) : Calls Tryd.prog 63 #[.string k, .int .i64 rev] w fun e w' => e = .returned (.agg (ACm.arr ⟨k, rev⟩)) ∧ Below w.heap.size w w' := by
  go_enter Tryd.func63, Tryd.ntmps63
  go_wp2
  exact bodyPost_ret (v := .agg (ACm.arr ⟨k, rev⟩)) (by simp [results, Tryd.results63, go_sem]) rfl ⟨rfl, new1 w _⟩
theorem absentr_any (k : ByteArray) (w : World) : Calls Tryd.prog 44 #[.string k] w fun e w' => e = .returned (.agg (ACm.arr ⟨k, 0⟩)) ∧ Below w.heap.size w w' := by
  go_enter Tryd.func44, Tryd.ntmps44
  go_wp2
  exact bodyPost_ret (v := .agg (ACm.arr ⟨k, 0⟩)) (by simp [results, Tryd.results44, go_sem]) rfl ⟨rfl, new1 w _⟩
theorem absent_any (k : ByteArray) (w : World) : Calls Tryd.prog 57 #[.string k] w fun e w' => e = .returned (.agg (ACm.arr ⟨k, 0⟩)) ∧ Below w.heap.size w w' := by
  have R0 := Lib.hid (own_new w zCm 67)
  have B0 := Lib.hid (new1 w (.cells zCm 67))
  go_enter Tryd.func57, Tryd.ntmps57
  go_wp2_with fail
  refine (made_any k 0 _).mono ?_; rintro e w1 ⟨rfl, hb⟩
  have R1 := Lib.hid (R0.out.below hb)
  have B1 := Lib.hid (then_ B0.out hb)
  clear hb
  go_wp2_with (refine wpList_store_row rfl 67 _ _ rfl _ _ rfl rfl 67 _ (R1.out).ex (by kernel_rfl) rfl (by simp [Value.oneCell']) ?_)
  exact bodyPost_ret (v := .agg (ACm.arr ⟨k, 0⟩)) (results_row0 Tryd.results57 _ _ w.heap.size 67 _ _ rfl (R1.out.row _).ex Tryd.underlying67 rfl (by kernel_rfl)) rfl ⟨rfl, below_setRow B1.out (Nat.le_refl _) _⟩
theorem put_any (k v : ByteArray) (l : Int) (w : World) : Calls Tryd.prog 51 #[.string k, .string v, .int .i64 l] w (TxTo [⟨k, 0⟩] [⟨false, k, v, l⟩] w) := by
  have R0 := Lib.hid (own_new w zTx 34)
  have B0 := Lib.hid (new1 w (.cells zTx 34))
  go_enter Tryd.func51, Tryd.ntmps51
  go_wp2_with fail
  refine (absent_any k _).mono ?_; rintro e w1 ⟨rfl, hb⟩
  have R1 := Lib.hid (R0.out.below hb)
  have B1 := Lib.hid (then_ B0.out hb)
  clear hb
  have hg := R1.out.lt
  have N1 := new1 (w1.alloc (.cells (ACm.arr ⟨k, 0⟩) 67)) (.cells (AMu.arr ⟨false, k, v, l⟩) 53)
  have C1 := Lib.hid ((rows_new (cells := ACm.cells) (q := 5) (fun _ => rfl) (e := 67) w1 ⟨k, 0⟩ (ACm.arr ⟨k, 0⟩) rfl).below N1)
  have M1 := Lib.hid (rows_new (cells := AMu.cells) (q := 4) (fun _ => rfl) (e := 53) (w1.alloc (.cells (ACm.arr ⟨k, 0⟩) 67)) ⟨false, k, v, l⟩ (AMu.arr ⟨false, k, v, l⟩) rfl)
  have BF := Lib.hid (then_ (then_ B1.out (new1 w1 (.cells (ACm.arr ⟨k, 0⟩) 67))) N1)
  clear N1
  go_wp2_with (refine wpList_store_row rfl 34 _ _ rfl _ _ rfl rfl 34 _ ((R1.out.alloc _).alloc _).ex (by kernel_rfl) rfl (by simp [Value.oneCell']) ?_)
  refine bodyPost_ret (v := .agg #[.slice (some ⟨w1.heap.size, 0, none⟩) 1 1, .slice (some ⟨w1.heap.size + 1, 0, none⟩) 1 1, .slice none 0 0]) (results_row0 Tryd.results51 _ _ w.heap.size 34 _ _ rfl (((R1.out.alloc _).alloc _).row _).ex Tryd.underlying34 rfl (by kernel_rfl)) rfl ⟨_, _, _, _, _, _, rfl, C1.out.grown (grown_row _ _ _) (fun a ha hh => by injection ha with ha; subst ha; injection hh with hh; simp only at hh; omega), ?_, below_setRow BF.out (Nat.le_refl _) _, (fun a ha => by injection ha with ha; subst ha; simp only; omega), (fun a ha => by injection ha with ha; subst ha; simp only; omega)⟩
  have h := M1.out
  rw [show (w1.alloc (.cells (ACm.arr ⟨k, 0⟩) 67)).heap.size = w1.heap.size + 1 by simp] at h
  exact h.grown (grown_row _ _ _) (fun a ha hh => by injection ha with ha; subst ha; injection hh with hh; simp only at hh; omega)
theorem putr_any (k v : ByteArray) (l : Int) (w : World) : Calls Tryd.prog 21 #[.string k, .string v, .int .i64 l] w (TxTo [⟨k, 0⟩] [⟨false, k, v, l⟩] w) := by
  have R0 := Lib.hid (own_new w zTx 34)
  have B0 := Lib.hid (new1 w (.cells zTx 34))
  go_enter Tryd.func21, Tryd.ntmps21
  go_wp2_with fail
  refine (absentr_any k _).mono ?_; rintro e w1 ⟨rfl, hb⟩
  have R1 := Lib.hid (R0.out.below hb)
  have B1 := Lib.hid (then_ B0.out hb)
  clear hb
  have hg := R1.out.lt
  have N1 := new1 (w1.alloc (.cells (ACm.arr ⟨k, 0⟩) 67)) (.cells (AMu.arr ⟨false, k, v, l⟩) 53)
  have C1 := Lib.hid ((rows_new (cells := ACm.cells) (q := 5) (fun _ => rfl) (e := 67) w1 ⟨k, 0⟩ (ACm.arr ⟨k, 0⟩) rfl).below N1)
  have M1 := Lib.hid (rows_new (cells := AMu.cells) (q := 4) (fun _ => rfl) (e := 53) (w1.alloc (.cells (ACm.arr ⟨k, 0⟩) 67)) ⟨false, k, v, l⟩ (AMu.arr ⟨false, k, v, l⟩) rfl)
  have BF := Lib.hid (then_ (then_ B1.out (new1 w1 (.cells (ACm.arr ⟨k, 0⟩) 67))) N1)
  clear N1
  go_wp2_with (refine wpList_store_row rfl 34 _ _ rfl _ _ rfl rfl 34 _ ((R1.out.alloc _).alloc _).ex (by kernel_rfl) rfl (by simp [Value.oneCell']) ?_)
  refine bodyPost_ret (v := .agg #[.slice (some ⟨w1.heap.size, 0, none⟩) 1 1, .slice (some ⟨w1.heap.size + 1, 0, none⟩) 1 1, .slice none 0 0]) (results_row0 Tryd.results21 _ _ w.heap.size 34 _ _ rfl (((R1.out.alloc _).alloc _).row _).ex Tryd.underlying34 rfl (by kernel_rfl)) rfl ⟨_, _, _, _, _, _, rfl, C1.out.grown (grown_row _ _ _) (fun a ha hh => by injection ha with ha; subst ha; injection hh with hh; simp only at hh; omega), ?_, below_setRow BF.out (Nat.le_refl _) _, (fun a ha => by injection ha with ha; subst ha; simp only; omega), (fun a ha => by injection ha with ha; subst ha; simp only; omega)⟩
  have h := M1.out
  rw [show (w1.alloc (.cells (ACm.arr ⟨k, 0⟩) 67)).heap.size = w1.heap.size + 1 by simp] at h
  exact h.grown (grown_row _ _ _) (fun a ha hh => by injection ha with ha; subst ha; injection hh with hh; simp only at hh; omega)
theorem neq_mu_same (w : World) (x : AMu) : (binOp .neq 53 (.agg x.arr) (.agg x.arr)).run Tryd.prog w = .ok (.bool false) w := by
  simp [go_sem, Tryd.underlying53]
theorem neq_cm_same (w : World) (x : ACm) : (binOp .neq 67 (.agg x.arr) (.agg x.arr)).run Tryd.prog w = .ok (.bool false) w := by
  simp [go_sem, Tryd.underlying67]
theorem muts3_same (A B : Option Addr) (n c d : Nat) (l : List AMu) (w : World) (h : RowsOf AMu.cells 4 w A n c l) (g : RowsOf AMu.cells 4 w B n d l) :
    Calls Tryd.prog 26 #[.slice A n c, .slice B n d] w fun e w' => e = .returned (.bool true) ∧ Below w.heap.size w w' := by
  have hmax := Nat.le_trans h.le h.max
  unfold maxLen at hmax
  have H := Lib.hid h
  have G := Lib.hid g
  clear h g
  go_enter Tryd.func26, Tryd.ntmps26
  go_wp2
  go_loopw [5] (fun i wr => ∃ k q : Nat, k ≤ n ∧ i = .int .i64 k ∧ wr = w.drewN q) (fun i _ => n - (intOf i).toNat)
  case atStart => exact ⟨0, 0, Nat.zero_le _, rfl, rfl⟩
  case round =>
    obtain ⟨k, q, hk, rfl, rfl⟩ := hrel
    by_cases hlt : k < n
    · obtain ⟨a, x, rfl, _, hx, hc⟩ := H.out.at_ hlt
      obtain ⟨b, y, rfl, _, hy, hd⟩ := G.out.at_ hlt
      obtain rfl : x = y := Option.some.inj (hx.symm.trans hy)
      have c0_ : w.cell? (a.add (k * 4)) = some (.bool x.gone) := hc 0 _ rfl
      have c1_ : w.cell? ⟨(a.add (k * 4)).block, (a.add (k * 4)).off + 1, none⟩ = some (.string x.key) := hc 1 _ rfl
      have c2_ : w.cell? ⟨(a.add (k * 4)).block, (a.add (k * 4)).off + 2, none⟩ = some (.string x.val) := hc 2 _ rfl
      have c3_ : w.cell? ⟨(a.add (k * 4)).block, (a.add (k * 4)).off + 3, none⟩ = some (.int .i64 x.lea) := hc 3 _ rfl
      have d0_ : w.cell? (b.add (k * 4)) = some (.bool x.gone) := hd 0 _ rfl
      have d1_ : w.cell? ⟨(b.add (k * 4)).block, (b.add (k * 4)).off + 1, none⟩ = some (.string x.key) := hd 1 _ rfl
      have d2_ : w.cell? ⟨(b.add (k * 4)).block, (b.add (k * 4)).off + 2, none⟩ = some (.string x.val) := hd 2 _ rfl
      have d3_ : w.cell? ⟨(b.add (k * 4)).block, (b.add (k * 4)).off + 3, none⟩ = some (.int .i64 x.lea) := hd 3 _ rfl
      have hne := fun w' => neq_mu_same w' x
      have hlt1 : (k : Int) < n := by omega
      clear hx hy hc hd
      go_wp2
      go_quiet (fail)
      go_wp2
      go_roundw
      case rel => exact ⟨k + 1, _, by omega, by go_num, rfl⟩
      case measure => simp [intOf]; omega
    · obtain rfl : k = n := by omega
      go_wp2
      go_ret
      exact ⟨rfl, below_drewN (Below.refl _ _) _⟩
end Go.Proofs.YthagkjadbfodaaaDoor.P
