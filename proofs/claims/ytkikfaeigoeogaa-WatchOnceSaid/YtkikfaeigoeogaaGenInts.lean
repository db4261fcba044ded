/- Lists of numbers: what a slice of them reads as; as arguments; appended to. -/
import Derived.Test.YtkikfaeigoeogaaBaseOwn
namespace Go.Proofs.Ytkikfaeigoeogaa.P
open Go.ChangeShapes Go.WideShapes Go.ChangeAt Go.RowKit Go.Deep
set_option linter.unusedVariables false
set_option maxRecDepth 100000
def intC (z : Int) : List Value := [.int .i64 z]
theorem intC_len (z : Int) : (intC z).length = 1 := rfl
theorem intC_one (z : Int) : ∀ v ∈ intC z, v.oneCell' = true := by intro v h; simp [intC] at h; subst h; rfl
abbrev zeroIntV : Value := .int .i64 0
theorem int_info : (Try.prog.info? 3).map (fun i => (i.zero, i.size, i.bytes)) = some (some zeroIntV, 1, 8) := by kernel_rfl
abbrev Is (w : World) (A : Option Addr) (n c : Nat) (l : List Int) : Prop := RowsOf intC 1 w A n c l
theorem Is.at_ {w : World} {A : Option Addr} {n c k : Nat} {l : List Int} (h : Is w A n c l) (hk : k < n) : ∃ a z, A = some a ∧ a.block < w.heap.size ∧ l[k]? = some z ∧ w.cell? (a.add k) = some (.int .i64 z) := by
  obtain ⟨a, z, e, hb, hx, hl⟩ := RowsOf.at_ h hk
  have := hl 0 _ rfl
  rw [Nat.mul_one] at this
  exact ⟨a, z, e, hb, hx, this⟩
theorem info_parts1 {P : Program} {t : TypeId} {z : Value} {s b : Nat} (h : (P.info? t).map (fun i => (i.zero, i.size, i.bytes)) = some (some z, s, b)) : ∃ i0, P.info? t = some i0 ∧ i0.zero = some z ∧ i0.size = s ∧ i0.bytes = b := by
  cases hi : P.info? t with
  | none => rw [hi] at h; cases h
  | some i0 =>
    rw [hi] at h
    injection h with h
    injection h with h1 h2
    injection h2 with h2 h3
    exact ⟨i0, rfl, h1, h2, h3⟩
theorem app_ints (base : Nat) (B : Option Addr) (n d : Nat) (xs : List Int) (w : World) (z : Int) (hown : ownG intC 1 3 w base B n d xs) (hn : n ≤ 1000) (hb : base ≤ w.heap.size) :
    ∃ B' d' w', (Builtin.append_ #[96, 96] 96 #[.slice B n d, .slice (some ⟨w.heap.size, 0, none⟩) 1 1]).run Try.prog (w.alloc (.cells #[.int .i64 z] 3)) = .ok (.slice B' (n + 1) d') w' ∧ ownG intC 1 3 w' base B' (n + 1) d' (xs ++ [z]) ∧ Below base w w' := by
  obtain ⟨i0, hi0, hz0, hz1, hz2⟩ := info_parts1 int_info
  obtain ⟨B', d', w', h1, h2, h3, _⟩ := app_rows intC_len (by omega) intC_one Try.underlying96 hi0 hz0 hz1 hz2 rfl (by omega) base B n d xs (w.alloc (.cells #[.int .i64 z] 3)) (ownG_keep hown (new1 w _)) _ 1 1 [z] (rows_new intC_len (e := 3) w z #[.int .i64 z] rfl) (by omega) (by simp; omega)
  exact ⟨B', d', w', h1, h2, ((Below.refl _ _).alloc hb _).trans h3⟩
variable {H : Type} {enc : TypeId × Value → H} {w : World} {base : Nat} {spare : Nat → Bool} {held : Bool}
theorem read_int {fuel : Nat} {cs : List Value} {x : DataW H × List MemPlace} (h : DataW.trod enc Try.prog w base spare held fuel 3 cs = some x) : ∃ y : Int, cs = intC y ∧ inI y := by
  obtain ⟨a0, h0, _, w0⟩ := DataW.trod_int Try.underlying3 h
  exact ⟨a0, h0, inI_of w0⟩
theorem open_is {r : Reach} {b0 : Nat} {v : Value} {d : DataW H} {p : List MemPlace} (hv : Value.okWide Try.prog w r b0 96 v) (h : DataW.Trod enc Try.prog w base spare held 96 v d p) : ∃ A n c l, v = .slice A n c ∧ (Is w A n c l ∧ ∀ z ∈ l, inI z) := by
  obtain ⟨A, n, c, rfl⟩ := okWide_slice Try.underlying96 hv
  obtain ⟨fuel, hf⟩ := h
  obtain ⟨A1, n1, d1, l1, h1, R1, ok1⟩ := rows_of_trod (cells := intC) (q := 1) (by omega) (fun _ => rfl) inI Try.underlying96 (by kernel_rfl) (fun _ _ _ h => read_int h) hf
  have : Value.slice A n c = .slice A1 n1 d1 := by simpa [Value.cells] using h1
  injection this with e1 e2 e3
  subst e1 e2 e3
  exact ⟨A, n, c, l1, rfl, R1, ok1⟩
end Go.Proofs.Ytkikfaeigoeogaa.P
