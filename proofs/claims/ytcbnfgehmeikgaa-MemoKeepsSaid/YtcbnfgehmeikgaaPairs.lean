/- Lists of pairs, and of threes, of numbers, as arguments. -/
import Derived.Test.YtcbnfgehmeikgaaBaseOwn
namespace Go.Proofs.Ytcbnfgehmeikgaa.P
open Go.ChangeShapes Go.WideShapes Go.ChangeAt Go.RowKit Go.Deep
set_option linter.unusedVariables false
set_option maxRecDepth 100000
variable {H : Type} {enc : TypeId × Value → H} {w : World} {base : Nat} {spare : Nat → Bool} {held : Bool}
def pairC (z : Int × Int) : List Value := [.int .i64 z.1, .int .i64 z.2]
def threeC (z : Int × Int × Int) : List Value := [.int .i64 z.1, .int .i64 z.2.1, .int .i64 z.2.2]
theorem pairC_len (z : Int × Int) : (pairC z).length = 2 := rfl
theorem threeC_len (z : Int × Int × Int) : (threeC z).length = 3 := rfl
def pairOk (z : Int × Int) : Prop := inI z.1 ∧ inI z.2
def threeOk (z : Int × Int × Int) : Prop := inI z.1 ∧ inI z.2.1 ∧ inI z.2.2
theorem read_pair {fuel : Nat} {cs : List Value} {x : DataW H × List MemPlace} (h : DataW.trod enc Try.prog w base spare held fuel 26 cs = some x) : ∃ y, cs = pairC y ∧ pairOk y := by
  obtain ⟨xs, m, hm, hx, hlen, hn, hel⟩ := DataW.trod_array Try.underlying26 h
  rw [show Try.prog.cellsOf 26 = 2 by kernel_rfl] at hlen
  rw [show Try.prog.cellsOf 3 = 1 by kernel_rfl] at hel
  obtain ⟨c0, c1, rfl⟩ : ∃ c0 c1, cs = [c0, c1] := by match cs, hlen with | [c0, c1], _ => exact ⟨c0, c1, rfl⟩
  have e0 := hel 0 (by omega)
  have e1 := hel 1 (by omega)
  match xs, hn, hx, e0, e1 with
  | [x0, x1], _, hx, e0, e1 =>
    obtain ⟨a, h0, _, wa⟩ := DataW.trod_int Try.underlying3 (by simpa using e0)
    obtain ⟨b, h1, _, wb⟩ := DataW.trod_int Try.underlying3 (by simpa using e1)
    simp at h0 h1
    subst h0 h1
    exact ⟨(a, b), rfl, inI_of wa, inI_of wb⟩
theorem open_pairs {r : Reach} {b0 : Nat} {v : Value} {d : DataW H} {p : List MemPlace} (hv : Value.okWide Try.prog w r b0 44 v) (h : DataW.Trod enc Try.prog w base spare held 44 v d p) : ∃ A n c l, v = .slice A n c ∧ (RowsOf pairC 2 w A n c l ∧ ∀ z ∈ l, pairOk z) := by
  obtain ⟨A, n, c, rfl⟩ := okWide_slice Try.underlying44 hv
  obtain ⟨fuel, hf⟩ := h
  obtain ⟨A1, n1, d1, l1, h1, R1, ok1⟩ := rows_of_trod (cells := pairC) (q := 2) (by omega) (fun _ => rfl) pairOk Try.underlying44 (by kernel_rfl) (fun _ _ _ h => read_pair h) hf
  have : Value.slice A n c = .slice A1 n1 d1 := by simpa [Value.cells] using h1
  injection this with e1 e2 e3
  subst e1 e2 e3
  exact ⟨A, n, c, l1, rfl, R1, ok1⟩
end Go.Proofs.Ytcbnfgehmeikgaa.P
