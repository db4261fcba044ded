/- Arrays of three numbers as arguments: opened. -/
import Derived.ProofKit
import Derived.OpenShut
import Derived.ShutString
import Derived.Lib.SmallJoins
import Derived.Test.YtkikfaeigoeogaaKvOpen
set_option maxRecDepth 100000
set_option linter.unusedVariables false
namespace Go.Proofs.Ytkikfaeigoeogaa.P
open Go.ChangeShapes Go.WideShapes Go.ChangeAt Go.RowKit
open Go.ChangeMaps (open_string shut_string)
variable {H : Type} {enc : TypeId × Value → H} {w : World} {base : Nat} {spare : Nat → Bool} {held : Bool}
theorem open_i3 {r : Reach} {b0 : Nat} {v : Value} {d : DataW H} {p : List MemPlace}
    (hv : Value.okWide Try.prog w r b0 53 v) (h : DataW.Trod enc Try.prog w base spare held 53 v d p) :
    ∃ a b c : Int, v = .agg #[.int .i64 a, .int .i64 b, .int .i64 c] ∧ inI a ∧ inI b ∧ inI c := by
  have ht : Try.prog.underlying 53 = some (.array 3 3) := by kernel_rfl
  have he : Try.prog.underlying 3 = some (.int .i64) := by kernel_rfl
  have hce : Try.prog.cellsOf 3 = 1 := by kernel_rfl
  have hct : Try.prog.cellsOf 53 = 3 := by kernel_rfl
  obtain ⟨cs, rfl, hsz, _⟩ : ∃ cs, v = .agg cs ∧ cs.size = Try.prog.cellsOf 53 ∧ Row.okWide Try.prog w r b0 53 cs := by
    have := hv
    simpa [Value.okWide, ht] using this
  obtain ⟨c0, c1, c2, rfl⟩ := Joins.array3 (hsz.trans hct)
  obtain ⟨fuel, hf⟩ := h
  obtain ⟨xs, m, rfl, hx, hlen, hn, hel⟩ := DataW.trod_array ht hf
  have e0 := hel 0 (by omega)
  have e1 := hel 1 (by omega)
  have e2 := hel 2 (by omega)
  rw [hce] at e0 e1 e2
  match xs, hn, e0, e1, e2 with
  | [x0, x1, x2], _, e0, e1, e2 =>
    obtain ⟨a, k0, _, wa⟩ := DataW.trod_int he (show DataW.trod enc Try.prog w base spare held m 3 [c0] = some x0 by simpa [Value.cells] using e0)
    obtain ⟨b, k1, _, wb⟩ := DataW.trod_int he (show DataW.trod enc Try.prog w base spare held m 3 [c1] = some x1 by simpa [Value.cells] using e1)
    obtain ⟨c, k2, _, wc⟩ := DataW.trod_int he (show DataW.trod enc Try.prog w base spare held m 3 [c2] = some x2 by simpa [Value.cells] using e2)
    simp at k0 k1 k2
    subst k0 k1 k2
    exact ⟨a, b, c, rfl, inI_of wa, inI_of wb, inI_of wc⟩
end Go.Proofs.Ytkikfaeigoeogaa.P
