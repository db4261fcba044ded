/- Stores, and things to be done, as arguments: opened to what they read as. -/
import Derived.Test.YtjjngablalnbeaaDoorKvRows
import Derived.Test.YtjjngablalnbeaaDoorMgMv
namespace Go.Proofs.YtjjngablalnbeaaDoor.P
open Go.ChangeShapes Go.WideShapes Go.ChangeAt Go.RowKit Go.Deep
set_option linter.unusedVariables false
set_option maxRecDepth 100000
variable {H : Type} {enc : TypeId × Value → H} {w : World} {base : Nat} {spare : Nat → Bool} {held : Bool}
instance : Inhabited Mu := ⟨⟨false, ⟨#[]⟩, ⟨#[]⟩, 0⟩⟩
def Mu.cells (x : Mu) : List Value := [.bool x.gone, .string x.key, .string x.val, .int .i64 x.lea]
theorem open_st {r : Reach} {b0 : Nat} {v : Value} {d : DataW H} {p : List MemPlace} (hv : Value.okWide Tryd.prog w r b0 42 v) (h : DataW.Trod enc Tryd.prog w base spare held 42 v d p) : ∃ s A n c B m d, v = St.agg s A n c B m d ∧ StAt w s A n c B m d := by
  obtain ⟨cs, rfl, hsz⟩ := okWide_struct Tryd.underlying42 hv
  obtain ⟨fuel, h⟩ := h
  obtain ⟨l⟩ := cs
  have h' : DataW.trod enc Tryd.prog w base spare held fuel 42 l = some (d, p) := h
  obtain ⟨xs, n, _, _, hlen, hxl, hf⟩ := DataW.trod_struct Tryd.underlying42 h'
  rw [show Tryd.prog.cellsOf 42 = 4 by kernel_rfl] at hlen
  obtain ⟨c0, c1, c2, c3, rfl⟩ : ∃ c0 c1 c2 c3, l = [c0, c1, c2, c3] := by match l, hlen with | [c0, c1, c2, c3], _ => exact ⟨c0, c1, c2, c3, rfl⟩
  have g : ∀ i f, (_ : Array Field)[i]? = some f → ∃ z, xs[i]? = some z := fun i f hi => ⟨_, List.getElem?_eq_getElem (by rw [hxl]; exact (Array.getElem?_eq_some_iff.1 hi).1)⟩
  have k : ∀ a b : Value, [a] = [b] → a = b := fun a b h => by injection h
  have f0 := hf 0 _ rfl
  obtain ⟨z0, e0⟩ := g 0 _ rfl
  rw [e0] at f0
  obtain ⟨a0, h0, _, w0⟩ := DataW.trod_int Tryd.underlying3 f0
  obtain rfl := k _ _ (show [c0] = [_] from h0)
  have f1 := hf 1 _ rfl
  obtain ⟨z1, e1⟩ := g 1 _ rfl
  rw [e1] at f1
  obtain ⟨a1, h1, _, w1⟩ := DataW.trod_int Tryd.underlying3 f1
  obtain rfl := k _ _ (show [c1] = [_] from h1)
  have f2 := hf 2 _ rfl
  obtain ⟨z2, e2⟩ := g 2 _ rfl
  rw [e2] at f2
  obtain ⟨A2, n2, d2, l2, h2, R2⟩ := kvs_of_trod f2
  obtain rfl := k _ _ (show [c2] = [_] from h2)
  have f3 := hf 3 _ rfl
  obtain ⟨z3, e3⟩ := g 3 _ rfl
  rw [e3] at f3
  obtain ⟨A3, n3, d3, l3, h3, R3⟩ := evs_of_trod f3
  obtain rfl := k _ _ (show [c3] = [_] from h3)
  exact ⟨⟨a0, a1, l2, l3⟩, A2, n2, d2, A3, n3, d3, rfl, ⟨R2, R3, inI_of w0, inI_of w1⟩⟩
end Go.Proofs.YtjjngablalnbeaaDoor.P
