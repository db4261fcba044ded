/- Leases, and lists of numbers, as arguments: opened to what they read as. -/
import Derived.Test.YtelepkofhdjagabLsDue
import Derived.Test.YtelepkofhdjagabRowOpen
import Derived.Test.YtelepkofhdjagabKeyTwo
namespace Go.Proofs.Ytelepkofhdjagab.P
open Go.ChangeShapes Go.WideShapes Go.ChangeAt Go.RowKit Go.Deep
set_option linter.unusedVariables false
set_option maxRecDepth 100000
variable {H : Type} {enc : TypeId × Value → H} {w : World} {base : Nat} {spare : Nat → Bool} {held : Bool}
instance : Inhabited Le := ⟨⟨0, 0, 0⟩⟩
theorem read_le {fuel : Nat} {cs : List Value} {x : DataW H × List MemPlace} (h : DataW.trod enc Try.prog w base spare held fuel 80 cs = some x) : ∃ y : Le, cs = y.cells ∧ y.ok := by
  obtain ⟨xs, n, _, _, hlen, hxl, hf⟩ := DataW.trod_struct Try.underlying80 h
  rw [show Try.prog.cellsOf 80 = 3 by kernel_rfl] at hlen
  obtain ⟨c0, c1, c2, rfl⟩ : ∃ c0 c1 c2, cs = [c0, c1, c2] := by match cs, hlen with | [c0, c1, c2], _ => exact ⟨c0, c1, c2, rfl⟩
  have g : ∀ i f, (_ : Array Field)[i]? = some f → ∃ z, xs[i]? = some z := fun i f hi => ⟨_, List.getElem?_eq_getElem (by rw [hxl]; exact (Array.getElem?_eq_some_iff.1 hi).1)⟩
  have k : ∀ a b : Value, [a] = [b] → a = b := fun a b h => by injection h
  have f0 := hf 0 _ rfl
  obtain ⟨z0, e0⟩ := g 0 _ rfl
  rw [e0] at f0
  obtain ⟨a0, h0, _, w0⟩ := DataW.trod_int Try.underlying3 f0
  obtain rfl := k _ _ (show [c0] = [_] from h0)
  have f1 := hf 1 _ rfl
  obtain ⟨z1, e1⟩ := g 1 _ rfl
  rw [e1] at f1
  obtain ⟨a1, h1, _, w1⟩ := DataW.trod_int Try.underlying3 f1
  obtain rfl := k _ _ (show [c1] = [_] from h1)
  have f2 := hf 2 _ rfl
  obtain ⟨z2, e2⟩ := g 2 _ rfl
  rw [e2] at f2
  obtain ⟨a2, h2, _, w2⟩ := DataW.trod_int Try.underlying3 f2
  obtain rfl := k _ _ (show [c2] = [_] from h2)
  exact ⟨⟨a0, a1, a2⟩, rfl, ⟨inI_of w0, inI_of w1, inI_of w2⟩⟩
theorem open_ls {r : Reach} {b0 : Nat} {v : Value} {d : DataW H} {p : List MemPlace} (hv : Value.okWide Try.prog w r b0 24 v) (h : DataW.Trod enc Try.prog w base spare held 24 v d p) : ∃ s A n c, v = Ls.agg s A n c ∧ LsAt w s A n c := by
  obtain ⟨cs, rfl, hsz⟩ := okWide_struct Try.underlying24 hv
  obtain ⟨fuel, h⟩ := h
  obtain ⟨l⟩ := cs
  have h' : DataW.trod enc Try.prog w base spare held fuel 24 l = some (d, p) := h
  obtain ⟨xs, n, _, _, hlen, hxl, hf⟩ := DataW.trod_struct Try.underlying24 h'
  rw [show Try.prog.cellsOf 24 = 2 by kernel_rfl] at hlen
  obtain ⟨c0, c1, rfl⟩ : ∃ c0 c1, l = [c0, c1] := by match l, hlen with | [c0, c1], _ => exact ⟨c0, c1, rfl⟩
  have g : ∀ i f, (_ : Array Field)[i]? = some f → ∃ z, xs[i]? = some z := fun i f hi => ⟨_, List.getElem?_eq_getElem (by rw [hxl]; exact (Array.getElem?_eq_some_iff.1 hi).1)⟩
  have k : ∀ a b : Value, [a] = [b] → a = b := fun a b h => by injection h
  have f0 := hf 0 _ rfl
  obtain ⟨z0, e0⟩ := g 0 _ rfl
  rw [e0] at f0
  obtain ⟨a0, h0, _, w0⟩ := DataW.trod_int Try.underlying3 f0
  obtain rfl := k _ _ (show [c0] = [_] from h0)
  have f1 := hf 1 _ rfl
  obtain ⟨z1, e1⟩ := g 1 _ rfl
  rw [e1] at f1
  obtain ⟨A1, n1, d1, l1, h1, R1, ok1⟩ := rows_of_trod (cells := Le.cells) (q := 3) (by omega) (fun _ => rfl) Le.ok Try.underlying22 (by kernel_rfl) (fun _ _ _ h => read_le h) f1
  obtain rfl := k _ _ (show [c1] = [_] from h1)
  exact ⟨⟨a0, l1⟩, A1, n1, d1, rfl, ⟨R1, ok1⟩, inI_of w0⟩
theorem read_int {fuel : Nat} {cs : List Value} {x : DataW H × List MemPlace} (h : DataW.trod enc Try.prog w base spare held fuel 3 cs = some x) : ∃ y : Int, cs = intC y ∧ inI y := by
  obtain ⟨a0, h0, _, w0⟩ := DataW.trod_int Try.underlying3 h
  exact ⟨a0, h0, inI_of w0⟩
theorem open_is {r : Reach} {b0 : Nat} {v : Value} {d : DataW H} {p : List MemPlace} (hv : Value.okWide Try.prog w r b0 39 v) (h : DataW.Trod enc Try.prog w base spare held 39 v d p) : ∃ A n c l, v = .slice A n c ∧ (Is w A n c l ∧ ∀ z ∈ l, inI z) := by
  obtain ⟨A, n, c, rfl⟩ := okWide_slice Try.underlying39 hv
  obtain ⟨fuel, hf⟩ := h
  obtain ⟨A1, n1, d1, l1, h1, R1, ok1⟩ := rows_of_trod (cells := intC) (q := 1) (by omega) (fun _ => rfl) inI Try.underlying39 (by kernel_rfl) (fun _ _ _ h => read_int h) hf
  have : Value.slice A n c = .slice A1 n1 d1 := by simpa [Value.cells] using h1
  injection this with e1 e2 e3
  subst e1 e2 e3
  exact ⟨A, n, c, l1, rfl, R1, ok1⟩
end Go.Proofs.Ytelepkofhdjagab.P
