/- Questions, and what is asked and done, as arguments: opened to what they read as. -/
import Derived.Test.YtlffhehpeeiogaaMvOpen
import Derived.Test.YtlffhehpeeiogaaTxPure
namespace Go.Proofs.Ytlffhehpeeiogaa.P
open Go.ChangeShapes Go.WideShapes Go.ChangeAt Go.RowKit Go.Deep
set_option linter.unusedVariables false
set_option maxRecDepth 100000
variable {H : Type} {enc : TypeId × Value → H} {w : World} {base : Nat} {spare : Nat → Bool} {held : Bool}
theorem read_cm {fuel : Nat} {cs : List Value} {x : DataW H × List MemPlace} (h : DataW.trod enc Try.prog w base spare held fuel 53 cs = some x) : ∃ y : Cm, cs = y.cells ∧ y.ok := by
  obtain ⟨xs, n, _, _, hlen, hxl, hf⟩ := DataW.trod_struct Try.underlying53 h
  rw [show Try.prog.cellsOf 53 = 5 by kernel_rfl] at hlen
  obtain ⟨c0, c1, c2, c3, c4, rfl⟩ : ∃ c0 c1 c2 c3 c4, cs = [c0, c1, c2, c3, c4] := by match cs, hlen with | [c0, c1, c2, c3, c4], _ => exact ⟨c0, c1, c2, c3, c4, rfl⟩
  have g : ∀ i f, (_ : Array Field)[i]? = some f → ∃ z, xs[i]? = some z := fun i f hi => ⟨_, List.getElem?_eq_getElem (by rw [hxl]; exact (Array.getElem?_eq_some_iff.1 hi).1)⟩
  have k : ∀ a b : Value, [a] = [b] → a = b := fun a b h => by injection h
  have f0 := hf 0 _ rfl
  obtain ⟨z0, e0⟩ := g 0 _ rfl
  rw [e0] at f0
  obtain ⟨a0, h0, _, w0⟩ := DataW.trod_string Try.underlying9 f0
  obtain rfl := k _ _ (show [c0] = [_] from h0)
  have f1 := hf 1 _ rfl
  obtain ⟨z1, e1⟩ := g 1 _ rfl
  rw [e1] at f1
  obtain ⟨a1, h1, _, w1⟩ := DataW.trod_int Try.underlying3 f1
  obtain rfl := k _ _ (show [c1] = [_] from h1)
  have f2 := hf 2 _ rfl
  obtain ⟨z2, e2⟩ := g 2 _ rfl
  rw [e2] at f2
  obtain ⟨a2, h2, _, w2⟩ := DataW.trod_int Try.underlying3 f2
  obtain rfl := k _ _ (show [c2] = [_] from h2)
  have f3 := hf 3 _ rfl
  obtain ⟨z3, e3⟩ := g 3 _ rfl
  rw [e3] at f3
  obtain ⟨a3, h3, _, w3⟩ := DataW.trod_int Try.underlying3 f3
  obtain rfl := k _ _ (show [c3] = [_] from h3)
  have f4 := hf 4 _ rfl
  obtain ⟨z4, e4⟩ := g 4 _ rfl
  rw [e4] at f4
  obtain ⟨a4, h4, _, w4⟩ := DataW.trod_string Try.underlying9 f4
  obtain rfl := k _ _ (show [c4] = [_] from h4)
  exact ⟨⟨a0, a1, a2, a3, a4⟩, rfl, ⟨w0, inI_of w1, inI_of w2, inI_of w3, w4⟩⟩
theorem cms_of_trod {fuel : Nat} {cs : List Value} {x : DataW H × List MemPlace} (h : DataW.trod enc Try.prog w base spare held fuel 50 cs = some x) : ∃ A n c l, cs = [.slice A n c] ∧ Cms w A n c l := by
  obtain ⟨A1, n1, d1, l1, h1, R1, ok1⟩ := rows_of_trod (cells := Cm.cells) (q := 5) (by omega) (fun _ => rfl) Cm.ok Try.underlying50 (by kernel_rfl) (fun _ _ _ h => read_cm h) h
  exact ⟨A1, n1, d1, l1, h1, ⟨R1, ok1⟩⟩
theorem open_cms {r : Reach} {b0 : Nat} {v : Value} {d : DataW H} {p : List MemPlace} (hv : Value.okWide Try.prog w r b0 50 v) (h : DataW.Trod enc Try.prog w base spare held 50 v d p) : ∃ A n c l, v = .slice A n c ∧ Cms w A n c l := by
  obtain ⟨A, n, c, rfl⟩ := okWide_slice Try.underlying50 hv
  obtain ⟨fuel, hf⟩ := h
  obtain ⟨A1, n1, d1, l1, h1, R1⟩ := cms_of_trod hf
  have : Value.slice A n c = .slice A1 n1 d1 := by simpa [Value.cells] using h1
  injection this with e1 e2 e3
  subst e1 e2 e3
  exact ⟨A, n, c, l1, rfl, R1⟩
theorem open_tx {r : Reach} {b0 : Nat} {v : Value} {d : DataW H} {p : List MemPlace} (hv : Value.okWide Try.prog w r b0 57 v) (h : DataW.Trod enc Try.prog w base spare held 57 v d p) : ∃ t A n c B m d C o e, v = Tx.agg t A n c B m d C o e ∧ TxAt w t A n c B m d C o e := by
  obtain ⟨cs, rfl, hsz⟩ := okWide_struct Try.underlying57 hv
  obtain ⟨fuel, h⟩ := h
  obtain ⟨l⟩ := cs
  have h' : DataW.trod enc Try.prog w base spare held fuel 57 l = some (d, p) := h
  obtain ⟨xs, n, _, _, hlen, hxl, hf⟩ := DataW.trod_struct Try.underlying57 h'
  rw [show Try.prog.cellsOf 57 = 3 by kernel_rfl] at hlen
  obtain ⟨c0, c1, c2, rfl⟩ : ∃ c0 c1 c2, l = [c0, c1, c2] := by match l, hlen with | [c0, c1, c2], _ => exact ⟨c0, c1, c2, rfl⟩
  have g : ∀ i f, (_ : Array Field)[i]? = some f → ∃ z, xs[i]? = some z := fun i f hi => ⟨_, List.getElem?_eq_getElem (by rw [hxl]; exact (Array.getElem?_eq_some_iff.1 hi).1)⟩
  have k : ∀ a b : Value, [a] = [b] → a = b := fun a b h => by injection h
  have f0 := hf 0 _ rfl
  obtain ⟨z0, e0⟩ := g 0 _ rfl
  rw [e0] at f0
  obtain ⟨A0, n0, d0, l0, h0, R0⟩ := cms_of_trod f0
  obtain rfl := k _ _ (show [c0] = [_] from h0)
  have f1 := hf 1 _ rfl
  obtain ⟨z1, e1⟩ := g 1 _ rfl
  rw [e1] at f1
  obtain ⟨A1, n1, d1, l1, h1, R1⟩ := mus_of_trod f1
  obtain rfl := k _ _ (show [c1] = [_] from h1)
  have f2 := hf 2 _ rfl
  obtain ⟨z2, e2⟩ := g 2 _ rfl
  rw [e2] at f2
  obtain ⟨A2, n2, d2, l2, h2, R2⟩ := mus_of_trod f2
  obtain rfl := k _ _ (show [c2] = [_] from h2)
  exact ⟨⟨l0, l1, l2⟩, A0, n0, d0, A1, n1, d1, A2, n2, d2, rfl, ⟨R0, R1, R2⟩⟩
end Go.Proofs.Ytlffhehpeeiogaa.P
