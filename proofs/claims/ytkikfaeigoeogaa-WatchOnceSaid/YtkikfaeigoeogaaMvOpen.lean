/- Stores, and things to be done, as arguments: opened to what they read as. -/
import Derived.Test.YtkikfaeigoeogaaKvRows
import Derived.Test.YtkikfaeigoeogaaMvDo
namespace Go.Proofs.Ytkikfaeigoeogaa.P
open Go.ChangeShapes Go.WideShapes Go.ChangeAt Go.RowKit Go.Deep
set_option linter.unusedVariables false
set_option maxRecDepth 100000
variable {H : Type} {enc : TypeId × Value → H} {w : World} {base : Nat} {spare : Nat → Bool} {held : Bool}
instance : Inhabited Mu := ⟨⟨false, ⟨#[]⟩, ⟨#[]⟩, 0⟩⟩
def Mu.cells (x : Mu) : List Value := [.bool x.gone, .string x.key, .string x.val, .int .i64 x.lea]
theorem read_mu {fuel : Nat} {cs : List Value} {x : DataW H × List MemPlace} (h : DataW.trod enc Try.prog w base spare held fuel 60 cs = some x) : ∃ y : Mu, cs = y.cells ∧ y.ok := by
  obtain ⟨xs, n, _, _, hlen, hxl, hf⟩ := DataW.trod_struct Try.underlying60 h
  rw [show Try.prog.cellsOf 60 = 4 by kernel_rfl] at hlen
  obtain ⟨c0, c1, c2, c3, rfl⟩ : ∃ c0 c1 c2 c3, cs = [c0, c1, c2, c3] := by match cs, hlen with | [c0, c1, c2, c3], _ => exact ⟨c0, c1, c2, c3, rfl⟩
  have g : ∀ i f, (_ : Array Field)[i]? = some f → ∃ z, xs[i]? = some z := fun i f hi => ⟨_, List.getElem?_eq_getElem (by rw [hxl]; exact (Array.getElem?_eq_some_iff.1 hi).1)⟩
  have k : ∀ a b : Value, [a] = [b] → a = b := fun a b h => by injection h
  have f0 := hf 0 _ rfl
  obtain ⟨z0, e0⟩ := g 0 _ rfl
  rw [e0] at f0
  obtain ⟨a0, h0, _⟩ := DataW.trod_bool Try.underlying4 f0
  obtain rfl := k _ _ (show [c0] = [_] from h0)
  have f1 := hf 1 _ rfl
  obtain ⟨z1, e1⟩ := g 1 _ rfl
  rw [e1] at f1
  obtain ⟨a1, h1, _, w1⟩ := DataW.trod_string Try.underlying9 f1
  obtain rfl := k _ _ (show [c1] = [_] from h1)
  have f2 := hf 2 _ rfl
  obtain ⟨z2, e2⟩ := g 2 _ rfl
  rw [e2] at f2
  obtain ⟨a2, h2, _, w2⟩ := DataW.trod_string Try.underlying9 f2
  obtain rfl := k _ _ (show [c2] = [_] from h2)
  have f3 := hf 3 _ rfl
  obtain ⟨z3, e3⟩ := g 3 _ rfl
  rw [e3] at f3
  obtain ⟨a3, h3, _, w3⟩ := DataW.trod_int Try.underlying3 f3
  obtain rfl := k _ _ (show [c3] = [_] from h3)
  exact ⟨⟨a0, a1, a2, a3⟩, rfl, ⟨w1, w2, inI_of w3⟩⟩
theorem mu_of_rows {w : World} {A : Option Addr} {n c : Nat} {l : List Mu} (h : RowsOf Mu.cells 4 w A n c l) (ok : ∀ x ∈ l, x.ok) : Mus w A n c l :=
  ⟨h.len, h.le, h.max, ok, fun hn => by
    obtain ⟨a, e, hlt, hx⟩ := h.rd hn
    exact ⟨a, e, hlt, fun i x hi => ⟨hx i x hi 0 _ rfl, hx i x hi 1 _ rfl, hx i x hi 2 _ rfl, hx i x hi 3 _ rfl⟩⟩, h.nil⟩
theorem mus_of_trod {fuel : Nat} {cs : List Value} {x : DataW H × List MemPlace} (h : DataW.trod enc Try.prog w base spare held fuel 49 cs = some x) : ∃ A n c l, cs = [.slice A n c] ∧ Mus w A n c l := by
  obtain ⟨A1, n1, d1, l1, h1, R1, ok1⟩ := rows_of_trod (cells := Mu.cells) (q := 4) (by omega) (fun _ => rfl) Mu.ok Try.underlying49 (by kernel_rfl) (fun _ _ _ h => read_mu h) h
  exact ⟨A1, n1, d1, l1, h1, mu_of_rows R1 ok1⟩
theorem open_mus {r : Reach} {b0 : Nat} {v : Value} {d : DataW H} {p : List MemPlace} (hv : Value.okWide Try.prog w r b0 49 v) (h : DataW.Trod enc Try.prog w base spare held 49 v d p) : ∃ A n c l, v = .slice A n c ∧ Mus w A n c l := by
  obtain ⟨A, n, c, rfl⟩ := okWide_slice Try.underlying49 hv
  obtain ⟨fuel, hf⟩ := h
  obtain ⟨A1, n1, d1, l1, h1, R1⟩ := mus_of_trod hf
  have : Value.slice A n c = .slice A1 n1 d1 := by simpa [Value.cells] using h1
  injection this with e1 e2 e3
  subst e1 e2 e3
  exact ⟨A, n, c, l1, rfl, R1⟩
theorem open_st {r : Reach} {b0 : Nat} {v : Value} {d : DataW H} {p : List MemPlace} (hv : Value.okWide Try.prog w r b0 25 v) (h : DataW.Trod enc Try.prog w base spare held 25 v d p) : ∃ s A n c B m d, v = St.agg s A n c B m d ∧ StAt w s A n c B m d := by
  obtain ⟨cs, rfl, hsz⟩ := okWide_struct Try.underlying25 hv
  obtain ⟨fuel, h⟩ := h
  obtain ⟨l⟩ := cs
  have h' : DataW.trod enc Try.prog w base spare held fuel 25 l = some (d, p) := h
  obtain ⟨xs, n, _, _, hlen, hxl, hf⟩ := DataW.trod_struct Try.underlying25 h'
  rw [show Try.prog.cellsOf 25 = 4 by kernel_rfl] at hlen
  obtain ⟨c0, c1, c2, c3, rfl⟩ : ∃ c0 c1 c2 c3, l = [c0, c1, c2, c3] := by match l, hlen with | [c0, c1, c2, c3], _ => exact ⟨c0, c1, c2, c3, rfl⟩
  have g : ∀ i f, (_ : Array Field)[i]? = some f → ∃ z, xs[i]? = some z := fun i f hi => ⟨_, List.getElem?_eq_getElem (by rw [hxl]; exact (Array.getElem?_eq_some_iff.1 hi).1)⟩
  have k : ∀ a b : Value, [a] = [b] → a = b := fun a b h => by injection h
  have f0 := hf 0 _ rfl
  obtain ⟨z0, e0⟩ := g 0 _ rfl
  rw [e0] at f0
  obtain ⟨a0, h0, _, w0⟩ := DataW.trod_int Try.underlying3 f0
  obtain rfl := k _ _ (show [c0] = [_] from h0)
  have f1 := hf 1 _ rfl
  obtain ⟨z1, e1⟩ := g 1 _ rfl
  rw [e1] at f1
  obtain ⟨a1, h1, _, w1⟩ := DataW.trod_int Try.underlying3 f1
  obtain rfl := k _ _ (show [c1] = [_] from h1)
  have f2 := hf 2 _ rfl
  obtain ⟨z2, e2⟩ := g 2 _ rfl
  rw [e2] at f2
  obtain ⟨A2, n2, d2, l2, h2, R2⟩ := kvs_of_trod f2
  obtain rfl := k _ _ (show [c2] = [_] from h2)
  have f3 := hf 3 _ rfl
  obtain ⟨z3, e3⟩ := g 3 _ rfl
  rw [e3] at f3
  obtain ⟨A3, n3, d3, l3, h3, R3⟩ := evs_of_trod f3
  obtain rfl := k _ _ (show [c3] = [_] from h3)
  exact ⟨⟨a0, a1, l2, l3⟩, A2, n2, d2, A3, n3, d3, rfl, ⟨R2, R3, inI_of w0, inI_of w1⟩⟩
end Go.Proofs.Ytkikfaeigoeogaa.P
