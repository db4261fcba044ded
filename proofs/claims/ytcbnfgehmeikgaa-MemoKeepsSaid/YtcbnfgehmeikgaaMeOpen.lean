/- Layer 9: memos as arguments. -/
import Derived.Test.YtcbnfgehmeikgaaMe
namespace Go.Proofs.Ytcbnfgehmeikgaa.P
open Go.ChangeShapes Go.WideShapes Go.ChangeAt Go.RowKit Go.Deep
set_option linter.unusedVariables false
set_option maxRecDepth 100000
variable {H : Type} {enc : TypeId × Value → H} {w : World} {base : Nat} {spare : Nat → Bool} {held : Bool}
theorem read_gr {fuel : Nat} {cs : List Value} {x : DataW H × List MemPlace} (h : DataW.trod enc Try.prog w base spare held fuel 53 cs = some x) : ∃ y : Gr, cs = y.cells ∧ GrAt w y := by
  obtain ⟨xs, nx, _, _, hlen, hxl, hf⟩ := DataW.trod_struct Try.underlying53 h
  rw [show Try.prog.cellsOf 53 = 11 by kernel_rfl] at hlen
  obtain ⟨c0, c1, c2, c3, c4, c5, c6, c7, c8, c9, c10, rfl⟩ : ∃ c0 c1 c2 c3 c4 c5 c6 c7 c8 c9 c10, cs = [c0, c1, c2, c3, c4, c5, c6, c7, c8, c9, c10] := by match cs, hlen with | [c0, c1, c2, c3, c4, c5, c6, c7, c8, c9, c10], _ => exact ⟨c0, c1, c2, c3, c4, c5, c6, c7, c8, c9, c10, rfl⟩
  have g : ∀ i f, (_ : Array Field)[i]? = some f → ∃ z, xs[i]? = some z := fun i f hi => ⟨_, List.getElem?_eq_getElem (by rw [hxl]; exact (Array.getElem?_eq_some_iff.1 hi).1)⟩
  have k : ∀ a b : Value, [a] = [b] → a = b := fun a b h => by injection h
  have f0 := hf 0 _ rfl
  obtain ⟨z0, e0⟩ := g 0 _ rfl
  rw [e0] at f0
  obtain ⟨a0, h0, _, w0⟩ := DataW.trod_int Try.underlying3 f0
  obtain rfl := k _ _ (show [c0] = [_] from h0)
  have f1 := hf 1 _ rfl
  obtain ⟨z1, e1⟩ := g 1 _ rfl
  rw [e1] at f1
  obtain ⟨a1, h1, _, w1⟩ := DataW.trod_int Try.underlying3 f1
  obtain rfl := k _ _ (show [c1] = [_] from h1)
  have f2 := hf 2 _ rfl
  obtain ⟨z2, e2⟩ := g 2 _ rfl
  rw [e2] at f2
  obtain ⟨y, A, n, c, B, m, d, hcs, ok⟩ := read_Rp f2
  have hcs' : [.int .i64 y.code, .int .i64 y.who, .int .i64 y.seq, .int .i64 y.rev, .int .i64 y.lease, .int .i64 y.ttl, .bool y.yes, .slice A n c, .slice B m d] = [c2, c3, c4, c5, c6, c7, c8, c9, c10] := hcs.symm
  injection hcs' with i2 hcs'
  subst i2
  injection hcs' with i3 hcs'
  subst i3
  injection hcs' with i4 hcs'
  subst i4
  injection hcs' with i5 hcs'
  subst i5
  injection hcs' with i6 hcs'
  subst i6
  injection hcs' with i7 hcs'
  subst i7
  injection hcs' with i8 hcs'
  subst i8
  injection hcs' with i9 hcs'
  subst i9
  injection hcs' with i10 hcs'
  subst i10
  exact ⟨⟨a0, a1, y, A, n, c, B, m, d⟩, rfl, ⟨inI_of w0, inI_of w1, ok⟩⟩
theorem read_floor {fuel : Nat} {cs : List Value} {x : DataW H × List MemPlace} (h : DataW.trod enc Try.prog w base spare held fuel 59 cs = some x) : ∃ y, cs = pairC y ∧ pairOk y := by
  obtain ⟨xs, nx, _, _, hlen, hxl, hf⟩ := DataW.trod_struct Try.underlying59 h
  rw [show Try.prog.cellsOf 59 = 2 by kernel_rfl] at hlen
  obtain ⟨c0, c1, rfl⟩ : ∃ c0 c1, cs = [c0, c1] := by match cs, hlen with | [c0, c1], _ => exact ⟨c0, c1, rfl⟩
  have g : ∀ i f, (_ : Array Field)[i]? = some f → ∃ z, xs[i]? = some z := fun i f hi => ⟨_, List.getElem?_eq_getElem (by rw [hxl]; exact (Array.getElem?_eq_some_iff.1 hi).1)⟩
  have k : ∀ a b : Value, [a] = [b] → a = b := fun a b h => by injection h
  have f0 := hf 0 _ rfl
  obtain ⟨z0, e0⟩ := g 0 _ rfl
  rw [e0] at f0
  obtain ⟨a0, h0, _, w0⟩ := DataW.trod_int Try.underlying3 f0
  obtain rfl := k _ _ (show [c0] = [_] from h0)
  have f1 := hf 1 _ rfl
  obtain ⟨z1, e1⟩ := g 1 _ rfl
  rw [e1] at f1
  obtain ⟨a1, h1, _, w1⟩ := DataW.trod_int Try.underlying3 f1
  obtain rfl := k _ _ (show [c1] = [_] from h1)
  exact ⟨(a0, a1), rfl, inI_of w0, inI_of w1⟩
theorem read_mos {fuel : Nat} {cs : List Value} {x : DataW H × List MemPlace} (h : DataW.trod enc Try.prog w base spare held fuel 25 cs = some x) : ∃ m A n c B k d, cs = [.slice A n c, .slice B k d] ∧ MosAt w m A n c B k d := by
  obtain ⟨xs, nx, _, _, hlen, hxl, hf⟩ := DataW.trod_struct Try.underlying25 h
  rw [show Try.prog.cellsOf 25 = 2 by kernel_rfl] at hlen
  obtain ⟨c0, c1, rfl⟩ : ∃ c0 c1, cs = [c0, c1] := by match cs, hlen with | [c0, c1], _ => exact ⟨c0, c1, rfl⟩
  have g : ∀ i f, (_ : Array Field)[i]? = some f → ∃ z, xs[i]? = some z := fun i f hi => ⟨_, List.getElem?_eq_getElem (by rw [hxl]; exact (Array.getElem?_eq_some_iff.1 hi).1)⟩
  have k : ∀ a b : Value, [a] = [b] → a = b := fun a b h => by injection h
  have f0 := hf 0 _ rfl
  obtain ⟨z0, e0⟩ := g 0 _ rfl
  rw [e0] at f0
  obtain ⟨A, n, c, l, h0, R0, ok0⟩ := rows_of_trod (cells := Gr.cells) (q := 11) (by omega) gr_len (GrAt w) Try.underlying22 (by kernel_rfl) (fun _ _ _ h => read_gr h) f0
  obtain rfl := k _ _ (show [c0] = [_] from h0)
  have f1 := hf 1 _ rfl
  obtain ⟨z1, e1⟩ := g 1 _ rfl
  rw [e1] at f1
  obtain ⟨B, kk, d, l2, h1, R1, ok1⟩ := rows_of_trod (cells := pairC) (q := 2) (by omega) pairC_len pairOk Try.underlying23 (by kernel_rfl) (fun _ _ _ h => read_floor h) f1
  obtain rfl := k _ _ (show [c1] = [_] from h1)
  exact ⟨(l, l2), A, n, c, B, kk, d, rfl, ⟨⟨R0, ok0⟩, R1, ok1⟩⟩
theorem open_mos {r : Reach} {b0 : Nat} {v : Value} {d0 : DataW H} {p0 : List MemPlace} (hv : Value.okWide Try.prog w r b0 25 v) (h : DataW.Trod enc Try.prog w base spare held 25 v d0 p0) : ∃ m A n c B k d, v = moV A n c B k d ∧ MosAt w m A n c B k d := by
  obtain ⟨cs, rfl, hsz⟩ := okWide_struct Try.underlying25 hv
  obtain ⟨fuel, hf⟩ := h
  obtain ⟨l⟩ := cs
  have h' : DataW.trod enc Try.prog w base spare held fuel 25 l = some (d0, p0) := hf
  obtain ⟨m, A, n, c, B, k, d, hl, hat⟩ := read_mos h'
  subst hl
  exact ⟨m, A, n, c, B, k, d, rfl, hat⟩
end Go.Proofs.Ytcbnfgehmeikgaa.P
