/- Messages as arguments: opened to what they read as. -/
import Derived.Test.YtdmhpnobdflkfaaBgTake
namespace Go.Proofs.Ytdmhpnobdflkfaa.P
open Go.ChangeShapes Go.WideShapes Go.ChangeAt Go.RowKit Go.Deep
set_option linter.unusedVariables false
set_option maxRecDepth 100000
variable {H : Type} {enc : TypeId × Value → H} {w : World} {base : Nat} {spare : Nat → Bool} {held : Bool}
theorem read_msg {fuel : Nat} {cs : List Value} {x : DataW H × List MemPlace} (h : DataW.trod enc Try.prog w base spare held fuel 42 cs = some x) : ∃ y : Msg, cs = y.cells ∧ True := by
  obtain ⟨xs, n, _, _, hlen, hxl, hf⟩ := DataW.trod_struct Try.underlying42 h
  rw [show Try.prog.cellsOf 42 = 3 by kernel_rfl] at hlen
  obtain ⟨c0, c1, c2, rfl⟩ : ∃ c0 c1 c2, cs = [c0, c1, c2] := by match cs, hlen with | [c0, c1, c2], _ => exact ⟨c0, c1, c2, rfl⟩
  have g : ∀ i f, (_ : Array Field)[i]? = some f → ∃ z, xs[i]? = some z := fun i f hi => ⟨_, List.getElem?_eq_getElem (by rw [hxl]; exact (Array.getElem?_eq_some_iff.1 hi).1)⟩
  have k : ∀ a b : Value, [a] = [b] → a = b := fun a b h => by injection h
  have f0 := hf 0 _ rfl
  obtain ⟨z0, e0⟩ := g 0 _ rfl
  rw [e0] at f0
  obtain ⟨a0, h0, _, w0⟩ := DataW.trod_int Try.underlying3 f0
  obtain rfl := k _ _ (show [c0] = [_] from h0)
  have f1 := hf 1 _ rfl
  obtain ⟨z1, e1⟩ := g 1 _ rfl
  rw [e1] at f1
  obtain ⟨a1, h1, _, w1⟩ := DataW.trod_int Try.underlying3 f1
  obtain rfl := k _ _ (show [c1] = [_] from h1)
  have f2 := hf 2 _ rfl
  obtain ⟨z2, e2⟩ := g 2 _ rfl
  rw [e2] at f2
  obtain ⟨s2, h2, _, w2⟩ := DataW.trod_string Try.underlying9 f2
  obtain rfl := k _ _ (show [c2] = [_] from h2)
  exact ⟨⟨a0, a1, s2⟩, rfl, trivial⟩
theorem open_msgs {r : Reach} {b0 : Nat} {v : Value} {d : DataW H} {p : List MemPlace} (hv : Value.okWide Try.prog w r b0 35 v) (h : DataW.Trod enc Try.prog w base spare held 35 v d p) : ∃ A n c l, v = .slice A n c ∧ Ms w A n c l := by
  obtain ⟨A, n, c, rfl⟩ := okWide_slice Try.underlying35 hv
  obtain ⟨fuel, hf⟩ := h
  obtain ⟨A1, n1, d1, l1, h1, R1, ok1⟩ := rows_of_trod (cells := Msg.cells) (q := 3) (by omega) (fun _ => rfl) (fun _ => True) Try.underlying35 (by kernel_rfl) (fun _ _ _ h => read_msg h) hf
  have : Value.slice A n c = .slice A1 n1 d1 := by simpa [Value.cells] using h1
  injection this with e1 e2 e3
  subst e1 e2 e3
  exact ⟨A, n, c, l1, rfl, ⟨R1⟩⟩
theorem same_self (A B : Option Addr) (n c m d : Nat) (l : List Msg) (w : World) (h : Ms w A n c l) (g : Ms w B m d l) (hm : n ≤ 1000000) :
    Calls Try.prog 36 #[.slice A n c, .slice B m d] w fun e w' => e = .returned (.bool true) ∧ Below w.heap.size w w' := by
  have h := same_any A B n c m d l l w h g hm
  rwa [sameM_iff.2 rfl] at h
theorem putL_len (b l : List Msg) : (putL b l).length ≤ b.length + l.length := by
  unfold putL; split
  · rw [List.length_append]; exact Nat.le_refl _
  · omega
theorem tkL_len (b : List Msg) (i : Int) : (tkL b i).length ≤ b.length := by
  unfold tkL; split
  · unfold without; rw [List.length_append, List.length_take, List.length_drop]; omega
  · exact Nat.le_refl _
theorem cpL_len (b : List Msg) (i : Int) : (cpL b i).length ≤ b.length + 1 := by
  unfold cpL; split
  · rw [List.length_append]; exact Nat.le_refl _
  · omega
theorem few_iff {n m : Nat} : fewB2 n m = true ↔ (n ≤ 40 ∧ m ≤ 40) := decide_eq_true_iff
end Go.Proofs.Ytdmhpnobdflkfaa.P
