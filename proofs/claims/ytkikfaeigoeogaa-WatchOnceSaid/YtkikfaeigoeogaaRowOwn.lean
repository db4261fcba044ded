/- Rows of a call's own, stored and loaded whole. -/
import Derived.Test.YtkikfaeigoeogaaBaseOwn
import Derived.Laws.Rows
import Derived.Laws.Tables
import Derived.Laws.CopyOwn
import Derived.Lib.QuietBelow
import Derived.Lib.BufferOwn
namespace Go.Proofs.Ytkikfaeigoeogaa.P
open Go.RowKit Go.Sort
set_option linter.unusedVariables false
set_option linter.unusedSimpArgs false

theorem Own.row {w : World} {g : Nat} {t : TypeId} {cs : Array Value} (h : Own w g t cs) (new : Array Value) : Own (w.setRow g new) g t new := ⟨by
  have := h.ex; simp [World.setRow, Array.getElem?_modify, this]⟩
theorem Own.row_off {w : World} {g b : Nat} {t : TypeId} {cs : Array Value} (h : Own w g t cs) (hb : b ≠ g) (new : Array Value) : Own (w.setRow b new) g t cs := ⟨by
  have := h.ex; simp [World.setRow, Array.getElem?_modify, this, hb]⟩
theorem grown_refl (w : World) (r : Option Nat) : w.grownBy w r := ⟨rfl, rfl, rfl, Nat.le_refl _, fun _ _ _ => rfl⟩
theorem grown_drewN (w : World) (n : Nat) (r : Option Nat) : w.grownBy (w.drewN n) r := ⟨rfl, rfl, rfl, Nat.le_refl _, fun _ _ _ => rfl⟩
theorem grown_row (w : World) (g : Nat) (cs : Array Value) : w.grownBy (w.setRow g cs) (some g) :=
  ⟨rfl, rfl, rfl, by simp, fun k hk hne => by
    have : g ≠ k := fun e => hne (by rw [e])
    simp [World.setRow, Array.getElem?_modify, this]⟩
theorem results_row1 {P : Program} {fn : Func} {p u : Tmp} {ty : TypeId} (h : fn.results = #[.cell p ty, .tmp u]) (tmps : Array Value) (w : World) (g : Nat) (t : TypeId) (cs : Array Value) (d : TypeDesc)
    (hp : tmps.getD p undef = .pointer (some ⟨g, 0, none⟩)) (hg : w.heap[g]? = some (.cells cs t (0, 0)))
    (hu : P.underlying ty = some d) (hd : (match d with | .struct _ | .array _ _ => true | _ => false) = true) (hi : (P.info? ty).map (·.size) = some cs.size) :
    (results fn tmps).run P w = .ok (.tuple #[.agg cs, tmps.getD u undef]) w := by
  have hp' : tmps[p]?.getD undef = .pointer (some ⟨g, 0, none⟩) := by simpa using hp
  simp [results, h, hp', asAddr, Sem.run_bind, run_loadVar_row w g t ty cs (0, 0) d hg hu hd hi]
/-- A whole row loaded in a quiet walk: one value, in every world of the class. -/
theorem quiet_row {P : Program} {C : World → Prop} {K : Act → Prop} {a : Act} {o : Oper} (ty : TypeId) (x : Operand) (ho : o.op = .load ty x) (g : Nat) (hx : a.eval x = .pointer (some ⟨g, 0, none⟩)) (t : TypeId) (cs : Array Value) (d : TypeDesc)
    (hg : ∀ w, C w → w.heap[g]? = some (.cells cs t (0, 0))) (hu : P.underlying ty = some d) (hd : (match d with | .struct _ | .array _ _ => true | _ => false) = true) (hi : (P.info? ty).map (·.size) = some cs.size)
    (h : K (a.put o.dst (.agg cs))) : o.quiet P a C K :=
  ⟨.agg cs, fun w hw => by
    unfold Oper.quietAt execOp
    simp only [ho, hx, Instr.loadAt, Instr.sureAddr, Sem.run_bind, Sem.run_pure, Result.andThen_ok, run_loadVar_row w g t ty cs (0, 0) d (hg w hw) hu hd hi]
    exact ⟨rfl, rfl⟩, h⟩
theorem Own.held {w : World} {g : Nat} {t : TypeId} {cs : Array Value} (h : Own w g t cs) : ∀ w', (∃ p : Regrown, w' = grow (redrawn w p.d) p.os) → w'.heap[g]? = some (.cells cs t (0, 0)) := by
  rintro w' ⟨p, rfl⟩
  exact (h.below (below_regrown w p.d p.os)).ex
theorem results_row0 {P : Program} {fn : Func} {p : Tmp} {ty : TypeId} (h : fn.results = #[.cell p ty]) (tmps : Array Value) (w : World) (g : Nat) (t : TypeId) (cs : Array Value) (d : TypeDesc)
    (hp : tmps.getD p undef = .pointer (some ⟨g, 0, none⟩)) (hg : w.heap[g]? = some (.cells cs t (0, 0)))
    (hu : P.underlying ty = some d) (hd : (match d with | .struct _ | .array _ _ => true | _ => false) = true) (hi : (P.info? ty).map (·.size) = some cs.size) :
    (results fn tmps).run P w = .ok (.agg cs) w := by
  have hp' : tmps[p]?.getD undef = .pointer (some ⟨g, 0, none⟩) := by simpa using hp
  simp [results, h, hp', asAddr, run_loadVar_row w g t ty cs (0, 0) d hg hu hd hi]
theorem results_row2 {P : Program} {fn : Func} {p u v : Tmp} {ty : TypeId} (h : fn.results = #[.cell p ty, .tmp u, .tmp v]) (tmps : Array Value) (w : World) (g : Nat) (t : TypeId) (cs : Array Value) (d : TypeDesc)
    (hp : tmps.getD p undef = .pointer (some ⟨g, 0, none⟩)) (hg : w.heap[g]? = some (.cells cs t (0, 0)))
    (hu : P.underlying ty = some d) (hd : (match d with | .struct _ | .array _ _ => true | _ => false) = true) (hi : (P.info? ty).map (·.size) = some cs.size) :
    (results fn tmps).run P w = .ok (.tuple #[.agg cs, tmps.getD u undef, tmps.getD v undef]) w := by
  have hp' : tmps[p]?.getD undef = .pointer (some ⟨g, 0, none⟩) := by simpa using hp
  simp [results, h, hp', asAddr, Sem.run_bind, run_loadVar_row w g t ty cs (0, 0) d hg hu hd hi]
theorem RowsOf.grown {α : Type} {cells : α → List Value} {q : Nat} {w w' : World} {A : Option Addr} {n c : Nat} {l : List α} {row : Option Nat} (h : RowsOf cells q w A n c l) (hg : w.grownBy w' row) (hne : ∀ a, A = some a → some a.block ≠ row) : RowsOf cells q w' A n c l := h.keep hg hne
theorem rows_one {α : Type} {cells : α → List Value} {q : Nat} {w : World} {A : Option Addr} {n c : Nat} {l : List α} (h : RowsOf cells q w A n c l) (g : Nat) (cs : Array Value) (hne : ∀ a, A = some a → a.block ≠ g) : RowsOf cells q (w.setRow g cs) A n c l :=
  h.grown (grown_row w g cs) (fun a ha hh => hne a ha (Option.some.inj hh))
theorem rows_two {α : Type} {cells : α → List Value} {q : Nat} {w : World} {A : Option Addr} {n c : Nat} {l : List α} (h : RowsOf cells q w A n c l) (g g6 : Nat) (c1 c2 : Array Value) (hne : ∀ a, A = some a → a.block ≠ g ∧ a.block ≠ g6) : RowsOf cells q ((w.setRow g6 c1).setRow g c2) A n c l :=
  (h.grown (grown_row w g6 c1) (fun a ha hh => (hne a ha).2 (Option.some.inj hh))).grown (grown_row _ g c2) (fun a ha hh => (hne a ha).1 (Option.some.inj hh))
end Go.Proofs.Ytkikfaeigoeogaa.P
