/- The document's readers of requests and replies: the world while they read. -/
import Derived.Test.YtimbklggifbibaaGreatDoorWireRefMuts
import Derived.Test.YtimbklggifbibaaGreatDoorWireApp
import Derived.Laws.Rows
import Derived.Laws.Tables
import Derived.Laws.CopyOwn
namespace Go.Proofs.YtimbklggifbibaaGreatDoor.P
open Go.RowKit Go.Lib
set_option linter.unusedVariables false
set_option maxRecDepth 100000

theorem Own.row {w : World} {g : Nat} {t : TypeId} {cs : Array Value} (h : Own w g t cs) (new : Array Value) : Own (w.setRow g new) g t new := ⟨by
  have := h.ex; simp [World.setRow, Array.getElem?_modify, this]⟩
/-- The result lies at w's end, the reader behind it, the thing that is read in block g. -/
structure RW (w : World) (t : TypeId) (z : Array Value) (g : Nat) (s : ByteArray) (p : Nat × Bool) (uc : Array Value) (wx : World) : Prop where
  rd : RdAt wx (w.heap.size + 1) s p
  res : Own wx w.heap.size t z
  u : Own wx g t uc
  bel : Below w.heap.size w wx
  lt : w.heap.size + 1 < g
theorem RW.read {w wx w' : World} {t : TypeId} {z : Array Value} {g : Nat} {s : ByteArray} {p p' : Nat × Bool} {uc : Array Value} (h : RW w t z g s p uc wx) (h2 : RdAt w' (w.heap.size + 1) s p') (hg : wx.grownBy w' (some (w.heap.size + 1))) : RW w t z g s p' uc w' :=
  ⟨h2, h.res.keep hg (by omega), h.u.keep hg (by have := h.lt; omega), h.bel.grown hg h.bel.size (fun k e => by cases e; omega), h.lt⟩
theorem RW.put {w wx : World} {t : TypeId} {z : Array Value} {g : Nat} {s : ByteArray} {p : Nat × Bool} {uc : Array Value} (h : RW w t z g s p uc wx) (i : Nat) (v : Value) : RW w t z g s p (uc.setIfInBounds i v) (wx.setCell ⟨g, i, none⟩ v) :=
  ⟨h.rd.other (by have := h.lt; omega) v, h.res.far (by have := h.lt; omega) i v, h.u.set i v, h.bel.setCell (p := ⟨g, i, none⟩) (by show w.heap.size ≤ g; have := h.lt; omega) v, h.lt⟩
theorem RW.far {w wx : World} {t : TypeId} {z : Array Value} {g : Nat} {s : ByteArray} {p : Nat × Bool} {uc : Array Value} (h : RW w t z g s p uc wx) {b : Nat} (hb : g < b) (i : Nat) (v : Value) : RW w t z g s p uc (wx.setCell ⟨b, i, none⟩ v) :=
  ⟨h.rd.other (by have := h.lt; omega) v, h.res.far (by have := h.lt; omega) i v, h.u.far (by omega) i v, h.bel.setCell (p := ⟨b, i, none⟩) (by show w.heap.size ≤ b; have := h.lt; omega) v, h.lt⟩
theorem RW.alloc {w wx : World} {t : TypeId} {z : Array Value} {g : Nat} {s : ByteArray} {p : Nat × Bool} {uc : Array Value} (h : RW w t z g s p uc wx) (o : Obj) : RW w t z g s p uc (wx.alloc o) :=
  ⟨h.rd.alloc o, h.res.alloc o, h.u.alloc o, h.bel.trans ((new1 wx o).mono h.bel.size), h.lt⟩
theorem own_grown {w w' : World} {g : Nat} {t : TypeId} {cs : Array Value} {row : Option Nat} (h : Own w g t cs) (hg : w.grownBy w' row) (hne : ∀ k, row = some k → g ≠ k) : Own w' g t cs :=
  ⟨(hg.block g h.lt (fun e => hne g e.symm rfl)).trans h.ex⟩
theorem RW.grown {w wx w' : World} {t : TypeId} {z : Array Value} {g : Nat} {s : ByteArray} {p : Nat × Bool} {uc : Array Value} {row : Option Nat} (h : RW w t z g s p uc wx) (hg : wx.grownBy w' row) (hr : ∀ k, row = some k → g < k) : RW w t z g s p uc w' :=
  ⟨h.rd.keep (hg.block _ h.rd.lt (fun e => by have := hr _ e.symm; have := h.lt; omega)), own_grown h.res hg (fun k e => by have := hr k e; have := h.lt; omega), own_grown h.u hg (fun k e => by have := hr k e; omega),
    h.bel.grown hg h.bel.size (fun k e => by have := hr k e; have := h.lt; omega), h.lt⟩
theorem RW.below {w wx w' : World} {t : TypeId} {z : Array Value} {g : Nat} {s : ByteArray} {p : Nat × Bool} {uc : Array Value} (h : RW w t z g s p uc wx) (hb : Below wx.heap.size wx w') : RW w t z g s p uc w' :=
  ⟨h.rd.keep (hb.block _ h.rd.lt), ⟨(hb.block _ h.res.lt).trans h.res.ex⟩, ⟨(hb.block _ h.u.lt).trans h.u.ex⟩, h.bel.trans (hb.mono h.bel.size), h.lt⟩
/-- How it begins: two boxes. -/
theorem rw_boxes (w : World) (t tr : TypeId) (z : Array Value) (s : ByteArray) : RdAt ((w.alloc (.cells z t)).alloc (.cells #[.string s, .int .i64 0, .bool false] tr)) (w.heap.size + 1) s (0, false) ∧ Own ((w.alloc (.cells z t)).alloc (.cells #[.string s, .int .i64 0, .bool false] tr)) w.heap.size t z ∧ Below w.heap.size w ((w.alloc (.cells z t)).alloc (.cells #[.string s, .int .i64 0, .bool false] tr)) := by
  have hr := rd_new (w.alloc (.cells z t)) s tr
  rw [show (w.alloc (.cells z t)).heap.size = w.heap.size + 1 by simp] at hr
  exact ⟨hr, (own_new w z t).alloc _, then_ (new1 w _) (new1 _ _)⟩
/-- The thing that is read is laid. -/
theorem RW.begin {w wx : World} {t : TypeId} {z : Array Value} {s : ByteArray} {p : Nat × Bool} (hr : RdAt wx (w.heap.size + 1) s p) (ho : Own wx w.heap.size t z) (hb : Below w.heap.size w wx) (zc uc : Array Value) : RW w t z wx.heap.size s p uc ((wx.alloc (.cells zc t)).setRow wx.heap.size uc) :=
  have hlt := hr.lt
  ⟨(hr.alloc _).keep ((grown_row _ _ uc).block _ (Nat.lt_trans hlt (by simp)) (by intro e; injection e with e; omega)), own_grown (ho.alloc _) (grown_row _ wx.heap.size uc) (fun k e => by injection e with e; omega),
    (own_new wx zc t).row uc, below_setRow (then_ hb (new1 wx _)) hb.size uc, by omega⟩
theorem RowsOf.grown {α : Type} {cells : α → List Value} {q : Nat} {w w' : World} {A : Option Addr} {n c : Nat} {l : List α} {row : Option Nat} (h : RowsOf cells q w A n c l) (hg : w.grownBy w' row) (hr : ∀ a k, A = some a → row = some k → a.block ≠ k) : RowsOf cells q w' A n c l :=
  h.keep hg (fun a ha e => hr a a.block ha e.symm rfl)
end Go.Proofs.YtimbklggifbibaaGreatDoor.P
