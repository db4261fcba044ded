/- Questions of what there is, and what is done by their answers: plain; what lists of questions read as. -/
import Derived.Test.YtgafkpngnoecaaaMvOpen
import Derived.Test.YtgafkpngnoecaaaMvApart
namespace Go.Proofs.Ytgafkpngnoecaaa.P
open Go.RowKit
set_option linter.unusedVariables false

structure Cm where
  key : ByteArray
  what : Int
  how : Int
  n : Int
  val : ByteArray
structure Cm.ok (x : Cm) : Prop where
  key : x.key.size ≤ maxLen
  what : inI x.what
  how : inI x.how
  n : inI x.n
  val : x.val.size ≤ maxLen
instance : Inhabited Cm := ⟨⟨⟨#[]⟩, 0, 0, 0, ⟨#[]⟩⟩⟩
abbrev Cm.agg (x : Cm) : Value := .agg #[.string x.key, .int .i64 x.what, .int .i64 x.how, .int .i64 x.n, .string x.val]
abbrev Cm.obj (x : Cm) (t : TypeId) : Obj := .cells #[.string x.key, .int .i64 x.what, .int .i64 x.how, .int .i64 x.n, .string x.val] t
def Cm.cells (x : Cm) : List Value := [.string x.key, .int .i64 x.what, .int .i64 x.how, .int .i64 x.n, .string x.val]
structure At5 (w : World) (p : Addr) (x : Cm) : Prop where
  c0 : w.cell? p = some (.string x.key)
  c1 : w.cell? ⟨p.block, p.off + 1, none⟩ = some (.int .i64 x.what)
  c2 : w.cell? ⟨p.block, p.off + 2, none⟩ = some (.int .i64 x.how)
  c3 : w.cell? ⟨p.block, p.off + 3, none⟩ = some (.int .i64 x.n)
  c4 : w.cell? ⟨p.block, p.off + 4, none⟩ = some (.string x.val)
/-- What a slice of questions reads as. -/
structure Cms (w : World) (A : Option Addr) (n c : Nat) (l : List Cm) : Prop where
  row : RowsOf Cm.cells 5 w A n c l
  ok : ∀ x ∈ l, x.ok
theorem Cms.keep {w w' : World} {A : Option Addr} {n c : Nat} {l : List Cm} (h : Cms w A n c l) (hb : Below w.heap.size w w') : Cms w' A n c l := ⟨h.row.below hb, h.ok⟩
theorem Cms.at_ {w : World} {A : Option Addr} {n c k : Nat} {l : List Cm} (h : Cms w A n c l) (hk : k < n) : ∃ a x, A = some a ∧ a.block < w.heap.size ∧ l[k]? = some x ∧ x.ok ∧ At5 w (a.add (k * 5)) x := by
  obtain ⟨a, x, e, hb, hx, hl⟩ := h.row.at_ hk
  exact ⟨a, x, e, hb, hx, h.ok x (List.mem_of_getElem? hx), ⟨hl 0 _ rfl, hl 1 _ rfl, hl 2 _ rfl, hl 3 _ rfl, hl 4 _ rfl⟩⟩
theorem Cms.bare (w : World) : Cms w none 0 0 [] := ⟨RowsOf.bare w, fun _ h => by simp at h⟩
structure Tx where
  iff : List Cm
  thn : List Mu
  els : List Mu
abbrev Tx.agg (t : Tx) (A : Option Addr) (n c : Nat) (B : Option Addr) (m d : Nat) (C : Option Addr) (o e : Nat) : Value := .agg #[.slice A n c, .slice B m d, .slice C o e]
abbrev txCells (A : Option Addr) (n c : Nat) (B : Option Addr) (m d : Nat) (C : Option Addr) (o e : Nat) : Array Value := #[.slice A n c, .slice B m d, .slice C o e]
structure TxAt (w : World) (t : Tx) (A : Option Addr) (n c : Nat) (B : Option Addr) (m d : Nat) (C : Option Addr) (o e : Nat) : Prop where
  iff : Cms w A n c t.iff
  thn : Mus w B m d t.thn
  els : Mus w C o e t.els
theorem TxAt.keep {w w' : World} {t : Tx} {A : Option Addr} {n c : Nat} {B : Option Addr} {m d : Nat} {C : Option Addr} {o e : Nat} (h : TxAt w t A n c B m d C o e) (hb : Below w.heap.size w w') : TxAt w' t A n c B m d C o e := ⟨h.iff.keep hb, h.thn.keep hb, h.els.keep hb⟩

/-! ### Plain -/
def thingL (l : List KV) (k : ByteArray) : KV := (findL l k).getD ⟨⟨#[]⟩, ⟨#[]⟩, 0, 0, 0, 0⟩
def numB (a how b : Int) : Bool := (decide (how = 1) && decide (a = b)) || (decide (how = 2) && decide (a < b)) || (decide (how = 3) && decide (b < a))
def txtB (a : ByteArray) (how : Int) (b : ByteArray) : Bool := (decide (how = 1) && teq a b) || (decide (how = 2) && tlt a b) || (decide (how = 3) && tlt b a)
def askB (c : Cm) : Bool := decide (1 ≤ c.what ∧ c.what ≤ 4) && decide (1 ≤ c.how ∧ c.how ≤ 3)
def holdsX (x : KV) (c : Cm) : Bool :=
  if c.what = 1 then numB x.cre c.how c.n else if c.what = 2 then numB x.mod c.how c.n else if c.what = 3 then numB x.ver c.how c.n else if c.what = 4 then txtB x.val c.how c.val else false
def holdsB (l : List KV) (c : Cm) : Bool := holdsX (thingL l c.key) c
def allB (l : List KV) (cs : List Cm) : Bool := cs.all (holdsB l)
def txMayB (t : Tx) : Bool := decide (t.iff.length ≤ 4 ∧ t.thn.length ≤ 4 ∧ t.els.length ≤ 4) && t.iff.all askB
def pickL (s : St) (t : Tx) : List Mu := if allB (nowL s) t.iff = true then t.thn else t.els
def doE (s : St) (t : Tx) : Int := if txMayB t = true then applyE s (pickL s t) else 1
def doS (s : St) (t : Tx) : St := if txMayB t = true then applyS s (pickL s t) else s
def doV (s : St) (t : Tx) : List Ev := if txMayB t = true then applyEv s (pickL s t) else []
def doY (s : St) (t : Tx) : Bool := txMayB t && allB (nowL s) t.iff && decide (applyE s (pickL s t) = 0)
theorem numB_how {a how b : Int} (h : ¬ (1 ≤ how ∧ how ≤ 3)) : numB a how b = false := by
  unfold numB
  rw [decide_eq_false (show ¬ how = 1 by omega), decide_eq_false (show ¬ how = 2 by omega), decide_eq_false (show ¬ how = 3 by omega)]; rfl
theorem txtB_how {a : ByteArray} {how : Int} {b : ByteArray} (h : ¬ (1 ≤ how ∧ how ≤ 3)) : txtB a how b = false := by
  unfold txtB
  rw [decide_eq_false (show ¬ how = 1 by omega), decide_eq_false (show ¬ how = 2 by omega), decide_eq_false (show ¬ how = 3 by omega)]; rfl
/-- What may not be asked doesn't hold. -/
theorem holds_not {l : List KV} {c : Cm} (h : askB c = false) : holdsB l c = false := by
  unfold askB at h
  rw [Bool.and_eq_false_iff, decide_eq_false_iff_not, decide_eq_false_iff_not] at h
  unfold holdsB holdsX
  rcases h with h | h
  · rw [if_neg (by omega), if_neg (by omega), if_neg (by omega), if_neg (by omega)]
  · rw [numB_how h, numB_how h, numB_how h, txtB_how h]
    repeat' split
    all_goals rfl
theorem apply_same {s : St} {ms : List Mu} (h : applyE s ms ≠ 0) : applyS s ms = s ∧ applyEv s ms = [] := by
  have : ¬ applied s ms := fun ha => h ha.1
  exact ⟨if_neg this, if_neg this⟩
theorem do_same {s : St} {t : Tx} (h : doE s t ≠ 0) : doS s t = s ∧ doV s t = [] ∧ doY s t = false := by
  unfold doE at h; unfold doS doV doY
  split at h
  · rename_i hm
    obtain ⟨h1, h2⟩ := apply_same h
    rw [if_pos hm, if_pos hm, h1, h2, decide_eq_false h, Bool.and_false]
    exact ⟨rfl, rfl, rfl⟩
  · rename_i hm
    rw [if_neg hm, if_neg hm]
    have : txMayB t = false := by simpa using hm
    rw [this]
    exact ⟨rfl, rfl, rfl⟩
theorem do_fine {s : St} {t : Tx} (h : doE s t = 0) : txMayB t = true ∧ applyE s (pickL s t) = 0 ∧ doS s t = applyS s (pickL s t) ∧ doV s t = applyEv s (pickL s t) ∧ doY s t = allB (nowL s) t.iff := by
  unfold doE at h; unfold doS doV doY
  split at h
  · rename_i hm
    rw [if_pos hm, if_pos hm, hm, decide_eq_true h, Bool.true_and, Bool.and_true]
    exact ⟨rfl, h, rfl, rfl, rfl⟩
  · cases h
theorem do_may {s : St} (h : MaySt s) (t : Tx) : MaySt (doS s t) := by
  unfold doS; split
  · exact apply_may h _
  · exact h
end Go.Proofs.Ytgafkpngnoecaaa.P
