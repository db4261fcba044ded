/- Tickets: the place of a key, what is ahead of it, who is ready. -/
import Derived.Test.YtcaapnjipjemiaaDoorTkOrd
import Derived.Test.YtcaapnjipjemiaaDoorKvFind
import Derived.Test.YtcaapnjipjemiaaDoorBaseOwn
namespace Go.Proofs.YtcaapnjipjemiaaDoor.P
open Go.RowKit Go.Sort
set_option maxHeartbeats 1000000
set_option linter.unusedVariables false
set_option linter.unusedSimpArgs false
set_option maxRecDepth 100000

/-- The place of a key's first thing, -1 if it has none. -/
def idxL (k : ByteArray) : List KV → Int
  | [] => -1
  | y :: r => if teq y.key k then 0 else if idxL k r = -1 then -1 else idxL k r + 1
theorem KVs.take {w : World} {A : Option Addr} {n c i : Nat} {l : List KV} (h : KVs w A n c l) (hi : i ≤ n) : KVs w A i c (l.take i) :=
  ⟨by rw [List.length_take, h.len]; omega, Nat.le_trans hi h.le, h.max, fun x hx => h.ok x (List.mem_of_mem_take hx), fun h0 => by
    obtain ⟨a, e, hlt, hx⟩ := h.rd (by omega)
    exact ⟨a, e, hlt, fun k x hk => hx k x (by
      rw [List.getElem?_take] at hk
      split at hk
      · exact hk
      · cases hk)⟩, h.nil⟩
/-- What is ahead of a key in the order. -/
def aheadL (l : List KV) (k : ByteArray) : List KV := (ordL befB l).take (idxL k (ordL befB l)).toNat
def AheadEnd (w : World) (al : List KV) (e : Ending) (w' : World) : Prop := ∃ g q d, e = .returned (.slice (some ⟨g, 0, none⟩) q d) ∧ w.heap.size ≤ g ∧ KVs w' (some ⟨g, 0, none⟩) q d al ∧ Below w.heap.size w w'
theorem KVs.grown {w w' : World} {A : Option Addr} {n c : Nat} {l : List KV} {row : Option Nat} (h : KVs w A n c l) (hg : w.grownBy w' row) (hne : ∀ a, A = some a → some a.block ≠ row) : KVs w' A n c l :=
  ⟨h.len, h.le, h.max, h.ok, fun hn => by
    obtain ⟨a, e, hlt, hx⟩ := h.rd hn
    refine ⟨a, e, Nat.lt_of_lt_of_le hlt hg.size, fun i x hi => ?_⟩
    have key : ∀ o, w'.cell? ⟨a.block, o, none⟩ = w.cell? ⟨a.block, o, none⟩ := fun o => World.cell?_of_block (a := ⟨a.block, o, none⟩) (hg.block _ hlt (hne a e))
    have h6 := hx i x hi
    have hb : (a.add (i * 6)).block = a.block := block_add a (i * 6)
    have k0 : w'.cell? (a.add (i * 6)) = w.cell? (a.add (i * 6)) := World.cell?_of_block (a := a.add (i * 6)) (by rw [hb]; exact hg.block _ hlt (hne a e))
    exact ⟨k0.trans h6.c0, by rw [hb]; exact (key _).trans (by rw [← hb]; exact h6.c1), by rw [hb]; exact (key _).trans (by rw [← hb]; exact h6.c2), by rw [hb]; exact (key _).trans (by rw [← hb]; exact h6.c3),
      by rw [hb]; exact (key _).trans (by rw [← hb]; exact h6.c4), by rw [hb]; exact (key _).trans (by rw [← hb]; exact h6.c5)⟩, h.nil⟩
/-- What is ahead: how many, and whether one of them is a writer's. -/
def writesB (x : KV) : Bool := teq x.val ⟨#[119]⟩
def letsB (kind n m : Int) (b : Bool) : Bool :=
  if kind = 1 ∨ kind = 3 ∨ kind = 5 then decide (m = 0) else if kind = 2 then !b else if kind = 4 then decide (m < n) else false
def signB (kind : Int) : ByteArray := if kind = 2 then ⟨#[114]⟩ else if kind = 3 then ⟨#[119]⟩ else ⟨#[]⟩
def manyL (o : List KV) (k : ByteArray) : Int := (aheadL o k).length
/-- Who is ready. -/
def readyB (kind n : Int) (l : List KV) (k : ByteArray) : Bool := (findL l k).isSome && letsB kind n ((aheadL l k).length : Int) ((aheadL l k).any writesB)
theorem any_take (l : List KV) (p : KV → Bool) (k : Nat) (x : KV) (h : l[k]? = some x) : (l.take (k + 1)).any p = ((l.take k).any p || p x) := by
  rw [take_succ l k x h, List.any_append]; simp
end Go.Proofs.YtcaapnjipjemiaaDoor.P
