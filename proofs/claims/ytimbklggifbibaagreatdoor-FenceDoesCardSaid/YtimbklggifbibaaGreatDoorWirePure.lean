/- A reader and its steps, plain: where it is, whether something was wrong. -/
import Derived.Test.YtimbklggifbibaaGreatDoorShiftRead
import Derived.Lib.BufferOwn
namespace Go.Proofs.YtimbklggifbibaaGreatDoor.P
open Go.RowKit Go.Lib
set_option linter.unusedVariables false

def numR (s : ByteArray) (p : Nat × Bool) : Nat × (Nat × Bool) :=
  if p.2 = true then (0, p) else
    if (readR (s.data.toList.drop p.1) 0 0).2.2 = 0 ∧ (readR (s.data.toList.drop p.1) 0 0).1 ≤ 1099511627775 then
      ((readR (s.data.toList.drop p.1) 0 0).1, (p.1 + (readR (s.data.toList.drop p.1) 0 0).2.1, false))
    else (0, (p.1, true))
def txtR (s : ByteArray) (p : Nat × Bool) : ByteArray × (Nat × Bool) :=
  if s.size - (numR s p).2.1 < (numR s p).1 then (ByteArray.empty, ((numR s p).2.1, true))
  else (s.extract (numR s p).2.1 ((numR s p).2.1 + (numR s p).1), ((numR s p).2.1 + (numR s p).1, (numR s p).2.2))
def uptoR (s : ByteArray) (m : Nat) (p : Nat × Bool) : Nat × (Nat × Bool) :=
  if m < (numR s p).1 then (0, ((numR s p).2.1, true)) else numR s p
def yesR (s : ByteArray) (p : Nat × Bool) : Bool × (Nat × Bool) := ((numR s p).1 == 1, (uptoR s 1 p).2)
def firstR (s : ByteArray) (k : Nat) (p : Nat × Bool) : Nat × Bool :=
  if (numR s p).1 = k then (numR s p).2 else ((numR s p).2.1, true)
def doneR (s : ByteArray) (p : Nat × Bool) : Bool := !p.2 && p.1 == s.size

theorem readR_len : ∀ (l : List UInt8) (i n v c : Nat), readR l i n = (v, c, 0) → i < c ∧ c ≤ i + l.length
  | [], i, n, v, c, h => by simp [readR] at h
  | x :: r, i, n, v, c, h => by
    rw [readR] at h
    split at h
    · simp at h
    · split at h
      · simp at h; obtain ⟨_, rfl⟩ := h; simp
      · have := readR_len r _ _ _ _ h
        simp only [List.length_cons]; omega
theorem numR_bad (s : ByteArray) (a : Nat) : numR s (a, true) = (0, (a, true)) := by simp [numR]
theorem numR_le (s : ByteArray) (p : Nat × Bool) : (numR s p).1 ≤ 1099511627775 := by
  unfold numR; split
  · simp
  · split
    · rename_i h; exact h.2
    · simp
theorem numR_at (s : ByteArray) (p : Nat × Bool) (h : p.1 ≤ s.size) : p.1 ≤ (numR s p).2.1 ∧ (numR s p).2.1 ≤ s.size := by
  unfold numR; split
  · exact ⟨Nat.le_refl _, h⟩
  · split
    · rename_i h2
      have h3 := readR_len (s.data.toList.drop p.1) 0 0 (readR (s.data.toList.drop p.1) 0 0).1 (readR (s.data.toList.drop p.1) 0 0).2.1 (Prod.ext rfl (Prod.ext rfl h2.1))
      have hl : (s.data.toList.drop p.1).length = s.size - p.1 := by rw [List.length_drop]; rfl
      rw [hl] at h3
      simp only; omega
    · exact ⟨Nat.le_refl _, h⟩
theorem uptoR_le (s : ByteArray) (m : Nat) (p : Nat × Bool) : (uptoR s m p).1 ≤ m := by
  unfold uptoR; split
  · simp
  · omega
theorem uptoR_at (s : ByteArray) (m : Nat) (p : Nat × Bool) (h : p.1 ≤ s.size) : (uptoR s m p).2.1 ≤ s.size := by
  unfold uptoR; split
  · exact (numR_at s p h).2
  · exact (numR_at s p h).2
theorem txtR_at (s : ByteArray) (p : Nat × Bool) (h : p.1 ≤ s.size) : (txtR s p).2.1 ≤ s.size := by
  have := (numR_at s p h).2
  unfold txtR; split
  · exact this
  · simp only; omega
theorem firstR_at (s : ByteArray) (k : Nat) (p : Nat × Bool) (h : p.1 ≤ s.size) : (firstR s k p).1 ≤ s.size := by
  have := (numR_at s p h).2
  unfold firstR; split <;> exact this
theorem extract_same (s : ByteArray) (a : Nat) : s.extract a a = ByteArray.empty := by
  apply ByteArray.ext
  simp

/-- A reader lies in block b. -/
structure RdAt (w : World) (b : Nat) (s : ByteArray) (p : Nat × Bool) : Prop where
  c0 : w.cell? ⟨b, 0, none⟩ = some (.string s)
  c1 : w.cell? ⟨b, 1, none⟩ = some (.int .i64 (p.1 : Int))
  c2 : w.cell? ⟨b, 2, none⟩ = some (.bool p.2)
  f1 : w.frozen? ⟨b, 1, none⟩ = false
  f2 : w.frozen? ⟨b, 2, none⟩ = false
  le : p.1 ≤ s.size
/-- How a call of a reader ends: what it answers, where the reader is now; nothing else has turned. Plain, so that the walk leaves it alone. -/
def Reads (w : World) (b : Nat) (s : ByteArray) (p : Nat × Bool) (v : Value) (e : Ending) (w' : World) : Prop :=
  e = .returned v ∧ RdAt w' b s p ∧ w.grownBy w' (some b)
def ReadsNone (w : World) (b : Nat) (s : ByteArray) (p : Nat × Bool) (e : Ending) (w' : World) : Prop :=
  e = .returned (.tuple #[]) ∧ RdAt w' b s p ∧ w.grownBy w' (some b)
theorem grown_refl (w : World) (r : Option Nat) : w.grownBy w r := ⟨rfl, rfl, rfl, Nat.le_refl _, fun _ _ _ => rfl⟩
theorem RdAt.drewN {w : World} {b : Nat} {s : ByteArray} {p : Nat × Bool} (h : RdAt w b s p) (n : Nat) : RdAt (w.drewN n) b s p := ⟨h.c0, h.c1, h.c2, h.f1, h.f2, h.le⟩
theorem grown_drewN (w : World) (n : Nat) (r : Option Nat) : w.grownBy (w.drewN n) r := ⟨rfl, rfl, rfl, Nat.le_refl _, fun _ _ _ => rfl⟩
theorem RdAt.go {w : World} {b : Nat} {s : ByteArray} {p : Nat × Bool} (h : RdAt w b s p) (a : Nat) (x : Int) (hx : x = (a : Int)) (ha : a ≤ s.size) : RdAt (w.setCell ⟨b, 1, none⟩ (.int .i64 x)) b s (a, p.2) := by
  subst hx
  exact ⟨by rw [World.cell?_setCell_other _ _ _ _ (by simp)]; exact h.c0, World.cell?_setCell_same _ _ _ h.c1, by rw [World.cell?_setCell_other _ _ _ _ (by simp)]; exact h.c2,
    by rw [World.frozen?_setCell]; exact h.f1, by rw [World.frozen?_setCell]; exact h.f2, ha⟩
theorem RdAt.wrong {w : World} {b : Nat} {s : ByteArray} {p : Nat × Bool} (h : RdAt w b s p) : RdAt (w.setCell ⟨b, 2, none⟩ (.bool true)) b s (p.1, true) :=
  ⟨by rw [World.cell?_setCell_other _ _ _ _ (by simp)]; exact h.c0, by rw [World.cell?_setCell_other _ _ _ _ (by simp)]; exact h.c1, World.cell?_setCell_same _ _ _ h.c2,
    by rw [World.frozen?_setCell]; exact h.f1, by rw [World.frozen?_setCell]; exact h.f2, h.le⟩
theorem grown_set {a w : World} {b : Nat} (h : a.grownBy w (some b)) (i : Nat) (v : Value) : a.grownBy (w.setCell ⟨b, i, none⟩ v) (some b) := grownBy_setB h i v
end Go.Proofs.YtimbklggifbibaaGreatDoor.P
