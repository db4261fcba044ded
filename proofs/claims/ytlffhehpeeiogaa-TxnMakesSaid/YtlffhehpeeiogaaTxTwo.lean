/- Two deeds that are made, each in a box of its own, whatever the order: what is left. -/
import Derived.Test.YtlffhehpeeiogaaTxMake
import Derived.Test.YtlffhehpeeiogaaMvRefShr
namespace Go.Proofs.Ytlffhehpeeiogaa.P
open Go.RowKit Go.Sort
set_option maxHeartbeats 1000000
set_option linter.unusedVariables false
set_option linter.unusedSimpArgs false
set_option maxRecDepth 100000

abbrev zTx : Array Value := #[.slice none 0 0, .slice none 0 0, .slice none 0 0]
theorem ztx_val {i : Nat} {v : Value} (h : zTx[i]? = some v) : v = .slice none 0 0 := by
  match i with
  | 0 => simpa using h.symm
  | 1 => simpa using h.symm
  | 2 => simpa using h.symm
  | (i + 3) => simp at h
theorem own_val {w : World} {G : Nat} {t : TypeId} {cs : Array Value} {p : Addr} {v : Value} (o : Own w G t cs) (hp : p.block = G) (h : w.cell? p = some v) : ∃ i : Nat, cs[i]? = some v := by
  have ho := o.ex
  rw [← hp] at ho
  unfold World.cell? at h
  rw [ho] at h
  simp at h
  exact ⟨_, h.2⟩
theorem Mus.off {w w' : World} {A : Option Addr} {n c g : Nat} {l : List Mu} {t : TypeId} (h : Mus w A n c l) (o : Own w g t zTx) (hg : w.grownBy w' (some g)) : Mus w' A n c l :=
  ⟨h.len, h.le, h.max, h.ok, fun hn => by
    obtain ⟨a, e, hb, hr⟩ := h.rd hn
    have hl : 0 < l.length := by rw [h.len]; exact hn
    have hne : a.block ≠ g := fun hh => by
      have h0 := (hr 0 l[0] (List.getElem?_eq_getElem hl)).c0
      have e0 : a.add (0 * 4) = a := by simp [Addr.add]
      rw [e0] at h0
      obtain ⟨i, hi⟩ := own_val o hh h0
      have := ztx_val hi
      cases this
    have hblk : ∀ k : Nat, (a.add (k * 4)).block = a.block := fun k => by unfold Addr.add; split <;> rfl
    have hc : ∀ p : Addr, p.block = a.block → w'.cell? p = w.cell? p := fun p hp => World.cell?_of_block (by rw [hp]; exact hg.block _ hb (fun hh => hne (by injection hh)))
    exact ⟨a, e, Nat.lt_of_lt_of_le hb hg.size, fun i x hx => ⟨(hc _ (hblk i)).trans (hr i x hx).c0, (hc ⟨(a.add (i * 4)).block, (a.add (i * 4)).off + 1, none⟩ (hblk i)).trans (hr i x hx).c1, (hc ⟨(a.add (i * 4)).block, (a.add (i * 4)).off + 2, none⟩ (hblk i)).trans (hr i x hx).c2, (hc ⟨(a.add (i * 4)).block, (a.add (i * 4)).off + 3, none⟩ (hblk i)).trans (hr i x hx).c3⟩⟩, h.nil⟩
theorem Cms.off {w w' : World} {A : Option Addr} {n c g : Nat} {l : List Cm} {t : TypeId} (h : Cms w A n c l) (o : Own w g t zTx) (hg : w.grownBy w' (some g)) : Cms w' A n c l :=
  ⟨⟨h.row.len, h.row.le, h.row.max, fun hn => by
    obtain ⟨a, e, hb, hr⟩ := h.row.rd hn
    have hl : 0 < l.length := by rw [h.row.len]; exact hn
    have hne : a.block ≠ g := fun hh => by
      have h0 := hr 0 l[0] (List.getElem?_eq_getElem hl) 0 _ rfl
      have e0 : a.add (0 * 5) = a := by simp [Addr.add]
      rw [e0] at h0
      obtain ⟨i, hi⟩ := own_val o (by rw [subA_block]; exact hh) h0
      have := ztx_val hi
      cases this
    have hblk : ∀ k : Nat, (a.add (k * 5)).block = a.block := fun k => by unfold Addr.add; split <;> rfl
    exact ⟨a, e, Nat.lt_of_lt_of_le hb hg.size, fun i x hx => (hr i x hx).keep hg (by rw [hblk]; exact hb) (by rw [hblk]; exact fun hh => hne (by injection hh))⟩, h.row.nil⟩, h.ok⟩
theorem TxAt.off {w w' : World} {x : Tx} {A : Option Addr} {n c : Nat} {B : Option Addr} {m d : Nat} {C : Option Addr} {o e : Nat} {g : Nat} {t : TypeId} (h : TxAt w x A n c B m d C o e) (k : Own w g t zTx) (hg : w.grownBy w' (some g)) : TxAt w' x A n c B m d C o e := ⟨h.iff.off k hg, h.thn.off k hg, h.els.off k hg⟩
theorem grown_set3 (w : World) (g : Nat) (v0 v1 v2 : Value) : w.grownBy (set3 w g v0 v1 v2) (some g) := by
  exact (((Lib.grownBy_setCell w g 0 v0).trans (Lib.grownBy_setCell _ g 1 v1)).trans (Lib.grownBy_setCell _ g 2 v2))
theorem own_set3 {w : World} {g : Nat} {t : TypeId} (o : Own w g t zTx) (v0 v1 v2 : Value) : Own (set3 w g v0 v1 v2) g t #[v0, v1, v2] := ((o.set 0 v0).set 1 v1).set 2 v2
theorem own_off3 {w : World} {g b : Nat} {t : TypeId} {cs : Array Value} (o : Own w g t cs) (hb : g ≠ b) (v0 v1 v2 : Value) : Own (set3 w b v0 v1 v2) g t cs := ((o.other b 0 v0 hb).other b 1 v1 hb).other b 2 v2 hb
/-- Two boxes, each with a deed of the same reading. -/
def Two (t : Tx) (w : World) (v1 v2 : Value) (wx : World) : Prop :=
  ∃ b A n c B m d C o e b' A' n' c' B' m' d' C' o' e', v1 = .pointer (some ⟨b, 0, none⟩) ∧ v2 = .pointer (some ⟨b', 0, none⟩) ∧ TxAt wx t A n c B m d C o e ∧ TxAt wx t A' n' c' B' m' d' C' o' e' ∧ Own wx b 57 (txCells A n c B m d C o e) ∧ Own wx b' 57 (txCells A' n' c' B' m' d' C' o' e') ∧ Below w.heap.size w wx
variable {t : Tx} {w w5 : World} {A : Option Addr} {n c : Nat} {B : Option Addr} {m d : Nat} {C : Option Addr} {o e : Nat} {A' : Option Addr} {n' c' : Nat} {B' : Option Addr} {m' d' : Nat} {C' : Option Addr} {o' e' : Nat}
theorem two_new (h : TxAt w5 t A n c B m d C o e) (g : TxAt w5 t A' n' c' B' m' d' C' o' e') (hb : Below w.heap.size w w5) :
    Two t w (.pointer (some ⟨w5.heap.size, 0, none⟩)) (.pointer (some ⟨w5.heap.size + 1, 0, none⟩)) ((w5.alloc (.cells (txCells A n c B m d C o e) 57)).alloc (.cells (txCells A' n' c' B' m' d' C' o' e') 57)) :=
  have bb := then_ (new1 w5 (.cells (txCells A n c B m d C o e) 57)) (new1 _ (.cells (txCells A' n' c' B' m' d' C' o' e') 57))
  ⟨_, _, _, _, _, _, _, _, _, _, _, _, _, _, _, _, _, _, _, _, rfl, rfl, h.keep bb, g.keep bb, (own_new _ _ _).alloc _, own_new2 _ _ _ _, then_ hb bb⟩
theorem two_swap {v1 v2 : Value} {wx : World} (h : Two t w v1 v2 wx) : Two t w v2 v1 wx := by
  obtain ⟨b, A, n, c, B, m, d, C, o, e, b', A', n', c', B', m', d', C', o', e', h1, h2, h3, h4, h5, h6, h7⟩ := h
  exact ⟨_, _, _, _, _, _, _, _, _, _, _, _, _, _, _, _, _, _, _, _, h2, h1, h4, h3, h6, h5, h7⟩
theorem below_off {b : Nat} (hb : Below w.heap.size w w5) (hle : w.heap.size ≤ b) (v0 v1 v2 : Value) : Below w.heap.size w (set3 w5 b v0 v1 v2) := below_set3 hb hle v0 v1 v2
theorem two_one {b : Nat} (z : Own w5 b 57 zTx) (h : TxAt w5 t A n c B m d C o e) (g : TxAt w5 t A' n' c' B' m' d' C' o' e') (hb : Below w.heap.size w w5) (hle : w.heap.size ≤ b) :
    Two t w (.pointer (some ⟨b, 0, none⟩)) (.pointer (some ⟨w5.heap.size, 0, none⟩)) ((set3 w5 b (.slice A n c) (.slice B m d) (.slice C o e)).alloc (.cells (txCells A' n' c' B' m' d' C' o' e') 57)) := by
  have gr := grown_set3 w5 b (.slice A n c) (.slice B m d) (.slice C o e)
  have hn := own_new (set3 w5 b (.slice A n c) (.slice B m d) (.slice C o e)) (txCells A' n' c' B' m' d' C' o' e') 57
  rw [set3_size] at hn
  exact ⟨_, _, _, _, _, _, _, _, _, _, _, _, _, _, _, _, _, _, _, _, rfl, rfl, (h.off z gr).keep (new1 _ _), (g.off z gr).keep (new1 _ _), (own_set3 z _ _ _).alloc _, hn, then_ (below_off hb hle _ _ _) (new1 _ _)⟩
theorem two_old {b b' : Nat} (z : Own w5 b 57 zTx) (z' : Own w5 b' 57 zTx) (hne : b ≠ b') (h : TxAt w5 t A n c B m d C o e) (g : TxAt w5 t A' n' c' B' m' d' C' o' e') (hb : Below w.heap.size w w5) (hle : w.heap.size ≤ b) (hle' : w.heap.size ≤ b') :
    Two t w (.pointer (some ⟨b, 0, none⟩)) (.pointer (some ⟨b', 0, none⟩)) (set3 (set3 w5 b (.slice A n c) (.slice B m d) (.slice C o e)) b' (.slice A' n' c') (.slice B' m' d') (.slice C' o' e')) := by
  have gr := grown_set3 w5 b (.slice A n c) (.slice B m d) (.slice C o e)
  have z2 := own_off3 z' (Ne.symm hne) (.slice A n c) (.slice B m d) (.slice C o e)
  have gr2 := grown_set3 (set3 w5 b (.slice A n c) (.slice B m d) (.slice C o e)) b' (.slice A' n' c') (.slice B' m' d') (.slice C' o' e')
  exact ⟨_, _, _, _, _, _, _, _, _, _, _, _, _, _, _, _, _, _, _, _, rfl, rfl, (h.off z gr).off z2 gr2, (g.off z gr).off z2 gr2, own_off3 (own_set3 z _ _ _) hne _ _ _, own_set3 z2 _ _ _, below_off (below_off hb hle _ _ _) hle' _ _ _⟩
end Go.Proofs.Ytlffhehpeeiogaa.P
