/- Slices of events, as lists; few of them; the same. -/
import Derived.Test.YtkikfaeigoeogaaKvRow
import Derived.Test.YtkikfaeigoeogaaKvRead
namespace Go.Proofs.Ytkikfaeigoeogaa.P
open Go.RowKit Go.Sort
set_option maxHeartbeats 1000000
set_option linter.unusedVariables false
set_option linter.unusedSimpArgs false
set_option maxRecDepth 100000

structure Ev.ok (e : Ev) : Prop where
  rev : inI e.rev
  kv : e.kv.ok
abbrev Ev.obj (e : Ev) (t : TypeId) : Obj := .cells #[.int .i64 e.rev, .bool e.gone, .string e.kv.key, .string e.kv.val, .int .i64 e.kv.cre, .int .i64 e.kv.mod, .int .i64 e.kv.ver, .int .i64 e.kv.lea] t
structure At8 (w : World) (p : Addr) (e : Ev) : Prop where
  c0 : w.cell? p = some (.int .i64 e.rev)
  c1 : w.cell? ⟨p.block, p.off + 1, none⟩ = some (.bool e.gone)
  c2 : w.cell? ⟨p.block, p.off + 2, none⟩ = some (.string e.kv.key)
  c3 : w.cell? ⟨p.block, p.off + 3, none⟩ = some (.string e.kv.val)
  c4 : w.cell? ⟨p.block, p.off + 4, none⟩ = some (.int .i64 e.kv.cre)
  c5 : w.cell? ⟨p.block, p.off + 5, none⟩ = some (.int .i64 e.kv.mod)
  c6 : w.cell? ⟨p.block, p.off + 6, none⟩ = some (.int .i64 e.kv.ver)
  c7 : w.cell? ⟨p.block, p.off + 7, none⟩ = some (.int .i64 e.kv.lea)
theorem At8.keep {w w' : World} {p : Addr} {x : Ev} {B : Nat} (h : At8 w p x) (hb : Below B w w') (hp : p.block < B) : At8 w' p x :=
  ⟨(hb.cell hp).trans h.c0, (hb.cell (p := ⟨p.block, p.off + 1, none⟩) hp).trans h.c1, (hb.cell (p := ⟨p.block, p.off + 2, none⟩) hp).trans h.c2, (hb.cell (p := ⟨p.block, p.off + 3, none⟩) hp).trans h.c3,
    (hb.cell (p := ⟨p.block, p.off + 4, none⟩) hp).trans h.c4, (hb.cell (p := ⟨p.block, p.off + 5, none⟩) hp).trans h.c5, (hb.cell (p := ⟨p.block, p.off + 6, none⟩) hp).trans h.c6, (hb.cell (p := ⟨p.block, p.off + 7, none⟩) hp).trans h.c7⟩
/-- What a slice of events reads as. -/
structure Evs (w : World) (A : Option Addr) (n c : Nat) (l : List Ev) : Prop where
  len : l.length = n
  le : n ≤ c
  max : c ≤ maxLen
  ok : ∀ x ∈ l, x.ok
  rd : 0 < n → ∃ a, A = some a ∧ a.block < w.heap.size ∧ ∀ i x, l[i]? = some x → At8 w (a.add (i * 8)) x
  nil : A = none → c = 0
theorem Evs.keep {w w' : World} {A : Option Addr} {n c : Nat} {l : List Ev} (h : Evs w A n c l) (hb : Below w.heap.size w w') : Evs w' A n c l :=
  ⟨h.len, h.le, h.max, h.ok, fun hn => by
    obtain ⟨a, e, hlt, hx⟩ := h.rd hn
    exact ⟨a, e, Nat.lt_of_lt_of_le hlt hb.size, fun i x hi => (hx i x hi).keep hb (by rw [block_add]; exact hlt)⟩, h.nil⟩
theorem Evs.at_ {w : World} {A : Option Addr} {n c k : Nat} {l : List Ev} (h : Evs w A n c l) (hk : k < n) : ∃ a x, A = some a ∧ a.block < w.heap.size ∧ l[k]? = some x ∧ x.ok ∧ At8 w (a.add (k * 8)) x := by
  obtain ⟨a, e, hlt, hx⟩ := h.rd (by omega)
  have hl : k < l.length := by rw [h.len]; exact hk
  exact ⟨a, l[k], e, hlt, List.getElem?_eq_getElem hl, h.ok _ (List.getElem_mem hl), hx k _ (List.getElem?_eq_getElem hl)⟩

def Ev.cells (e : Ev) : List Value := [.int .i64 e.rev, .bool e.gone, .string e.kv.key, .string e.kv.val, .int .i64 e.kv.cre, .int .i64 e.kv.mod, .int .i64 e.kv.ver, .int .i64 e.kv.lea]
def cellsE (l : List Ev) : List Value := l.flatMap Ev.cells
theorem cellsE_len (l : List Ev) : (cellsE l).length = l.length * 8 := by
  induction l with
  | nil => rfl
  | cons x r ih => simp only [cellsE, List.flatMap_cons, List.length_append, List.length_cons] at ih ⊢; rw [ih, show x.cells.length = 8 from rfl]; omega
theorem cellsE_at : ∀ (l : List Ev) (i j : Nat) (x : Ev), l[i]? = some x → j < 8 → (cellsE l)[i * 8 + j]? = x.cells[j]?
  | [], _, _, _, h, _ => by simp at h
  | y :: r, 0, j, x, h, hj => by
    simp at h; subst h
    show (y.cells ++ cellsE r)[0 * 8 + j]? = _
    rw [Nat.zero_mul, Nat.zero_add, List.getElem?_append_left (by rw [show y.cells.length = 8 from rfl]; exact hj)]
  | y :: r, i + 1, j, x, h, hj => by
    show (y.cells ++ cellsE r)[(i + 1) * 8 + j]? = _
    rw [List.getElem?_append_right (by rw [show y.cells.length = 8 from rfl]; omega), show y.cells.length = 8 from rfl, show (i + 1) * 8 + j - 8 = i * 8 + j by omega]
    exact cellsE_at r i j x (by simpa using h) hj
/-- Events in a block of the call's own. -/
theorem evs_of_row {w : World} {g n c : Nat} {cur : Array Value} {l : List Ev} (hg : w.heap[g]? = some (.cells cur 43 (0, 0))) (hl : l.length = n) (hn : n ≤ c) (hc : c ≤ maxLen) (hx : cur.toList.take (n * 8) = cellsE l) (ok : ∀ x ∈ l, x.ok) : Evs w (some ⟨g, 0, none⟩) n c l := by
  have hlt : g < w.heap.size := by
    rcases Nat.lt_or_ge g w.heap.size with hlt | hge
    · exact hlt
    · rw [Array.getElem?_eq_none hge] at hg; cases hg
  refine ⟨hl, hn, hc, ok, fun _ => ⟨_, rfl, hlt, fun i x hi => ?_⟩, fun h => by cases h⟩
  have hin : i < n := by rw [← hl]; exact (List.getElem?_eq_some_iff.1 hi).1
  have key : ∀ j, j < 8 → w.cell? ⟨g, i * 8 + j, none⟩ = x.cells[j]? := fun j hj => by
    rw [cell_of_row w g _ cur 43 (0, 0) hg, ← cellsE_at l i j x hi hj, ← hx, List.getElem?_take_of_lt (by omega), Array.getElem?_toList]
  have e0 : (⟨g, 0, none⟩ : Addr).add (i * 8) = ⟨g, i * 8, none⟩ := by unfold Addr.add; split <;> simp_all
  rw [e0]
  exact ⟨key 0 (by omega), key 1 (by omega), key 2 (by omega), key 3 (by omega), key 4 (by omega), key 5 (by omega), key 6 (by omega), key 7 (by omega)⟩

def fewE (most : Nat) (l : List Ev) : Bool := decide (l.length ≤ most) && l.all fun e => shortKV e.kv
theorem fewe_any (A : Option Addr) (n c : Nat) (l : List Ev) (most : Nat) (w : World) (h : Evs w A n c l) (hm : most ≤ 1000) :
    Calls Try.prog 41 #[.slice A n c, .int .i64 most] w fun e w' => e = .returned (.bool (fewE most l)) ∧ w = w' := by
  have hlen := h.len
  have H := Lib.hid h
  clear h
  by_cases hn : n ≤ most
  · have HF : Hid (fewE most l = l.all fun e => shortKV e.kv) := by
      show _ = _
      simp [fewE, hlen, hn]
    have HL := Lib.hid hlen
    clear hlen
    go_enter Try.func41, Try.ntmps41
    go_wp2
    go_loop [5] (fun i => ∃ k : Nat, k ≤ n ∧ i = .int .i64 k ∧ AllTo (fun e : Ev => shortKV e.kv) l k) (fun i => n - (intOf i).toNat)
    case atStart => exact ⟨0, Nat.zero_le _, rfl, rfl⟩
    case round =>
      obtain ⟨k, hk, rfl, hall⟩ := hrel
      by_cases hlt : k < n
      · obtain ⟨a, x, rfl, hbl, hx, hok, hc⟩ := H.out.at_ hlt
        have h0 := hc.c2
        have h1 := hc.c3
        have HT := Lib.hid (all_take_s l (fun e : Ev => shortKV e.kv) k x hx)
        have HS : Hid (shortKV x.kv = false → (l.all fun e => shortKV e.kv) = false) := fun e => all_stop_s l _ k x hx e
        clear hc hok hbl
        have HX := Lib.hid hx
        clear hx
        by_cases hs : x.kv.key.size ≤ 60
        · by_cases hv : x.kv.val.size ≤ 60
          · go_wp2
            go_round
            case rel => exact ⟨k + 1, by omega, by go_num, by show _ = true; rw [HT.out, hall.out]; simp [shortKV, hs, hv]⟩
            case measure => simp [intOf]; omega
          · go_wp2
            go_ret
            exact ⟨retB (by rw [HF.out, HS.out (by simp [shortKV, hv])]), rfl⟩
        · go_wp2
          go_ret
          exact ⟨retB (by rw [HF.out, HS.out (by simp [shortKV, hs])]), rfl⟩
      · have e : k = n := by omega
        subst e
        go_wp2
        go_ret
        exact ⟨retB (by rw [HF.out, ← hall.out, take_full l k HL.out]), rfl⟩
  · have HF : Hid (fewE most l = false) := by
      show _ = _
      simp [fewE, hlen, hn]
    clear hlen
    go_enter Try.func41, Try.ntmps41
    go_wp2
    go_ret
    exact ⟨retB HF.out.symm, rfl⟩

theorem neq_ev_same (w : World) (r : Int) (g : Bool) (a b : ByteArray) (i j k m : Int) :
    (binOp .neq 43 (.agg #[.int .i64 r, .bool g, .string a, .string b, .int .i64 i, .int .i64 j, .int .i64 k, .int .i64 m]) (.agg #[.int .i64 r, .bool g, .string a, .string b, .int .i64 i, .int .i64 j, .int .i64 k, .int .i64 m])).run Try.prog w = .ok (.bool false) w := by
  simp [go_sem, Try.underlying43, Try.underlying36]
theorem evs_same (A B : Option Addr) (n c d : Nat) (l : List Ev) (w : World) (h : Evs w A n c l) (g : Evs w B n d l) (hm : n ≤ 1000000) :
    Calls Try.prog 13 #[.slice A n c, .slice B n d] w fun e w' => e = .returned (.bool true) ∧ Below w.heap.size w w' := by
  have H := Lib.hid h
  have G := Lib.hid g
  clear h g
  go_enter Try.func13, Try.ntmps13
  go_wp2
  go_loopw [5] (fun i wr => ∃ k q : Nat, k ≤ n ∧ i = .int .i64 k ∧ wr = w.drewN q) (fun i _ => n - (intOf i).toNat)
  case atStart => exact ⟨0, 0, Nat.zero_le _, rfl, rfl⟩
  case round =>
    obtain ⟨k, q, hk, rfl, rfl⟩ := hrel
    by_cases hlt : k < n
    · obtain ⟨a, x, rfl, hbl, hx, hok, hc⟩ := H.out.at_ hlt
      obtain ⟨b, y, rfl, gbl, hy, gok, gc⟩ := G.out.at_ hlt
      obtain rfl : x = y := Option.some.inj (hx.symm.trans hy)
      obtain ⟨c0, c1, c2, c3, c4, c5, c6, c7⟩ := hc
      obtain ⟨d0, d1, d2, d3, d4, d5, d6, d7⟩ := gc
      have hne := neq_ev_same
      clear hx hy hok gok hbl gbl
      go_wp2
      go_quiet (fail)
      go_wp2
      go_roundw
      case rel => exact ⟨k + 1, _, by omega, by go_num, rfl⟩
      case measure => simp [intOf]; omega
    · obtain rfl : k = n := by omega
      go_wp2
      go_ret
      exact ⟨rfl, below_drewN (Below.refl _ _) _⟩
end Go.Proofs.Ytkikfaeigoeogaa.P
