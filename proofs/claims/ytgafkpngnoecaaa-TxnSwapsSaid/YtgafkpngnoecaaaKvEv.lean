/- Slices of events, as lists; what becomes of a list by events: hist's way, and the document's. -/
import Derived.Test.YtgafkpngnoecaaaKvLayRef
namespace Go.Proofs.Ytgafkpngnoecaaa.P
open Go.RowKit Go.Sort
set_option maxHeartbeats 400000
set_option linter.unusedVariables false
set_option maxRecDepth 100000

structure Ev.ok (e : Ev) : Prop where
  rev : inI e.rev
  kv : e.kv.ok
abbrev Ev.obj (e : Ev) (t : TypeId) : Obj := .cells #[.int .i64 e.rev, .bool e.gone, .string e.kv.key, .string e.kv.val, .int .i64 e.kv.cre, .int .i64 e.kv.mod, .int .i64 e.kv.ver, .int .i64 e.kv.lea] t
structure At8 (w : World) (p : Addr) (e : Ev) : Prop where
  c0 : w.cell? p = some (.int .i64 e.rev)
  c1 : w.cell? ⟨p.block, p.off + 1, none⟩ = some (.bool e.gone)
  c2 : w.cell? ⟨p.block, p.off + 2, none⟩ = some (.string e.kv.key)
  c3 : w.cell? ⟨p.block, p.off + 3, none⟩ = some (.string e.kv.val)
  c4 : w.cell? ⟨p.block, p.off + 4, none⟩ = some (.int .i64 e.kv.cre)
  c5 : w.cell? ⟨p.block, p.off + 5, none⟩ = some (.int .i64 e.kv.mod)
  c6 : w.cell? ⟨p.block, p.off + 6, none⟩ = some (.int .i64 e.kv.ver)
  c7 : w.cell? ⟨p.block, p.off + 7, none⟩ = some (.int .i64 e.kv.lea)
theorem At8.keep {w w' : World} {p : Addr} {x : Ev} {B : Nat} (h : At8 w p x) (hb : Below B w w') (hp : p.block < B) : At8 w' p x :=
  ⟨(hb.cell hp).trans h.c0, (hb.cell (p := ⟨p.block, p.off + 1, none⟩) hp).trans h.c1, (hb.cell (p := ⟨p.block, p.off + 2, none⟩) hp).trans h.c2, (hb.cell (p := ⟨p.block, p.off + 3, none⟩) hp).trans h.c3,
    (hb.cell (p := ⟨p.block, p.off + 4, none⟩) hp).trans h.c4, (hb.cell (p := ⟨p.block, p.off + 5, none⟩) hp).trans h.c5, (hb.cell (p := ⟨p.block, p.off + 6, none⟩) hp).trans h.c6, (hb.cell (p := ⟨p.block, p.off + 7, none⟩) hp).trans h.c7⟩
/-- What a slice of events reads as. -/
structure Evs (w : World) (A : Option Addr) (n c : Nat) (l : List Ev) : Prop where
  len : l.length = n
  le : n ≤ c
  max : c ≤ maxLen
  ok : ∀ x ∈ l, x.ok
  rd : 0 < n → ∃ a, A = some a ∧ a.block < w.heap.size ∧ ∀ i x, l[i]? = some x → At8 w (a.add (i * 8)) x
  nil : A = none → c = 0
theorem Evs.keep {w w' : World} {A : Option Addr} {n c : Nat} {l : List Ev} (h : Evs w A n c l) (hb : Below w.heap.size w w') : Evs w' A n c l :=
  ⟨h.len, h.le, h.max, h.ok, fun hn => by
    obtain ⟨a, e, hlt, hx⟩ := h.rd hn
    exact ⟨a, e, Nat.lt_of_lt_of_le hlt hb.size, fun i x hi => (hx i x hi).keep hb (by rw [block_add]; exact hlt)⟩, h.nil⟩
theorem Evs.at_ {w : World} {A : Option Addr} {n c k : Nat} {l : List Ev} (h : Evs w A n c l) (hk : k < n) : ∃ a x, A = some a ∧ a.block < w.heap.size ∧ l[k]? = some x ∧ x.ok ∧ At8 w (a.add (k * 8)) x := by
  obtain ⟨a, e, hlt, hx⟩ := h.rd (by omega)
  have hl : k < l.length := by rw [h.len]; exact hk
  exact ⟨a, l[k], e, hlt, List.getElem?_eq_getElem hl, h.ok _ (List.getElem_mem hl), hx k _ (List.getElem?_eq_getElem hl)⟩

def Ev.cells (e : Ev) : List Value := [.int .i64 e.rev, .bool e.gone, .string e.kv.key, .string e.kv.val, .int .i64 e.kv.cre, .int .i64 e.kv.mod, .int .i64 e.kv.ver, .int .i64 e.kv.lea]
def cellsE (l : List Ev) : List Value := l.flatMap Ev.cells
theorem cellsE_len (l : List Ev) : (cellsE l).length = l.length * 8 := by
  induction l with
  | nil => rfl
  | cons x r ih => simp only [cellsE, List.flatMap_cons, List.length_append, List.length_cons] at ih ⊢; rw [ih, show x.cells.length = 8 from rfl]; omega
theorem cellsE_at : ∀ (l : List Ev) (i j : Nat) (x : Ev), l[i]? = some x → j < 8 → (cellsE l)[i * 8 + j]? = x.cells[j]?
  | [], _, _, _, h, _ => by simp at h
  | y :: r, 0, j, x, h, hj => by
    simp at h; subst h
    show (y.cells ++ cellsE r)[0 * 8 + j]? = _
    rw [Nat.zero_mul, Nat.zero_add, List.getElem?_append_left (by rw [show y.cells.length = 8 from rfl]; exact hj)]
  | y :: r, i + 1, j, x, h, hj => by
    show (y.cells ++ cellsE r)[(i + 1) * 8 + j]? = _
    rw [List.getElem?_append_right (by rw [show y.cells.length = 8 from rfl]; omega), show y.cells.length = 8 from rfl, show (i + 1) * 8 + j - 8 = i * 8 + j by omega]
    exact cellsE_at r i j x (by simpa using h) hj
/-- Events in a block of the call's own. -/
theorem evs_of_row {w : World} {g n c : Nat} {cur : Array Value} {l : List Ev} (hg : w.heap[g]? = some (.cells cur 74 (0, 0))) (hl : l.length = n) (hn : n ≤ c) (hc : c ≤ maxLen) (hx : cur.toList.take (n * 8) = cellsE l) (ok : ∀ x ∈ l, x.ok) : Evs w (some ⟨g, 0, none⟩) n c l := by
  have hlt : g < w.heap.size := by
    rcases Nat.lt_or_ge g w.heap.size with hlt | hge
    · exact hlt
    · rw [Array.getElem?_eq_none hge] at hg; cases hg
  refine ⟨hl, hn, hc, ok, fun _ => ⟨_, rfl, hlt, fun i x hi => ?_⟩, fun h => by cases h⟩
  have hin : i < n := by rw [← hl]; exact (List.getElem?_eq_some_iff.1 hi).1
  have key : ∀ j, j < 8 → w.cell? ⟨g, i * 8 + j, none⟩ = x.cells[j]? := fun j hj => by
    rw [cell_of_row w g _ cur 74 (0, 0) hg, ← cellsE_at l i j x hi hj, ← hx, List.getElem?_take_of_lt (by omega), Array.getElem?_toList]
  have e0 : (⟨g, 0, none⟩ : Addr).add (i * 8) = ⟨g, i * 8, none⟩ := by unfold Addr.add; split <;> simp_all
  rw [e0]
  exact ⟨key 0 (by omega), key 1 (by omega), key 2 (by omega), key 3 (by omega), key 4 (by omega), key 5 (by omega), key 6 (by omega), key 7 (by omega)⟩

def fewE (most : Nat) (l : List Ev) : Bool := decide (l.length ≤ most) && l.all fun e => shortKV e.kv
theorem fewe_any (A : Option Addr) (n c : Nat) (l : List Ev) (most : Nat) (w : World) (h : Evs w A n c l) (hm : most ≤ 1000) :
    Calls Try.prog 40 #[.slice A n c, .int .i64 most] w fun e w' => e = .returned (.bool (fewE most l)) ∧ w = w' := by
  have hlen := h.len
  have H := Lib.hid h
  clear h
  by_cases hn : n ≤ most
  · have HF : Hid (fewE most l = l.all fun e => shortKV e.kv) := by
      show _ = _
      simp [fewE, hlen, hn]
    have HL := Lib.hid hlen
    clear hlen
    go_enter Try.func40, Try.ntmps40
    go_wp2
    go_loop [5] (fun i => ∃ k : Nat, k ≤ n ∧ i = .int .i64 k ∧ AllTo (fun e : Ev => shortKV e.kv) l k) (fun i => n - (intOf i).toNat)
    case atStart => exact ⟨0, Nat.zero_le _, rfl, rfl⟩
    case round =>
      obtain ⟨k, hk, rfl, hall⟩ := hrel
      by_cases hlt : k < n
      · obtain ⟨a, x, rfl, hbl, hx, hok, hc⟩ := H.out.at_ hlt
        have h0 := hc.c2
        have h1 := hc.c3
        have HT := Lib.hid (all_take_s l (fun e : Ev => shortKV e.kv) k x hx)
        have HS : Hid (shortKV x.kv = false → (l.all fun e => shortKV e.kv) = false) := fun e => all_stop_s l _ k x hx e
        clear hc hok hbl
        have HX := Lib.hid hx
        clear hx
        by_cases hs : x.kv.key.size ≤ 60
        · by_cases hv : x.kv.val.size ≤ 60
          · go_wp2
            go_round
            case rel => exact ⟨k + 1, by omega, by go_num, by show _ = true; rw [HT.out, hall.out]; simp [shortKV, hs, hv]⟩
            case measure => simp [intOf]; omega
          · go_wp2
            go_ret
            exact ⟨retB (by rw [HF.out, HS.out (by simp [shortKV, hv])]), rfl⟩
        · go_wp2
          go_ret
          exact ⟨retB (by rw [HF.out, HS.out (by simp [shortKV, hs])]), rfl⟩
      · have e : k = n := by omega
        subst e
        go_wp2
        go_ret
        exact ⟨retB (by rw [HF.out, ← hall.out, take_full l k HL.out]), rfl⟩
  · have HF : Hid (fewE most l = false) := by
      show _ = _
      simp [fewE, hlen, hn]
    clear hlen
    go_enter Try.func40, Try.ntmps40
    go_wp2
    go_ret
    exact ⟨retB HF.out.symm, rfl⟩

theorem fold_take (l : List KV) (log : List Ev) (rev : Int) (j : Nat) (e : Ev) (h : log[j]? = some e) : foldL l (log.take (j + 1)) rev = stepL rev (foldL l (log.take j) rev) e := by
  rw [take_succ log j e h, foldL_snoc]
theorem fold_len_to (l : List KV) (log : List Ev) (rev : Int) (j : Nat) : (foldL l (log.take j) rev).length ≤ l.length + j :=
  Nat.le_trans (foldL_len _ _ _) (by have := List.length_take_le j log; omega)
theorem fold_ok {l : List KV} {log : List Ev} (rev : Int) (hl : ∀ x ∈ l, x.ok) (hg : ∀ e ∈ log, e.ok) (j : Nat) : ∀ x ∈ foldL l (log.take j) rev, x.ok := fun x hx => by
  rcases foldL_mem _ _ _ _ hx with h | ⟨e, he, rfl⟩
  · exact hl x h
  · exact (hg e (List.mem_of_mem_take he)).kv
theorem step_past {rev : Int} {o : List KV} {e : Ev} (h : rev < e.rev) : stepL rev o e = o := if_pos h
theorem step_gone {rev : Int} {o : List KV} {e : Ev} (h : e.rev ≤ rev) (hg : e.gone = true) : stepL rev o e = takeL o e.kv.key := by
  unfold stepL; rw [if_neg (by omega), hg]; rfl
theorem step_laid {rev : Int} {o : List KV} {e : Ev} (h : e.rev ≤ rev) (hg : e.gone = false) : stepL rev o e = layL o e.kv := by
  unfold stepL; rw [if_neg (by omega), hg]; rfl

theorem fold_fresh (A : Option Addr) (n c : Nat) (l : List KV) (B : Option Addr) (m d : Nat) (log : List Ev) (rev : Int) (w : World) (h : KVs w A n c l) (g : Evs w B m d log) (hn : n + m ≤ 900000) :
    Calls Try.prog 43 #[.slice A n c, .slice B m d, .int .i64 rev] w (FreshKVs w (foldL l log rev)) := by
  have H := Lib.hid h
  have G := Lib.hid g
  have HOK := Lib.hid h.ok
  have GOK := Lib.hid g.ok
  have HL := Lib.hid h.len
  have GL := Lib.hid g.len
  clear h g
  go_enter Try.func43, Try.ntmps43
  go_wp2_with fail
  refine (clone_any A n c l _ H.out (by omega)).mono ?_; rintro e w1 ⟨A1, c1, rfl, hown, hb⟩
  have HO1 := Lib.hid hown
  have HB1 := Lib.hid hb
  clear hown hb
  go_wp2
  go_loopw [0, 13] (fun v i wr => ∃ (j : Nat) (A' : Option Addr) (k' c' : Nat), j ≤ m ∧ i = .int .i64 j ∧ v = .slice A' k' c' ∧ Hid (k' = (foldL l (log.take j) rev).length) ∧
      wr.ownsRow w.heap.size 63 6 (.slice A' k' c') k' (cellsL (foldL l (log.take j) rev)) ∧ Below w.heap.size w wr) (fun _ i _ => m - (intOf i).toNat)
  case atStart => exact ⟨0, A1, l.length, c1, Nat.zero_le _, rfl, rfl, rfl, HO1.out, HB1.out⟩
  case round =>
    obtain ⟨j, A', k', c', hj, rfl, rfl, hk', hown, hbel⟩ := hrel
    have HO := Lib.hid hown
    have HB := Lib.hid hbel
    clear hown hbel
    by_cases hlt : j < m
    · obtain ⟨a, x, rfl, hbl, hx, hok, hc⟩ := (G.out.keep HB.out).at_ hlt
      obtain ⟨c0, c1, c2, c3, c4, c5, c6, c7⟩ := hc
      have HX := Lib.hid hx
      have HXO := Lib.hid hok
      have HS := Lib.hid (fold_take l log rev j x hx)
      clear hx hok hbl
      by_cases hr : rev < x.rev
      · have HE := Lib.hid (step_past (o := foldL l (log.take j) rev) hr)
        go_wp2
        go_roundw
        case rel => exact ⟨j + 1, A', k', c', by omega, by go_num, rfl, by show _ = _; rw [HS.out, HE.out]; exact hk', by rw [HS.out, HE.out]; exact HO.out.alloc _, HB.out.alloc HB.out.size _⟩
        case measure => simp [intOf]; omega
      · have hr' : x.rev ≤ rev := by omega
        have hln : Hid (k' ≤ 1000000) := Lib.hid (by have := fold_len_to l log rev j; rw [hk'.out]; rw [HL.out] at this; omega)
        have hok := Lib.hid (fold_ok rev HOK.out GOK.out j)
        cases hg : x.gone with
        | true =>
          have HE := Lib.hid (step_gone (o := foldL l (log.take j) rev) hr' hg)
          rw [hg] at c1
          have HT := Lib.hid (take_at w.heap.size A' k' c' (foldL l (log.take j) rev) x.kv.key (wr.alloc (x.obj 74)) hk'.out.symm (HO.out.alloc _) hok.out hln.out (by have := HB.out.size; simp; omega))
          have HBA := Lib.hid (HB.out.alloc HB.out.size (x.obj 74))
          have hgo : Hid (x.gone = true) := hg
          clear hg
          have hob : x.obj 74 = .cells #[.int .i64 x.rev, .bool true, .string x.kv.key, .string x.kv.val, .int .i64 x.kv.cre, .int .i64 x.kv.mod, .int .i64 x.kv.ver, .int .i64 x.kv.lea] 74 := by unfold Ev.obj; rw [hgo.out]
          rw [hob] at HT HBA
          clear hob
          go_wp2_with fail
          refine HT.out.mono ?_; rintro e w2 ⟨A2, c2, rfl, hown2, hb2⟩
          have HO2 := Lib.hid hown2
          have HB2 := Lib.hid hb2
          clear hown2 hb2
          go_wp2
          go_roundw
          case rel => exact ⟨j + 1, A2, _, c2, by omega, by go_num, rfl, by show _ = _; rw [HS.out, HE.out], by rw [HS.out, HE.out]; exact HO2.out, HBA.out.trans HB2.out⟩
          case measure => simp [intOf]; omega
        | false =>
          have HE := Lib.hid (step_laid (o := foldL l (log.take j) rev) hr' hg)
          rw [hg] at c1
          have HT := Lib.hid (lay_at w.heap.size A' k' c' (foldL l (log.take j) rev) x.kv (wr.alloc (x.obj 74)) hk'.out.symm (HO.out.alloc _) hok.out HXO.out.kv hln.out (by have := HB.out.size; simp; omega))
          have HBA := Lib.hid (HB.out.alloc HB.out.size (x.obj 74))
          have hgo : Hid (x.gone = false) := hg
          clear hg
          have hob : x.obj 74 = .cells #[.int .i64 x.rev, .bool false, .string x.kv.key, .string x.kv.val, .int .i64 x.kv.cre, .int .i64 x.kv.mod, .int .i64 x.kv.ver, .int .i64 x.kv.lea] 74 := by unfold Ev.obj; rw [hgo.out]
          rw [hob] at HT HBA
          clear hob
          go_wp2_with fail
          refine HT.out.mono ?_; rintro e w2 ⟨A2, c2, rfl, hown2, hb2⟩
          have HO2 := Lib.hid hown2
          have HB2 := Lib.hid hb2
          clear hown2 hb2
          go_wp2
          go_roundw
          case rel => exact ⟨j + 1, A2, _, c2, by omega, by go_num, rfl, by show _ = _; rw [HS.out, HE.out], by rw [HS.out, HE.out]; exact HO2.out, HBA.out.trans HB2.out⟩
          case measure => simp [intOf]; omega
    · have HF : Hid (foldL l (log.take j) rev = foldL l log rev) := Lib.hid (by rw [take_full log j (by rw [GL.out]; omega)])
      have hok := Lib.hid (fold_ok rev HOK.out GOK.out j)
      go_wp2
      go_ret
      refine ⟨A', k', c', rfl, ?_, HB.out, own_fresh HO.out⟩
      rw [← HF.out]
      exact own_kvs HO.out hok.out
theorem fold_any (A : Option Addr) (n c : Nat) (l : List KV) (B : Option Addr) (m d : Nat) (log : List Ev) (rev : Int) (w : World) (h : KVs w A n c l) (g : Evs w B m d log) (hn : n + m ≤ 900000) :
    Calls Try.prog 43 #[.slice A n c, .slice B m d, .int .i64 rev] w (SomeKVs w (foldL l log rev)) := (fold_fresh A n c l B m d log rev w h g hn).mono fun e w' h => h.some_

theorem fold_reff (A : Option Addr) (n c : Nat) (l : List KV) (B : Option Addr) (m d : Nat) (log : List Ev) (rev : Int) (w : World) (h : KVs w A n c l) (g : Evs w B m d log) (hn : n + m ≤ 900000) :
    Calls Try.prog 44 #[.slice A n c, .slice B m d, .int .i64 rev] w (OrKVs A n w (foldL l log rev)) := by
  have H := Lib.hid h
  have G := Lib.hid g
  have HL := Lib.hid h.len
  have GL := Lib.hid g.len
  clear h g
  go_enter Try.func44, Try.ntmps44
  go_wp2
  go_loopw [0, 7] (fun v i wr => ∃ (j : Nat) (A' : Option Addr) (k' c' : Nat), j ≤ m ∧ i = .int .i64 j ∧ v = .slice A' k' c' ∧ KVs wr A' k' c' (foldL l (log.take j) rev) ∧ Below w.heap.size w wr ∧ FromA A n w A' k') (fun _ i _ => m - (intOf i).toNat)
  case atStart => exact ⟨0, A, n, c, Nat.zero_le _, rfl, rfl, H.out, Below.refl _ _, .inl ⟨rfl, rfl⟩⟩
  case round =>
    obtain ⟨j, A', k', c', hj, rfl, rfl, hk, hbel, hfr⟩ := hrel
    have HFR := Lib.hid hfr
    clear hfr
    have HK := Lib.hid hk
    have HB := Lib.hid hbel
    clear hk hbel
    by_cases hlt : j < m
    · obtain ⟨a, x, rfl, hbl, hx, hok, hc⟩ := (G.out.keep HB.out).at_ hlt
      obtain ⟨c0, c1, c2, c3, c4, c5, c6, c7⟩ := hc
      have HX := Lib.hid hx
      have HXO := Lib.hid hok
      have HS := Lib.hid (fold_take l log rev j x hx)
      clear hx hok hbl
      by_cases hr : rev < x.rev
      · have HE := Lib.hid (step_past (o := foldL l (log.take j) rev) hr)
        go_wp2
        go_roundw
        case rel => exact ⟨j + 1, A', k', c', by omega, by go_num, rfl, by rw [HS.out, HE.out]; exact HK.out, HB.out, HFR.out⟩
        case measure => simp [intOf]; omega
      · have hr' : x.rev ≤ rev := by omega
        have hln : Hid (k' ≤ 1000000) := Lib.hid (by have := fold_len_to l log rev j; rw [HK.out.len, HL.out] at this; omega)
        cases hg : x.gone with
        | true =>
          have HE := Lib.hid (step_gone (o := foldL l (log.take j) rev) hr' hg)
          rw [hg] at c1
          clear hg
          go_wp2_with fail
          refine (take_reff A' k' c' _ x.kv.key _ HK.out hln.out).mono ?_; rintro e w2 ⟨A2, n2, c2, rfl, hk2, hb2, hf2⟩
          have HF2 : Hid (FromA A n w A2 n2) := Lib.hid (.inr (fun a ha => Nat.le_trans HB.out.size (hf2 a ha)))
          clear hf2
          have HK2 := Lib.hid hk2
          have HB2 := Lib.hid hb2
          clear hk2 hb2
          go_wp2
          go_roundw
          case rel => exact ⟨j + 1, A2, n2, c2, by omega, by go_num, rfl, by rw [HS.out, HE.out]; exact HK2.out, HB.out.trans (HB2.out.mono HB.out.size), HF2.out⟩
          case measure => simp [intOf]; omega
        | false =>
          have HE := Lib.hid (step_laid (o := foldL l (log.take j) rev) hr' hg)
          rw [hg] at c1
          clear hg
          go_wp2_with fail
          refine (lay_reff A' k' c' _ x.kv _ HK.out HXO.out.kv hln.out).mono ?_; rintro e w2 ⟨A2, n2, c2, rfl, hk2, hb2, hf2⟩
          have HF2 : Hid (FromA A n w A2 n2) := Lib.hid (.inr (fun a ha => Nat.le_trans HB.out.size (hf2 a ha)))
          clear hf2
          have HK2 := Lib.hid hk2
          have HB2 := Lib.hid hb2
          clear hk2 hb2
          go_wp2
          go_roundw
          case rel => exact ⟨j + 1, A2, n2, c2, by omega, by go_num, rfl, by rw [HS.out, HE.out]; exact HK2.out, HB.out.trans (HB2.out.mono HB.out.size), HF2.out⟩
          case measure => simp [intOf]; omega
    · have HF : Hid (foldL l (log.take j) rev = foldL l log rev) := Lib.hid (by rw [take_full log j (by rw [GL.out]; omega)])
      go_wp2
      go_ret
      exact ⟨A', k', c', rfl, by rw [← HF.out]; exact HK.out, HB.out, HFR.out⟩
theorem fold_ref (A : Option Addr) (n c : Nat) (l : List KV) (B : Option Addr) (m d : Nat) (log : List Ev) (rev : Int) (w : World) (h : KVs w A n c l) (g : Evs w B m d log) (hn : n + m ≤ 900000) :
    Calls Try.prog 44 #[.slice A n c, .slice B m d, .int .i64 rev] w (SomeKVs w (foldL l log rev)) := (fold_reff A n c l B m d log rev w h g hn).mono fun e w' h => by
  obtain ⟨A, n, c, he, hk, hb, _⟩ := h
  exact ⟨A, n, c, he, hk, hb⟩
end Go.Proofs.Ytgafkpngnoecaaa.P
