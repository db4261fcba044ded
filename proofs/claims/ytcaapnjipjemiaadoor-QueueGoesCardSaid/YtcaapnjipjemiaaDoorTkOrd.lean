/- The order of tickets: laid into a row, sorted, laid into another one. -/
import Derived.Test.YtcaapnjipjemiaaDoorTkCmp
import Derived.Test.YtcaapnjipjemiaaDoorGenApp
namespace Go.Proofs.YtcaapnjipjemiaaDoor.P
open Go.RowKit Go.Sort Go.Lib Go.Shelf
set_option linter.unusedVariables false
set_option linter.unusedSimpArgs false
set_option maxHeartbeats 1000000
set_option maxRecDepth 100000

theorem stT : StT Tryd.prog 6 :=
  ⟨by kernel_rfl, by kernel_rfl, fun w => by kernel_rfl, fun w => by kernel_rfl, fun w => by kernel_rfl, by kernel_rfl, fun w => by kernel_rfl, fun w => by kernel_rfl, fun w => by kernel_rfl, by kernel_rfl, fun w => by kernel_rfl, fun w => by kernel_rfl, fun w => by kernel_rfl,
   by kernel_rfl, fun w => by kernel_rfl, fun w => by kernel_rfl, fun w => by kernel_rfl, by kernel_rfl, fun w => by kernel_rfl, fun w => by kernel_rfl, fun w => by kernel_rfl, by kernel_rfl, fun w => by kernel_rfl, fun w => by kernel_rfl, fun w => by kernel_rfl, fun w => by kernel_rfl,
   Tryd.func68, Tryd.func66, Tryd.func63, Tryd.func62, Tryd.func58, Tryd.func55⟩
theorem insT : SlLaysF0.n20 Tryd.prog renT where
  mixed := by kernel_rfl
  f20 := ⟨Tryd.f62.name, by kernel_rfl, by kernel_rfl⟩
  t0 := by kernel_rfl
  a0 := fun w => by kernel_rfl
  z0 := fun w => by kernel_rfl
  v0 := fun w => by kernel_rfl
  t3 := by kernel_rfl
  a3 := fun w => by kernel_rfl
  z3 := fun w => by kernel_rfl
  v3 := fun w => by kernel_rfl
  t4 := by kernel_rfl
  a4 := fun w => by kernel_rfl
  z4 := fun w => by kernel_rfl
  v4 := fun w => by kernel_rfl
  t22 := by kernel_rfl
  a22 := fun w => by kernel_rfl
  z22 := fun w => by kernel_rfl
  v22 := fun w => by kernel_rfl
  t25 := by kernel_rfl
  a25 := fun w => by kernel_rfl
  z25 := fun w => by kernel_rfl
  v25 := fun w => by kernel_rfl

/-- A row of n things of which k are laid. -/
structure Fill (w : World) (g : Nat) (e : TypeId) (n k : Nat) (l : List KV) : Prop where
  row : ∃ cur : Array Value, RowAt w g e cur ∧ cur.size = n * 6 ∧ cur.toList.take (k * 6) = cellsL (l.take k)
theorem Fill.keep {w w' : World} {g n k : Nat} {e : TypeId} {l : List KV} (h : Fill w g e n k l) (hb : Below w.heap.size w w') : Fill w' g e n k l := by
  obtain ⟨cur, h1, h2, h3⟩ := h.row
  exact ⟨cur, (hb.block g h1.lt).trans h1, h2, h3⟩
theorem Fill.lt {w : World} {g n k : Nat} {e : TypeId} {l : List KV} (h : Fill w g e n k l) : g < w.heap.size := by
  obtain ⟨cur, h1, h2, h3⟩ := h.row
  exact h1.lt
theorem Fill.old {w : World} {g n k : Nat} {e : TypeId} {l : List KV} (h : Fill w g e n k l) (hk : k < n) (j : Nat) (hj : j < 6) : ∃ v, w.cell? ⟨g, k * 6 + j, none⟩ = some v := by
  obtain ⟨cur, h1, h2, h3⟩ := h.row
  refine ⟨cur[k * 6 + j]'(by omega), ?_⟩
  rw [h1.cell, Array.getElem?_eq_getElem]
theorem Fill.thaw {w : World} {g n k : Nat} {e : TypeId} {l : List KV} (h : Fill w g e n k l) (j : Nat) : w.frozen? ⟨g, j, none⟩ = false := by
  obtain ⟨cur, h1, h2, h3⟩ := h.row
  exact h1.frozen j
theorem Fill.step {w : World} {g n k : Nat} {e : TypeId} {l : List KV} {x : KV} (h : Fill w g e n k l) (hk : k < n) (hx : l[k]? = some x) : Fill (w.setCells g (k * 6) x.cells) g e n (k + 1) l := by
  obtain ⟨cur, h1, h2, h3⟩ := h.row
  refine ⟨_, RowAt.setCells x.cells w cur (k * 6) h1, by rw [layC_size, h2], ?_⟩
  rw [layC_list x.cells cur (k * 6) (by rw [KV.cells_len, h2]; omega), h3, take_succ l k x hx, cellsL_app, cellsL_one]
  have hl : k ≤ l.length := by have := (List.getElem?_eq_some_iff.1 hx).1; omega
  have e1 : (cellsL (l.take k) ++ x.cells).length = (k + 1) * 6 := by rw [List.length_append, cellsL_len, List.length_take, KV.cells_len, Nat.min_eq_left hl]; omega
  exact List.take_left' e1
theorem Fill.start {w : World} {g n : Nat} {e : TypeId} {l : List KV} {cap : Nat} {cur : Array Value} (h : RowAt w g e cur) (hs : cur.size = n * 6) : Fill w g e n 0 l := ⟨cur, h, hs, by simp [cellsL]⟩
theorem Fill.kvs {w : World} {g n : Nat} {e : TypeId} {l : List KV} (h : Fill w g e n n l) (hl : l.length = n) (hn : n ≤ maxLen) (ok : ∀ x ∈ l, x.ok) : KVs w (some ⟨g, 0, none⟩) n n l := by
  obtain ⟨cur, h1, h2, h3⟩ := h.row
  have ho := RowAt.own (base := 0) h1 (Nat.zero_le _) (Nat.le_refl n) hn h2 h3
  rw [take_full l n hl] at ho
  obtain ⟨A, c, hv, hk⟩ := KVs.of_own ho ok
  injection hv with e1 e2 e3
  subst e1 e3
  exact hk
theorem Fill.holds {w : World} {g n : Nat} {e : TypeId} {l : List KV} (h : Fill w g e n n l) (hl : l.length = n) : HoldsK KV.cells 6 w g 0 l.toArray := by
  obtain ⟨cur, h1, h2, h3⟩ := h.row
  have h4 : cur = (cellsL l).toArray := by
    have := h3
    rw [take_full l n hl, List.take_of_length_le (by rw [Array.length_toList, h2]; omega)] at this
    rw [← this]
  subst h4
  intro j hj
  rw [size_flatK] at hj
  have hj' : j < n * 6 := by simpa [hl] using hj
  refine ⟨?_, by rw [Nat.zero_add]; exact h1.frozen j⟩
  rw [Nat.zero_add, h1.cell, get_flatK KV.cells 6 l.toArray j hj]
  have hq : j / 6 < l.length := by rw [hl]; omega
  have hd : j / 6 * 6 + j % 6 = j := by omega
  have := cellsL_at l (j / 6) (j % 6) _ (List.getElem?_eq_getElem hq) (by omega)
  rw [hd] at this
  rw [List.getElem?_toArray, this]
  have e1 : l.toArray[j / 6]! = l[j / 6] := by rw [getElem!_pos l.toArray (j / 6) (by simpa using hq)]; simp
  rw [e1]
  have hlt : j % 6 < (l[j / 6]).cells.length := by rw [KV.cells_len]; omega
  rw [List.getElem?_eq_getElem hlt]
  exact congrArg some (getElem!_pos (l[j / 6]).cells (j % 6) hlt).symm
theorem swk_grown {w w3 : World} {g : Nat} {d : Array KV} (S : SWK KV.cells 6 w g 0 d w3) : w.grownBy w3 (some g) := by
  obtain ⟨m, os, rfl⟩ := S
  unfold sortWorldK
  refine ⟨rfl, rfl, rfl, ?_, fun i hi hne => ?_⟩
  · rw [size_grow, size_putRowK]; exact Nat.le_add_right _ _
  · have hg : ¬ g = i := fun e => hne (by rw [e])
    show ((w.heap.modify g _) ++ os)[i]? = _
    rw [Array.getElem?_append_left (by simpa using hi), Array.getElem?_modify, if_neg hg]
theorem kvs_holds {w : World} {g n : Nat} {d : Array KV} (h : HoldsK KV.cells 6 w g 0 d) (hg : g < w.heap.size) (hd : d.size = n) (hn : n ≤ maxLen) (ok : ∀ x ∈ d.toList, x.ok) : KVs w (some ⟨g, 0, none⟩) n n d.toList := by
  refine ⟨by rw [Array.length_toList, hd], Nat.le_refl _, hn, ok, fun _ => ⟨_, rfl, hg, fun i x hi => ?_⟩, fun h => by cases h⟩
  have hi' : i < d.size := by have := (List.getElem?_eq_some_iff.1 hi).1; simpa using this
  have hx : d[i]! = x := by
    rw [getElem!_pos d i hi']
    rw [Array.getElem?_toList, Array.getElem?_eq_getElem hi'] at hi
    exact Option.some.inj hi
  have hc := HoldsK.cells h (fun x => KV.cells_len x) hi'
  rw [hx] at hc
  have e0 : (⟨g, 0, none⟩ : Addr).add (i * 6) = ⟨g, i * 6, none⟩ := by unfold Addr.add; split <;> simp_all
  rw [e0]
  have key : ∀ j v, x.cells[j]? = some v → w.cell? ⟨g, i * 6 + j, none⟩ = some v := fun j v hv => by
    have := hc j v hv
    rw [Addr.add_lit, Nat.zero_add] at this
    exact this
  exact ⟨key 0 _ rfl, key 1 _ rfl, key 2 _ rfl, key 3 _ rfl, key 4 _ rfl, key 5 _ rfl⟩
/-- What is told of an order. -/
def OrdEnd (w : World) (l : List KV) (e : Ending) (w' : World) : Prop := ∃ g, e = .returned (.slice (some ⟨g, 0, none⟩) l.length l.length) ∧ w.heap.size ≤ g ∧ KVs w' (some ⟨g, 0, none⟩) l.length l.length (ordL befB l) ∧ Below w.heap.size w w'
theorem ordL_mem {lt : KV → KV → Bool} {x : KV} : ∀ l : List KV, x ∈ ordL lt l → x ∈ l := by
  intro l
  have : ∀ (l o : List KV), x ∈ l.foldl (fun o x => insL lt x o) o → x ∈ o ∨ x ∈ l := by
    intro l
    induction l with
    | nil => intro o h; exact .inl h
    | cons y r ih =>
      intro o h
      rcases ih _ h with h | h
      · rcases insL_mem.1 h with h | h
        · exact .inr (by rw [h]; exact List.mem_cons_self)
        · exact .inl h
      · exact .inr (List.mem_cons_of_mem _ h)
  intro h
  rcases this l [] h with h | h
  · cases h
  · exact h
theorem info_thing : (Tryd.prog.info? 86).map (fun i => (i.zero, i.size, i.bytes)) = some (some (.agg #[.string ⟨#[]⟩, .string ⟨#[]⟩, .int .i64 0, .int .i64 0, .int .i64 0, .int .i64 0]), 6, 64) := by kernel_rfl
theorem info_kvo : (Tryd.prog.info? 49).map (fun i => (i.zero, i.size, i.bytes)) = some (some (.agg #[.string ⟨#[]⟩, .string ⟨#[]⟩, .int .i64 0, .int .i64 0, .int .i64 0, .int .i64 0]), 6, 64) := by kernel_rfl
theorem info_partsT {P : Program} {t : TypeId} {z : Value} {s b : Nat} (h : (P.info? t).map (fun i => (i.zero, i.size, i.bytes)) = some (some z, s, b)) : ∃ i0, P.info? t = some i0 ∧ i0.zero = some z ∧ i0.size = s ∧ i0.bytes = b := by
  cases hi : P.info? t with
  | none => rw [hi] at h; cases h
  | some i0 =>
    rw [hi] at h
    injection h with h
    injection h with h1 h2
    injection h2 with h2 h3
    exact ⟨i0, rfl, h1, h2, h3⟩
theorem fill_made {w : World} {base g n : Nat} {e : TypeId} {l : List KV} {xs : List Value} (h : w.ownsRow base e 6 (.slice (some ⟨g, 0, none⟩) n n) n xs) : Fill w g e n 0 l := by
  rcases h.2 with ⟨hv, _⟩ | ⟨g', cap, cur, hv, hb, hg, hnc, hcm, hcs, ht⟩
  · cases hv
  · injection hv with e1 e2 e3
    injection e1 with e1
    injection e1 with e1
    subst e1 e3
    exact Fill.start (cap := 0) hg hcs
theorem order_any (A : Option Addr) (n c : Nat) (l : List KV) (w : World) (h : KVs w A n c l) (hn : n ≤ 1000000) :
    Calls Tryd.prog 52 #[.slice A n c] w (OrdEnd w l) := by
  obtain ⟨i0, hi0, hz0, hz1, hz2⟩ := info_partsT info_thing
  obtain ⟨j0, hj0, hy0, hy1, hy2⟩ := info_partsT info_kvo
  have HL := Lib.hid h.len
  have H := Lib.hid h
  clear h
  go_enter Tryd.func52, Tryd.ntmps52
  go_wp2_with (with_reducible refine wpList_make_full _ rfl _ _ 85 rfl w.heap.size 86 i0 _ 6 Tryd.underlying85 hi0 hz0 hz1 .i64 .i64 _ _ n rfl rfl rfl rfl (by rw [hz2]; omega) (by unfold maxLen; omega) (Nat.le_refl _) ?_; intro w1 hown hgrow)
  have F_0 := Lib.hid (fill_made (l := l) hown)
  have B_0 := Lib.hid ((Below.refl w.heap.size w).grown hgrow (Nat.le_refl _) (by simp))
  clear hown hgrow
  go_wp2
  go_loopw [14] (fun i wr => ∃ k : Nat, k ≤ n ∧ i = .int .i64 k ∧ Fill wr w.heap.size 86 n k l ∧ Below w.heap.size w wr) (fun i _ => n - (intOf i).toNat)
  case atStart => exact ⟨0, Nat.zero_le _, rfl, F_0.out, B_0.out⟩
  case round =>
    clear F_0 B_0
    rename World => wr
    obtain ⟨k, hk, rfl, hF, hB⟩ := hrel
    have F := Lib.hid hF; have B := Lib.hid hB
    clear hF hB
    by_cases hlt : k < n
    · obtain ⟨a, x, rfl, hbl, hx, hok, hc⟩ := (H.out.keep B.out).at_ hlt
      obtain ⟨c0, c1, c2, c3, c4, c5⟩ := hc
      have NB := Lib.hid (new1 wr (x.obj 49))
      have F2 := Lib.hid ((F.out.keep NB.out).step hlt hx)
      have B2 := Lib.hid (below_setCells (x.cells) _ (k * 6) (B.out.trans (NB.out.mono B.out.size)) (Nat.le_refl w.heap.size))
      obtain ⟨v0, o0⟩ := (F.out.keep NB.out).old hlt 0 (by omega)
      obtain ⟨v1, o1⟩ := (F.out.keep NB.out).old hlt 1 (by omega)
      obtain ⟨v2, o2⟩ := (F.out.keep NB.out).old hlt 2 (by omega)
      obtain ⟨v3, o3⟩ := (F.out.keep NB.out).old hlt 3 (by omega)
      obtain ⟨v4, o4⟩ := (F.out.keep NB.out).old hlt 4 (by omega)
      obtain ⟨v5, o5⟩ := (F.out.keep NB.out).old hlt 5 (by omega)
      have fz := (F.out.keep NB.out).thaw
      rw [Nat.add_zero] at o0
      have hgl : ¬ wr.heap.size = w.heap.size := by have := F.out.lt; omega
      clear hx hok
      go_wp2
      go_roundw
      case rel => exact ⟨k + 1, by omega, by go_num, F2.out, B2.out⟩
      case measure => simp [intOf]; omega
    · obtain rfl : k = n := by omega
      have hsz : l.toArray.size = k := by simpa using HL.out
      have hh := F.out.holds HL.out
      have R : RowK KV.cells 6 wr w.heap.size 0 l.toArray := ⟨fun x => KV.cells_len x, fun x v hv => cells_one hv, hh, F.out.lt⟩
      have eg : ∀ args w, (callFunc 56 args).run Tryd.prog w = .ok (.enter 56 args) w := enters_of Tryd.func56 (by kernel_rfl) rfl
      have hc := sortst_any stT insT KV.cells 56 #[] w.heap.size 0 k l.toArray l.toArray wr wr R rfl (SWK.start hh) (by omega) cfK cfK_swo eg (against_lays w.heap.size 0 _ wr) (by omega)
      rw [hsz] at hc
      have HS := Lib.hid hsz
      clear eg hh hsz
      have HR := Lib.hid R
      clear R
      go_wp2_with (first | (go_at_call 55; refine hc.mono ?_; rintro e w3 ⟨rfl, d', z1, z2, z3, z4⟩; have Z1 := Lib.hid z1; have Z2 := Lib.hid z2; have Z3 := Lib.hid z3; have Z4 := Lib.hid z4; clear z1 z2 z3 z4 hc) | (with_reducible refine wpList_make_full _ rfl _ _ 40 rfl w3.heap.size 49 j0 _ 6 Tryd.underlying40 hj0 hy0 hy1 .i64 .i64 _ _ k rfl rfl rfl rfl (by rw [hy2]; omega) (by unfold maxLen; omega) (Nat.le_refl _) ?_; intro w4 hown hgrow))
      have hds : d'.size = k := Z1.out.trans HS.out
      have hord : d'.toList = ordL befB l := by
        have := stable_eq cfK_swo Z2.out Z3.out
        rw [show ltOf cfK = befB from by funext x y; exact cfK_lt x y] at this
        exact this
      have okl : ∀ x ∈ d'.toList, x.ok := fun x hx => H.out.ok x (ordL_mem l (by rw [← hord]; exact hx))
      have KO := Lib.hid (kvs_holds (Z4.out.holds HR.out.hblk HR.out.hH Z1.out) (Z4.out.lt HR.out.hblk) hds (by unfold maxLen; omega) okl)
      rw [hord] at KO
      have B3 := Lib.hid (B.out.grown (swk_grown Z4.out) B.out.size (fun j hj => by cases hj; exact Nat.le_refl _))
      have LO : Hid ((ordL befB l).length = k) := Lib.hid (by rw [ordL_len]; exact HL.out)
      have OKO := Lib.hid okl
      rw [hord] at OKO
      have F_0 := Lib.hid (fill_made (l := ordL befB l) hown)
      have B_0 := Lib.hid ((Below.refl w3.heap.size w3).grown hgrow (Nat.le_refl _) (by simp))
      clear hown hgrow hord okl hds Z1 Z2 Z3 Z4 HR B F
      go_wp2
      go_loopw [31] (fun i wr => ∃ q : Nat, q ≤ k ∧ i = .int .i64 q ∧ Fill wr w3.heap.size 49 k q (ordL befB l) ∧ Below w3.heap.size w3 wr) (fun i _ => k - (intOf i).toNat)
      case atStart => exact ⟨0, Nat.zero_le _, rfl, F_0.out, B_0.out⟩
      case round =>
        clear F_0 B_0
        rename World => wx
        obtain ⟨q, hq, rfl, hF, hB⟩ := hrel
        have F := Lib.hid hF; have B := Lib.hid hB
        clear hF hB
        by_cases hlt : q < k
        · obtain ⟨a, x, e1, hbl, hx, hok, hc⟩ := (KO.out.keep B.out).at_ hlt
          injection e1 with e1
          subst e1
          have e0 : (⟨w.heap.size, 0, none⟩ : Addr).add (q * 6) = ⟨w.heap.size, q * 6, none⟩ := by unfold Addr.add; split <;> simp_all
          rw [e0] at hc
          obtain ⟨c0, c1, c2, c3, c4, c5⟩ := hc
          have NB := Lib.hid (new1 wx (x.obj 86))
          have F2 := Lib.hid ((F.out.keep NB.out).step hlt hx)
          have B2 := Lib.hid (below_setCells (x.cells) _ (q * 6) (B.out.trans (NB.out.mono B.out.size)) (Nat.le_refl w3.heap.size))
          obtain ⟨v0, o0⟩ := (F.out.keep NB.out).old hlt 0 (by omega)
          obtain ⟨v1, o1⟩ := (F.out.keep NB.out).old hlt 1 (by omega)
          obtain ⟨v2, o2⟩ := (F.out.keep NB.out).old hlt 2 (by omega)
          obtain ⟨v3, o3⟩ := (F.out.keep NB.out).old hlt 3 (by omega)
          obtain ⟨v4, o4⟩ := (F.out.keep NB.out).old hlt 4 (by omega)
          obtain ⟨v5, o5⟩ := (F.out.keep NB.out).old hlt 5 (by omega)
          have fz := (F.out.keep NB.out).thaw
          rw [Nat.add_zero] at o0
          have hgl : ¬ wx.heap.size = w3.heap.size := by have := F.out.lt; omega
          clear hx hok e0
          go_wp2
          go_roundw
          case rel => exact ⟨q + 1, by omega, by go_num, F2.out, B2.out⟩
          case measure => simp [intOf]; omega
        · obtain rfl : q = k := by omega
          go_wp2
          go_ret
          refine ⟨w3.heap.size, by rw [HL.out]; rfl, B3.out.size, ?_, B3.out.trans (B.out.mono B3.out.size)⟩
          rw [HL.out]
          exact F.out.kvs LO.out (by unfold maxLen; omega) OKO.out
end Go.Proofs.YtcaapnjipjemiaaDoor.P
