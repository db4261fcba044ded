/- A store that is shrunk: the document's answer. -/
import Derived.Test.YtgafkpngnoecaaaMvRefDo
import Derived.Test.YtgafkpngnoecaaaGenStep
namespace Go.Proofs.Ytgafkpngnoecaaa.P
open Go.RowKit Go.Sort
set_option maxHeartbeats 4000000
set_option linter.unusedVariables false
set_option linter.unusedSimpArgs false
set_option maxRecDepth 100000

/-- A block that holds no text holds no thing. -/
theorem kv_ne {w : World} {A : Option Addr} {n c : Nat} {l : List KV} {G : Nat} {t : TypeId} {cs : Array Value} (h : KVs w A n c l) (o : Own w G t cs) (hs : ∀ (i : Nat) (s : ByteArray), cs[i]? ≠ some (.string s)) : 0 < n → ∀ a, A = some a → some a.block ≠ some G := by
  intro hn a ha e
  injection e with e
  obtain ⟨a', x, e', hb, hx, ok, hc⟩ := h.at_ hn
  rw [ha] at e'
  injection e' with e'
  subst e'
  have c0 := hc.c0
  rw [Nat.zero_mul] at c0
  have e0 : a.add 0 = a := by simp [Addr.add]
  rw [e0] at c0
  have ho := o.ex
  rw [← e] at ho
  unfold World.cell? at c0
  rw [ho] at c0
  simp at c0
  exact hs _ _ c0.2
theorem KVs.kept' {w w' : World} {A : Option Addr} {n c : Nat} {l : List KV} {row : Option Nat} (h : KVs w A n c l) (hg : w.grownBy w' row) (hne : 0 < n → ∀ a, A = some a → some a.block ≠ row) : KVs w' A n c l := by
  by_cases hn : 0 < n
  · exact h.kept hg (hne hn)
  · exact ⟨h.len, h.le, h.max, h.ok, fun h0 => absurd h0 hn, h.nil⟩
theorem KVs.kept4' {w : World} {A : Option Addr} {n c : Nat} {l : List KV} {g : Nat} (h : KVs w A n c l) (hne : 0 < n → ∀ a, A = some a → some a.block ≠ some g) (v0 v1 v2 v3 : Value) : KVs ((((w.setCell ⟨g, 0, none⟩ v0).setCell ⟨g, 1, none⟩ v1).setCell ⟨g, 2, none⟩ v2).setCell ⟨g, 3, none⟩ v3) A n c l :=
  (((h.kept' (Lib.grownBy_setCell _ g 0 v0) hne).kept' (Lib.grownBy_setCell _ g 1 v1) hne).kept' (Lib.grownBy_setCell _ g 2 v2) hne).kept' (Lib.grownBy_setCell _ g 3 v3) hne
theorem st_text (s : St) (A : Option Addr) (n c : Nat) (B : Option Addr) (m d : Nat) (a b : Int) : ∀ (i : Nat) (t : ByteArray), (#[.int .i64 a, .int .i64 b, .slice A n c, .slice B m d] : Array Value)[i]? ≠ some (.string t) := by
  intro i t h
  match i with
  | 0 => simp at h
  | 1 => simp at h
  | 2 => simp at h
  | 3 => simp at h
  | (i + 4) => simp at h
theorem Own.low {w w' : World} {g B : Nat} {t : TypeId} {cs : Array Value} (h : Own w g t cs) (hb : Below B w w') (hg : g < B) : Own w' g t cs := ⟨(hb.block _ hg).trans h.ex⟩
theorem above_more {rev : Int} {l : List Ev} {k : Nat} {x : Ev} (hx : l[k]? = some x) (h : rev < x.rev) : above rev (l.take (k + 1)) = above rev (l.take k) ++ [x] := by
  unfold above; rw [take_succ l k x hx, List.filter_append, List.filter_cons_of_pos (by simp; omega)]; rfl
theorem above_skip {rev : Int} {l : List Ev} {k : Nat} {x : Ev} (hx : l[k]? = some x) (h : x.rev ≤ rev) : above rev (l.take (k + 1)) = above rev (l.take k) := by
  unfold above; rw [take_succ l k x hx, List.filter_append, List.filter_cons_of_neg (by simpa using h)]; simp
theorem evs_kept {w w' : World} {A : Option Addr} {n c : Nat} {l : List Ev} {row : Option Nat} (h : Evs w A n c l) (hg : w.grownBy w' row) (hne : ∀ a, A = some a → 0 < n → some a.block ≠ row) : Evs w' A n c l := by
  by_cases hn : 0 < n
  · exact h.kept hg (fun a ha => hne a ha hn)
  · exact ⟨h.len, h.le, h.max, h.ok, fun h0 => absurd h0 hn, h.nil⟩
theorem low_kept {w w' : World} {A : Option Addr} {n c : Nat} {l : List Ev} {B : Nat} (h : Evs w A n c l) (hb : Below B w w') (hB : ∀ a, A = some a → 0 < n → a.block < B) : Evs w' A n c l :=
  ⟨h.len, h.le, h.max, h.ok, fun h0 => by
    obtain ⟨a, e, hlt, hx⟩ := h.rd h0
    exact ⟨a, e, Nat.lt_of_lt_of_le hlt hb.size, fun i x hi => (hx i x hi).keep hb (by rw [block_add]; exact hB a e h0)⟩, h.nil⟩
theorem kvs_low {w w' : World} {A : Option Addr} {n c : Nat} {l : List KV} {B : Nat} (h : KVs w A n c l) (hb : Below B w w') (hB : ∀ a, A = some a → 0 < n → a.block < B) : KVs w' A n c l :=
  ⟨h.len, h.le, h.max, h.ok, fun h0 => by
    obtain ⟨a, e, hlt, hx⟩ := h.rd h0
    exact ⟨a, e, Nat.lt_of_lt_of_le hlt hb.size, fun i x hi => (hx i x hi).keep hb (by rw [block_add]; exact hB a e h0)⟩, h.nil⟩

theorem Own.kept {w w' : World} {g : Nat} {t : TypeId} {cs : Array Value} {row : Option Nat} (h : Own w g t cs) (hg : w.grownBy w' row) (hne : some g ≠ row) : Own w' g t cs := ⟨(hg.block g h.lt hne).trans h.ex⟩
theorem grown_refl (w : World) (row : Option Nat) : w.grownBy w row := ⟨rfl, rfl, rfl, Nat.le_refl _, fun _ _ _ => rfl⟩
theorem grown_on {a b c : World} {row : Option Nat} (h : a.grownBy b row) (k : Below a.heap.size b c) : a.grownBy c row :=
  ⟨k.os.trans h.os, k.tape.trans h.tape, k.output.trans h.output, Nat.le_trans h.size k.size, fun i hi hne => (k.block i hi).trans (h.block i hi hne)⟩
theorem ownE_kept {w w' : World} {base n : Nat} {v : Value} {xs : List Value} (h : w.ownsRow base 74 8 v n xs) (hb : Below w.heap.size w w') : w'.ownsRow base 74 8 v n xs := h.kept (grown_of_below hb) (by rcases hv : v.ownBlock with _ | y; exact .inl rfl; exact .inr (by simp))
theorem shrink_r1 (s : St) (A : Option Addr) (n c : Nat) (B : Option Addr) (m d : Nat) (rev : Int) (w : World) (h : StAt w s A n c B m d) (hn : n + m ≤ 90000) (hv : inI rev) (e1 : rev < 0) :
    Calls Try.prog 21 #[s.agg A n c B m d, .int .i64 rev] w (ShrinkEnd s rev w) := by
  have hb0 := then_ (new1 w (.cells (stCells s A n c B m d) 25)) (new1 _ (.cells zSt 25))
  have HH := Lib.hid h
  have B0 := Lib.hid hb0
  have O0 := Lib.hid ((own_new w (stCells s A n c B m d) 25).alloc (.cells zSt 25))
  have R0 := Lib.hid (own_new2 w (.cells (stCells s A n c B m d) 25) zSt 25)
  have HV := Lib.hid hv
  have hml := h.ev.len
  have hkl := h.kv.len
  have hk : keptE s rev = 8 := by unfold keptE; rw [if_pos (.inl e1)]
  have E1 : Hid (shrunk s rev = s) := Lib.hid (if_neg (by rw [hk]; decide))
  have E2 := Lib.hid hk
  clear h hb0 hv hk
  go_enter Try.func21, Try.ntmps21
  go_wp2
  refine bodyPost_ret (v := .tuple #[s.agg A n c B m d, .int .i64 8]) (by simp [results, Try.results21, go_sem]) rfl (ShrinkEnd.mk E1.out E2.out rfl (HH.out.keep (then_ (new1 w _) (new1 _ _))) (then_ (new1 w _) (new1 _ _)))
theorem shrink_r2 (s : St) (A : Option Addr) (n c : Nat) (B : Option Addr) (m d : Nat) (rev : Int) (w : World) (h : StAt w s A n c B m d) (hn : n + m ≤ 90000) (hv : inI rev) (e1 : ¬ rev < 0) (e2 : s.rev < rev) :
    Calls Try.prog 21 #[s.agg A n c B m d, .int .i64 rev] w (ShrinkEnd s rev w) := by
  have hb0 := then_ (new1 w (.cells (stCells s A n c B m d) 25)) (new1 _ (.cells zSt 25))
  have HH := Lib.hid h
  have B0 := Lib.hid hb0
  have O0 := Lib.hid ((own_new w (stCells s A n c B m d) 25).alloc (.cells zSt 25))
  have R0 := Lib.hid (own_new2 w (.cells (stCells s A n c B m d) 25) zSt 25)
  have HV := Lib.hid hv
  have hml := h.ev.len
  have hkl := h.kv.len
  have hk : keptE s rev = 8 := by unfold keptE; rw [if_pos (.inr e2)]
  have E1 : Hid (shrunk s rev = s) := Lib.hid (if_neg (by rw [hk]; decide))
  have E2 := Lib.hid hk
  clear h hb0 hv hk
  go_enter Try.func21, Try.ntmps21
  go_wp2
  refine bodyPost_ret (v := .tuple #[s.agg A n c B m d, .int .i64 8]) (by simp [results, Try.results21, go_sem]) rfl (ShrinkEnd.mk E1.out E2.out rfl (HH.out.keep (then_ (new1 w _) (new1 _ _))) (then_ (new1 w _) (new1 _ _)))
theorem shrink_r3 (s : St) (A : Option Addr) (n c : Nat) (B : Option Addr) (m d : Nat) (rev : Int) (w : World) (h : StAt w s A n c B m d) (hn : n + m ≤ 90000) (hv : inI rev) (e1 : ¬ rev < 0) (e2 : ¬ s.rev < rev) (e3 : rev < s.low) :
    Calls Try.prog 21 #[s.agg A n c B m d, .int .i64 rev] w (ShrinkEnd s rev w) := by
  have hb0 := then_ (new1 w (.cells (stCells s A n c B m d) 25)) (new1 _ (.cells zSt 25))
  have HH := Lib.hid h
  have B0 := Lib.hid hb0
  have O0 := Lib.hid ((own_new w (stCells s A n c B m d) 25).alloc (.cells zSt 25))
  have R0 := Lib.hid (own_new2 w (.cells (stCells s A n c B m d) 25) zSt 25)
  have HV := Lib.hid hv
  have hml := h.ev.len
  have hkl := h.kv.len
  have hk : keptE s rev = 9 := by unfold keptE; rw [if_neg (by omega), if_pos e3]
  have E1 : Hid (shrunk s rev = s) := Lib.hid (if_neg (by rw [hk]; decide))
  have E2 := Lib.hid hk
  clear h hb0 hv hk
  go_enter Try.func21, Try.ntmps21
  go_wp2
  refine bodyPost_ret (v := .tuple #[s.agg A n c B m d, .int .i64 9]) (by simp [results, Try.results21, go_sem]) rfl (ShrinkEnd.mk E1.out E2.out rfl (HH.out.keep (then_ (new1 w _) (new1 _ _))) (then_ (new1 w _) (new1 _ _)))
theorem shrink_r4 (s : St) (A : Option Addr) (n c : Nat) (B : Option Addr) (m d : Nat) (rev : Int) (w : World) (h : StAt w s A n c B m d) (hn : n + m ≤ 90000) (hv : inI rev) (e1 : ¬ rev < 0) (e2 : ¬ s.rev < rev) (e3 : ¬ rev < s.low) :
    Calls Try.prog 21 #[s.agg A n c B m d, .int .i64 rev] w (ShrinkEnd s rev w) := by
  have hb0 := then_ (new1 w (.cells (stCells s A n c B m d) 25)) (new1 _ (.cells zSt 25))
  have HH := Lib.hid h
  have B0 := Lib.hid hb0
  have O0 := Lib.hid ((own_new w (stCells s A n c B m d) 25).alloc (.cells zSt 25))
  have R0 := Lib.hid (own_new2 w (.cells (stCells s A n c B m d) 25) zSt 25)
  have HV := Lib.hid hv
  have hml := h.ev.len
  have hkl := h.kv.len
  have hk : keptE s rev = 0 := by unfold keptE; rw [if_neg (by omega), if_neg e3]
  have E1 : Hid (shrunk s rev = shrinkS s rev) := Lib.hid (if_pos hk)
  have E2 := Lib.hid hk
  have HML := Lib.hid hml; have HKL := Lib.hid hkl
  clear h hb0 hv hk hml hkl
  go_enter Try.func21, Try.ntmps21
  go_wp2
  obtain ⟨W0, hW0⟩ : ∃ W0, W0 = (w.alloc (.cells (stCells s A n c B m d) 25)).alloc (.cells zSt 25) := ⟨_, rfl⟩
  have hz0 : w.heap.size + 1 < W0.heap.size := by rw [hW0]; simp
  rw [← hW0] at B0 O0 R0
  rw [← hW0]
  clear hW0
  have q0 := O0.out.cell 0 _ rfl
  have q2 := O0.out.cell 2 _ rfl
  have q3 := O0.out.cell 3 _ rfl
  have S0 := HH.out.keep B0.out
  have b4 := new1 W0 (.cells zSt 25)
  have CF := Lib.hid (fold_ref A n c s.base B m d s.log rev W0.drew (S0.kv.keep (new_drew _)) (S0.ev.keep (new_drew _)) (by omega))
  have CE := Lib.hid (fold_ref A n c s.base B m d s.log rev (W0.alloc (.cells zSt 25)).drew ((S0.kv.keep b4).keep (new_drew _)) ((S0.ev.keep b4).keep (new_drew _)) (by omega))
  have O4 := Lib.hid (O0.out.below b4); have R4 := Lib.hid (R0.out.below b4)
  have N4 := Lib.hid (own_new W0 zSt 25)
  have u0 := O4.out.cell 0 _ rfl
  have u2 := O4.out.cell 2 _ rfl
  have u3 := O4.out.cell 3 _ rfl
  have B4 := Lib.hid (then_ B0.out b4)
  have hnq : ¬ W0.heap.size = w.heap.size := by omega
  clear S0 b4
  go_region_held3 (fun w' => w'.cell? ⟨w.heap.size, 0, none⟩ = some (.int .i64 s.rev) ∧ w'.cell? ⟨w.heap.size, 2, none⟩ = some (.slice A n c) ∧ w'.cell? ⟨w.heap.size, 3, none⟩ = some (.slice B m d)) (go_keep) (first
    | (go_at_call 44; refine CF.out.mono ?_; rintro e w5 ⟨A5, n5, c5, rfl, h5, hb5⟩; have HB5 := Lib.hid (then_ (new_drew W0) hb5); have H5 := Lib.hid h5; have d0 := (O0.out.below HB5.out).cell 0 _ rfl; have d2 := (O0.out.below HB5.out).cell 2 _ rfl; have d3 := (O0.out.below HB5.out).cell 3 _ rfl; clear hb5 h5)
    | (go_at_call 44; refine CE.out.mono ?_; rintro e w5 ⟨A5, n5, c5, rfl, h5, hb5⟩; have HB5 := Lib.hid (then_ (new_drew _) hb5); have H5 := Lib.hid h5; have d0 := (O4.out.below HB5.out).cell 0 _ rfl; have d2 := (O4.out.below HB5.out).cell 2 _ rfl; have d3 := (O4.out.below HB5.out).cell 3 _ rfl; have N5 := Lib.hid (N4.out.below HB5.out); have e0 := N5.out.cell 0 _ rfl; have e1 := N5.out.cell 1 _ rfl; have e2 := N5.out.cell 2 _ rfl; have e3 := N5.out.cell 3 _ rfl; have e5f := N5.out.frozen; clear hb5 h5))
  · obtain ⟨W, hW⟩ : ∃ W, W = w5.alloc (.cells #[.int .i64 s.rev, .int .i64 rev, .slice A5 n5 c5, .slice none 0 0] 25) := ⟨_, rfl⟩
    obtain ⟨G, hG⟩ : ∃ G, G = w5.heap.size := ⟨_, rfl⟩
    have hs5 := HB5.out.size
    have N6 : Hid (Own W G 25 #[.int .i64 s.rev, .int .i64 rev, .slice A5 n5 c5, .slice none 0 0]) := Lib.hid (by rw [hW, hG]; exact own_new w5 _ _)
    have O6 : Hid (Own W w.heap.size 25 (stCells s A n c B m d)) := Lib.hid (by rw [hW]; exact (O0.out.below HB5.out).alloc _)
    have R6 : Hid (Own W (w.heap.size + 1) 25 zSt) := Lib.hid (by rw [hW]; exact (R0.out.below HB5.out).alloc _)
    have B6 : Hid (Below w.heap.size w W) := Lib.hid (by rw [hW]; exact then_ (then_ B0.out HB5.out) (new1 w5 _))
    have K6 : Hid (KVs W A5 n5 c5 (foldL s.base s.log rev)) := Lib.hid (by rw [hW]; exact H5.out.keep (new1 w5 _))
    have hG1 : w.heap.size + 1 < G := by rw [hG]; omega
    rw [← hW, ← hG]
    clear hW hG hs5
    have hGW := N6.out.lt
    have HBn : Hid (∀ a, B = some a → 0 < m → some a.block ≠ some G) := Lib.hid (fun a ha h0 hh => by
      obtain ⟨a', e, hlt, _⟩ := HH.out.ev.rd h0
      rw [ha] at e; injection e with e; subst e; injection hh with hh; omega)
    have E6 := Lib.hid (HH.out.ev.keep B6.out)
    have q3 := O6.out.cell 3 _ rfl
    go_wp2
    go_loopw [7] (fun i wr => ∃ (k : Nat) (C : Option Addr) (p r : Nat), k ≤ m ∧ i = .int .i64 k ∧ Own wr G 25 #[.int .i64 s.rev, .int .i64 rev, .slice A5 n5 c5, .slice C p r] ∧ wr.ownsRow W.heap.size 74 8 (.slice C p r) p (cellsE (above rev (s.log.take k))) ∧ W.grownBy wr (some G)) (fun i _ => m - (intOf i).toNat)
    case atStart => exact ⟨0, none, 0, 0, Nat.zero_le _, rfl, N6.out, World.ownsRow_nil _ _ _ _, grown_refl _ _⟩
    case round =>
      obtain ⟨k, C, p, r, hk, rfl, hn8, hown, hg⟩ := hrel
      have N8 := Lib.hid hn8; have HO := Lib.hid hown; have HG := Lib.hid hg
      have O8 := Lib.hid (O6.out.kept hg (by intro hh; injection hh with hh; omega))
      have R8 := Lib.hid (R6.out.kept hg (by intro hh; injection hh with hh; omega))
      have hsz := hg.size
      have hpk : p ≤ k := by
        have h1 := hown.1; rw [cellsE_len] at h1
        have h2 : (above rev (s.log.take k)).length ≤ (s.log.take k).length := List.length_filter_le _ _
        have h3 := List.length_take_le k s.log
        omega
      clear hn8 hown hg q3
      have q3 := O8.out.cell 3 _ rfl
      have z0 := N8.out.cell 0 _ rfl
      have z1 := N8.out.cell 1 _ rfl
      have z2 := N8.out.cell 2 _ rfl
      have z3 := N8.out.cell 3 _ rfl
      by_cases hlt : k < m
      · obtain ⟨a, x, rfl, hbl, hx, hok, hc⟩ := (evs_kept E6.out HG.out HBn.out).at_ hlt
        obtain ⟨y0, y1, y2, y3, y4, y5, y6, y7⟩ := hc
        have HX := Lib.hid hx; have OK := Lib.hid hok
        clear hx hok hbl
        by_cases hr : x.rev ≤ rev
        · have HS := Lib.hid (above_skip HX.out hr)
          go_wp2
          go_roundw
          case rel => exact ⟨k + 1, C, p, r, by omega, by go_num, N8.out, by rw [HS.out]; exact HO.out, HG.out⟩
          case measure => simp [intOf]; omega
        · have HS := Lib.hid (above_more (rev := rev) HX.out (by omega))
          have HG4 := Lib.hid (grown_on (grown_on HG.out ((new1 wr (x.obj 74)).mono hsz)) ((new_drew (wr.alloc (x.obj 74))).mono (Nat.le_trans hsz (new1 wr (x.obj 74)).size)))
          obtain ⟨v5, w6, hr5, hown5, hb5⟩ := app_evs W.heap.size (.slice C p r) p (above rev (s.log.take k)) (wr.alloc (x.obj 74)).drew (ownE_kept (HO.out.alloc _) (new_drew _)) (some ⟨wr.heap.size, 0, none⟩) 1 1 [x] ((evs_one wr x OK.out).keep (new_drew _)) (by omega) HG4.out.size 23
          obtain ⟨C2, r2, rfl⟩ := ownE_shape hown5
          have HR5 := Lib.hid hr5
          have N10 := Lib.hid (((N8.out.alloc (x.obj 74)).below (new_drew _)).low hb5 hGW)
          have HO10 := Lib.hid hown5
          have HG10 := Lib.hid (grown_on HG4.out hb5)
          have hne10 : Hid (∀ g, (Value.slice C2 (p + 1) r2).ownBlock = some g → g ≠ G) := Lib.hid (fun g hg => by have := (HO10.out.lt g hg).1; omega)
          have N11 := Lib.hid (N10.out.set 3 (.slice C2 (p + 1) r2))
          have HO11 := Lib.hid (HO10.out.kept (Lib.grownBy_setCell w6 G 3 (.slice C2 (p + 1) r2)) (by rcases hv : (Value.slice C2 (p + 1) r2).ownBlock with _ | y; exact .inl rfl; right; intro hh; injection hh with hh; exact hne10.out y hv hh))
          have HG11 := Lib.hid (HG10.out.trans (Lib.grownBy_setCell w6 G 3 (.slice C2 (p + 1) r2)))
          have n0 := N10.out.cell 0 _ rfl
          have n1 := N10.out.cell 1 _ rfl
          have n2 := N10.out.cell 2 _ rfl
          have n3 := N10.out.cell 3 _ rfl
          have nf := N10.out.frozen
          have hGr : G < wr.heap.size := Nat.lt_of_lt_of_le hGW hsz
          have hgn : ¬ wr.heap.size = G := by omega
          have hgn2 : ¬ G = wr.heap.size := by omega
          clear hown5 hb5 hr5
          go_wp2
          go_region_law (refine step_app rfl (.tmp 48) (.tmp 54) 23 23 rfl _ _ (by simp [Act.eval, Act.put]) (by simp [Act.eval, Act.put]) HR5.out ?_)
          all_goals
            go_wp2
            go_roundw
            case rel => exact ⟨k + 1, C2, p + 1, r2, by omega, by go_num, N11.out, by rw [HS.out]; exact HO11.out, HG11.out⟩
            case measure => simp [intOf]; omega
      · obtain rfl : m = k := by omega
        have KV := Lib.hid (K6.out.kept' HG.out (kv_ne K6.out N6.out (st_text s A5 n5 c5 none 0 0 s.rev rev)))
        have EV : Hid (Evs wr C p r (above rev s.log)) := Lib.hid (by
          have h1 := HO.out
          rw [take_full s.log m HML.out] at h1
          exact evs_of_own h1 (fun x hx => HH.out.ev.ok x (List.mem_filter.1 hx).1))
        have EN : Hid (∀ a, C = some a → a.block ≠ w.heap.size + 1) := Lib.hid (fun a ha => by have h1 := ownE_fresh HO.out a ha; omega)
        have BW := Lib.hid (B6.out.grown HG.out B6.out.size (fun g hg => by injection hg with hg; omega))
        have f := R8.out.frozen
        have o0 := R8.out.cell 0 _ rfl
        have o1 := R8.out.cell 1 _ rfl
        have o2 := R8.out.cell 2 _ rfl
        have o3 := R8.out.cell 3 _ rfl
        go_wp2
        refine bodyPost_ret (v := .tuple #[(shrinkS s rev).agg A5 n5 c5 C p r, .int .i64 0]) (by simp [results, Try.results21, go_sem, o0, o1, o2, o3, shrinkS]) rfl (ShrinkEnd.mk E1.out E2.out rfl ⟨?_, ?_, HH.out.rev, HV.out⟩ (below_set4 BW.out (Nat.le_succ _) _ _ _ _))
        · exact KV.out.kept4' (kv_ne KV.out R8.out (st_text s none 0 0 none 0 0 0 0)) _ _ _ _
        · exact EV.out.kept4 (fun a ha hh => by injection hh with hh; exact EN.out a ha hh) _ _ _ _
  · obtain ⟨W, hW⟩ : ∃ W, W = (((w5.setCell ⟨W0.heap.size, 0, none⟩ (.int .i64 s.rev)).setCell ⟨W0.heap.size, 1, none⟩ (.int .i64 rev)).setCell ⟨W0.heap.size, 2, none⟩ (.slice A5 n5 c5)).setCell ⟨W0.heap.size, 3, none⟩ (.slice none 0 0) := ⟨_, rfl⟩
    obtain ⟨G, hG⟩ : ∃ G, G = W0.heap.size := ⟨_, rfl⟩
    have hs5 := HB5.out.size
    have N6 : Hid (Own W G 25 #[.int .i64 s.rev, .int .i64 rev, .slice A5 n5 c5, .slice none 0 0]) := Lib.hid (by rw [hW, hG]; exact (((N5.out.set 0 (.int .i64 s.rev)).set 1 (.int .i64 rev)).set 2 (.slice A5 n5 c5)).set 3 (.slice none 0 0))
    have O6 : Hid (Own W w.heap.size 25 (stCells s A n c B m d)) := Lib.hid (by rw [hW]; exact ((((O4.out.below HB5.out).other W0.heap.size 0 _ (by omega)).other W0.heap.size 1 _ (by omega)).other W0.heap.size 2 _ (by omega)).other W0.heap.size 3 _ (by omega))
    have R6 : Hid (Own W (w.heap.size + 1) 25 zSt) := Lib.hid (by rw [hW]; exact ((((R4.out.below HB5.out).other W0.heap.size 0 _ (by omega)).other W0.heap.size 1 _ (by omega)).other W0.heap.size 2 _ (by omega)).other W0.heap.size 3 _ (by omega))
    have B6 : Hid (Below w.heap.size w W) := Lib.hid (by rw [hW]; exact below_set4 (then_ B4.out HB5.out) (by omega) _ _ _ _)
    have K6 : Hid (KVs W A5 n5 c5 (foldL s.base s.log rev)) := Lib.hid (by rw [hW]; exact H5.out.kept4' (kv_ne H5.out N5.out (st_text s none 0 0 none 0 0 0 0)) _ _ _ _)
    have hG1 : w.heap.size + 1 < G := by rw [hG]; omega
    rw [← hW, ← hG]
    clear hW hG hs5
    have hGW := N6.out.lt
    have HBn : Hid (∀ a, B = some a → 0 < m → some a.block ≠ some G) := Lib.hid (fun a ha h0 hh => by
      obtain ⟨a', e, hlt, _⟩ := HH.out.ev.rd h0
      rw [ha] at e; injection e with e; subst e; injection hh with hh; omega)
    have E6 := Lib.hid (HH.out.ev.keep B6.out)
    have q3 := O6.out.cell 3 _ rfl
    go_wp2
    go_loopw [7] (fun i wr => ∃ (k : Nat) (C : Option Addr) (p r : Nat), k ≤ m ∧ i = .int .i64 k ∧ Own wr G 25 #[.int .i64 s.rev, .int .i64 rev, .slice A5 n5 c5, .slice C p r] ∧ wr.ownsRow W.heap.size 74 8 (.slice C p r) p (cellsE (above rev (s.log.take k))) ∧ W.grownBy wr (some G)) (fun i _ => m - (intOf i).toNat)
    case atStart => exact ⟨0, none, 0, 0, Nat.zero_le _, rfl, N6.out, World.ownsRow_nil _ _ _ _, grown_refl _ _⟩
    case round =>
      obtain ⟨k, C, p, r, hk, rfl, hn8, hown, hg⟩ := hrel
      have N8 := Lib.hid hn8; have HO := Lib.hid hown; have HG := Lib.hid hg
      have O8 := Lib.hid (O6.out.kept hg (by intro hh; injection hh with hh; omega))
      have R8 := Lib.hid (R6.out.kept hg (by intro hh; injection hh with hh; omega))
      have hsz := hg.size
      have hpk : p ≤ k := by
        have h1 := hown.1; rw [cellsE_len] at h1
        have h2 : (above rev (s.log.take k)).length ≤ (s.log.take k).length := List.length_filter_le _ _
        have h3 := List.length_take_le k s.log
        omega
      clear hn8 hown hg q3
      have q3 := O8.out.cell 3 _ rfl
      have z0 := N8.out.cell 0 _ rfl
      have z1 := N8.out.cell 1 _ rfl
      have z2 := N8.out.cell 2 _ rfl
      have z3 := N8.out.cell 3 _ rfl
      by_cases hlt : k < m
      · obtain ⟨a, x, rfl, hbl, hx, hok, hc⟩ := (evs_kept E6.out HG.out HBn.out).at_ hlt
        obtain ⟨y0, y1, y2, y3, y4, y5, y6, y7⟩ := hc
        have HX := Lib.hid hx; have OK := Lib.hid hok
        clear hx hok hbl
        by_cases hr : x.rev ≤ rev
        · have HS := Lib.hid (above_skip HX.out hr)
          go_wp2
          go_roundw
          case rel => exact ⟨k + 1, C, p, r, by omega, by go_num, N8.out, by rw [HS.out]; exact HO.out, HG.out⟩
          case measure => simp [intOf]; omega
        · have HS := Lib.hid (above_more (rev := rev) HX.out (by omega))
          have HG4 := Lib.hid (grown_on (grown_on HG.out ((new1 wr (x.obj 74)).mono hsz)) ((new_drew (wr.alloc (x.obj 74))).mono (Nat.le_trans hsz (new1 wr (x.obj 74)).size)))
          obtain ⟨v5, w6, hr5, hown5, hb5⟩ := app_evs W.heap.size (.slice C p r) p (above rev (s.log.take k)) (wr.alloc (x.obj 74)).drew (ownE_kept (HO.out.alloc _) (new_drew _)) (some ⟨wr.heap.size, 0, none⟩) 1 1 [x] ((evs_one wr x OK.out).keep (new_drew _)) (by omega) HG4.out.size 23
          obtain ⟨C2, r2, rfl⟩ := ownE_shape hown5
          have HR5 := Lib.hid hr5
          have N10 := Lib.hid (((N8.out.alloc (x.obj 74)).below (new_drew _)).low hb5 hGW)
          have HO10 := Lib.hid hown5
          have HG10 := Lib.hid (grown_on HG4.out hb5)
          have hne10 : Hid (∀ g, (Value.slice C2 (p + 1) r2).ownBlock = some g → g ≠ G) := Lib.hid (fun g hg => by have := (HO10.out.lt g hg).1; omega)
          have N11 := Lib.hid (N10.out.set 3 (.slice C2 (p + 1) r2))
          have HO11 := Lib.hid (HO10.out.kept (Lib.grownBy_setCell w6 G 3 (.slice C2 (p + 1) r2)) (by rcases hv : (Value.slice C2 (p + 1) r2).ownBlock with _ | y; exact .inl rfl; right; intro hh; injection hh with hh; exact hne10.out y hv hh))
          have HG11 := Lib.hid (HG10.out.trans (Lib.grownBy_setCell w6 G 3 (.slice C2 (p + 1) r2)))
          have n0 := N10.out.cell 0 _ rfl
          have n1 := N10.out.cell 1 _ rfl
          have n2 := N10.out.cell 2 _ rfl
          have n3 := N10.out.cell 3 _ rfl
          have nf := N10.out.frozen
          have hGr : G < wr.heap.size := Nat.lt_of_lt_of_le hGW hsz
          have hgn : ¬ wr.heap.size = G := by omega
          have hgn2 : ¬ G = wr.heap.size := by omega
          clear hown5 hb5 hr5
          go_wp2
          go_region_law (refine step_app rfl (.tmp 48) (.tmp 54) 23 23 rfl _ _ (by simp [Act.eval, Act.put]) (by simp [Act.eval, Act.put]) HR5.out ?_)
          all_goals
            go_wp2
            go_roundw
            case rel => exact ⟨k + 1, C2, p + 1, r2, by omega, by go_num, N11.out, by rw [HS.out]; exact HO11.out, HG11.out⟩
            case measure => simp [intOf]; omega
      · obtain rfl : m = k := by omega
        have KV := Lib.hid (K6.out.kept' HG.out (kv_ne K6.out N6.out (st_text s A5 n5 c5 none 0 0 s.rev rev)))
        have EV : Hid (Evs wr C p r (above rev s.log)) := Lib.hid (by
          have h1 := HO.out
          rw [take_full s.log m HML.out] at h1
          exact evs_of_own h1 (fun x hx => HH.out.ev.ok x (List.mem_filter.1 hx).1))
        have EN : Hid (∀ a, C = some a → a.block ≠ w.heap.size + 1) := Lib.hid (fun a ha => by have h1 := ownE_fresh HO.out a ha; omega)
        have BW := Lib.hid (B6.out.grown HG.out B6.out.size (fun g hg => by injection hg with hg; omega))
        have f := R8.out.frozen
        have o0 := R8.out.cell 0 _ rfl
        have o1 := R8.out.cell 1 _ rfl
        have o2 := R8.out.cell 2 _ rfl
        have o3 := R8.out.cell 3 _ rfl
        go_wp2
        refine bodyPost_ret (v := .tuple #[(shrinkS s rev).agg A5 n5 c5 C p r, .int .i64 0]) (by simp [results, Try.results21, go_sem, o0, o1, o2, o3, shrinkS]) rfl (ShrinkEnd.mk E1.out E2.out rfl ⟨?_, ?_, HH.out.rev, HV.out⟩ (below_set4 BW.out (Nat.le_succ _) _ _ _ _))
        · exact KV.out.kept4' (kv_ne KV.out R8.out (st_text s none 0 0 none 0 0 0 0)) _ _ _ _
        · exact EV.out.kept4 (fun a ha hh => by injection hh with hh; exact EN.out a ha hh) _ _ _ _
theorem shrink_ref (s : St) (A : Option Addr) (n c : Nat) (B : Option Addr) (m d : Nat) (rev : Int) (w : World) (h : StAt w s A n c B m d) (hn : n + m ≤ 90000) (hv : inI rev):
    Calls Try.prog 21 #[s.agg A n c B m d, .int .i64 rev] w (ShrinkEnd s rev w) := by
  by_cases e1 : rev < 0
  · exact shrink_r1 s A n c B m d rev w h hn hv e1
  · by_cases e2 : s.rev < rev
    · exact shrink_r2 s A n c B m d rev w h hn hv e1 e2
    · by_cases e3 : rev < s.low
      · exact shrink_r3 s A n c B m d rev w h hn hv e1 e2 e3
      · exact shrink_r4 s A n c B m d rev w h hn hv e1 e2 e3
end Go.Proofs.Ytgafkpngnoecaaa.P
