/- What is done, the program's way. -/
import Derived.Test.YtkikfaeigoeogaaMgMv
import Derived.Lib.BufferMore
import Derived.Lib.BufferOwn
namespace Go.Proofs.Ytkikfaeigoeogaa.P
open Go.RowKit Go.Sort
set_option maxHeartbeats 1000000
set_option linter.unusedVariables false
set_option linter.unusedSimpArgs false
set_option maxRecDepth 100000

theorem below_set4 {B g : Nat} {w w2 : World} (h : Below B w w2) (hg : B ≤ g) (v0 v1 v2 v3 : Value) :
    Below B w ((((w2.setCell ⟨g, 0, none⟩ v0).setCell ⟨g, 1, none⟩ v1).setCell ⟨g, 2, none⟩ v2).setCell ⟨g, 3, none⟩ v3) :=
  (((h.setCell (p := ⟨g, 0, none⟩) hg _).setCell (p := ⟨g, 1, none⟩) hg _).setCell (p := ⟨g, 2, none⟩) hg _).setCell (p := ⟨g, 3, none⟩) hg _
def ApplyEnd (s : St) (ms : List Mu) (w : World) (e : Ending) (w' : World) : Prop :=
  ∃ A n c B m d E en ec, e = .returned (.tuple #[(applyS s ms).agg A n c B m d, .slice E en ec, .int .i64 (applyE s ms)]) ∧ StAt w' (applyS s ms) A n c B m d ∧ Evs w' E en ec (applyEv s ms) ∧ Below w.heap.size w w'
theorem ApplyEnd.mk {s : St} {ms : List Mu} {w : World} {e : Ending} {w' : World} {s' : St} {es : List Ev} {x : Int} {A : Option Addr} {n c : Nat} {B : Option Addr} {m d : Nat} {E : Option Addr} {en ec : Nat} (h1 : applyS s ms = s') (h2 : applyEv s ms = es) (h3 : applyE s ms = x)
    (he : e = .returned (.tuple #[s'.agg A n c B m d, .slice E en ec, .int .i64 x])) (hs : StAt w' s' A n c B m d) (hv : Evs w' E en ec es) (hb : Below w.heap.size w w') : ApplyEnd s ms w e w' := by
  subst h1 h2 h3
  exact ⟨_, _, _, _, _, _, _, _, _, he, hs, hv, hb⟩
/-- A store is told as it was. -/
theorem apply_not {s : St} {ms : List Mu} (h : ¬ applied s ms) : applyS s ms = s ∧ applyEv s ms = [] := ⟨if_neg h, if_neg h⟩

theorem apply_no (s : St) (A : Option Addr) (n c : Nat) (B : Option Addr) (m d : Nat) (M : Option Addr) (mn mc : Nat) (ms : List Mu) (w : World) (h : StAt w s A n c B m d) (hM : Mus w M mn mc ms) (hd : mayDoB ms = false) :
    Calls Try.prog 23 #[s.agg A n c B m d, .slice M mn mc] w (ApplyEnd s ms w) := by
  have hb0 := then_ (new1 w (.cells (stCells s A n c B m d) 25)) (new1 _ (.cells zSt 25))
  have HH := Lib.hid h
  have H0 := Lib.hid (h.keep hb0)
  have M0 := Lib.hid (hM.keep hb0)
  have B0 := Lib.hid hb0
  have O0 := Lib.hid ((own_new w (stCells s A n c B m d) 25).alloc (.cells zSt 25))
  have R0 := Lib.hid (own_new2 w (.cells (stCells s A n c B m d) 25) zSt 25)
  have hna : ¬ applied s ms := fun ha => by have := (applied_iff ha).1; rw [hd] at this; cases this
  have E1 := Lib.hid (apply_not hna)
  have E2 : Hid (applyE s ms = 1) := Lib.hid (by unfold applyE; rw [if_pos hd])
  have t := mayDo_any M mn mc ms ((w.alloc (.cells (stCells s A n c B m d) 25)).alloc (.cells zSt 25)) M0.out
  rw [hd] at t
  have T := Lib.hid t
  clear h hM hb0 hna t hd
  go_enter Try.func23, Try.ntmps23
  go_wp2_with fail
  refine T.out.mono ?_; rintro e w1 ⟨rfl, hb⟩
  have B1 := Lib.hid (then_ B0.out hb)
  have O1 := Lib.hid (O0.out.below hb)
  have R1 := Lib.hid (R0.out.below hb)
  have H1 := Lib.hid (H0.out.keep hb)
  clear hb
  have q0 := O1.out.cell 0 _ rfl
  have q1 := O1.out.cell 1 _ rfl
  have q2 := O1.out.cell 2 _ rfl
  have q3 := O1.out.cell 3 _ rfl
  have f := R1.out.frozen
  have o0 := R1.out.cell 0 _ rfl
  have o1 := R1.out.cell 1 _ rfl
  have o2 := R1.out.cell 2 _ rfl
  have o3 := R1.out.cell 3 _ rfl
  go_wp2
  refine bodyPost_ret (v := .tuple #[s.agg A n c B m d, .slice none 0 0, .int .i64 1]) (by simp [results, Try.results23, go_sem, o0, o1, o2, o3]) rfl (ApplyEnd.mk E1.out.1 E1.out.2 E2.out rfl (HH.out.keep (below_set4 B1.out (Nat.le_succ _) _ _ _ _)) (evs_bare _) (below_set4 B1.out (Nat.le_succ _) _ _ _ _))
theorem apply_idle (s : St) (A : Option Addr) (n c : Nat) (B : Option Addr) (m d : Nat) (M : Option Addr) (mn mc : Nat) (ms : List Mu) (w : World) (h : StAt w s A n c B m d) (hM : Mus w M mn mc ms) (hs : MaySt s) (hd : mayDoB ms = true) (hi : applied s ms → False) :
    Calls Try.prog 23 #[s.agg A n c B m d, .slice M mn mc] w (ApplyEnd s ms w) := by
  have hb0 := then_ (new1 w (.cells (stCells s A n c B m d) 25)) (new1 _ (.cells zSt 25))
  have HH := Lib.hid h
  have H0 := Lib.hid (h.keep hb0)
  have M0 := Lib.hid (hM.keep hb0)
  have B0 := Lib.hid hb0
  have O0 := Lib.hid ((own_new w (stCells s A n c B m d) 25).alloc (.cells zSt 25))
  have R0 := Lib.hid (own_new2 w (.cells (stCells s A n c B m d) 25) zSt 25)
  have E1 := Lib.hid (apply_not hi)
  have t := mayDo_any M mn mc ms ((w.alloc (.cells (stCells s A n c B m d) 25)).alloc (.cells zSt 25)) M0.out
  rw [hd] at t
  have T := Lib.hid t
  have HD := Lib.hid hd
  have HS := Lib.hid hs
  have EL := Lib.hid (h.ev.len)
  have hml := hs.len; rw [h.ev.len] at hml
  have hrv := hs.max
  obtain ⟨es, hes⟩ : ∃ es, es = eventsOf s ms := ⟨_, rfl⟩
  obtain ⟨ft, hft⟩ : ∃ ft, ft = (comeL (s.rev + 1) (nowL s) ms).2.2 := ⟨_, rfl⟩
  have E2 : Hid (applyE s ms = if es = [] then 0 else 4) := Lib.hid (by
    unfold applyE applied at *
    rw [if_neg (by rw [hd]; simp)]
    rw [hes]
    by_cases he : eventsOf s ms = []
    · rw [if_pos he, if_pos he]
    · rw [if_neg he, if_neg he]
      rw [if_pos ?_]
      refine Classical.byContradiction fun hc => hi ⟨?_, he⟩
      unfold applyE
      rw [if_neg (by rw [hd]; simp), if_neg he, if_neg hc])
  have E3 : Hid (es ≠ [] → ft = false ∨ s.rev = 1099511627774 ∨ 60 < m + es.length) := Lib.hid (by
    intro he
    rw [hes, hft, ← h.ev.len]
    refine Classical.byContradiction fun hc => hi ⟨?_, by rw [← hes]; exact he⟩
    unfold applyE
    rw [if_neg (by rw [hd]; simp), if_neg (by rw [← hes]; exact he), if_neg hc])
  have HES := Lib.hid hes
  have HFT := Lib.hid hft
  have h60 : es.length ≤ 60 := by
    rw [hes]
    have h2 := (hs.come_to (may_do hd).2 ms.length).len
    have h3 := (may_do hd).1
    rw [List.take_length] at h2
    unfold eventsOf
    omega
  clear h hM hb0 t hd hs hi hes hft
  go_enter Try.func23, Try.ntmps23
  go_wp2_with fail
  refine T.out.mono ?_; rintro e w1 ⟨rfl, hb⟩
  have B1 := Lib.hid (then_ B0.out hb)
  have O1 := Lib.hid (O0.out.below hb)
  have R1 := Lib.hid (R0.out.below hb)
  have H1 := Lib.hid (H0.out.keep hb)
  have M1 := Lib.hid (M0.out.keep hb)
  clear hb
  have q0 := O1.out.cell 0 _ rfl
  have q1 := O1.out.cell 1 _ rfl
  have q2 := O1.out.cell 2 _ rfl
  have q3 := O1.out.cell 3 _ rfl
  go_wp2_with fail
  refine (come_any s A n c B m d M mn mc ms w1 H1.out M1.out HS.out HD.out).mono ?_; rintro e w2 ⟨E, en, ec, rfl, hev, hb, hfr⟩
  rw [← HFT.out]
  rw [← HES.out] at hev
  have B2 := Lib.hid (then_ B1.out hb)
  have O2 := Lib.hid (O1.out.below hb)
  have R2 := Lib.hid (R1.out.below hb)
  have EN := hev.len
  have HEV := Lib.hid hev
  clear hb hev q0 q1 q2 q3
  have p0 := O2.out.cell 0 _ rfl
  have p1 := O2.out.cell 1 _ rfl
  have p2 := O2.out.cell 2 _ rfl
  have p3 := O2.out.cell 3 _ rfl
  have f := R2.out.frozen
  have o0 := R2.out.cell 0 _ rfl
  have o1 := R2.out.cell 1 _ rfl
  have o2 := R2.out.cell 2 _ rfl
  have o3 := R2.out.cell 3 _ rfl
  by_cases hen : en = 0
  · subst hen
    have he : es = [] := List.eq_nil_of_length_eq_zero EN
    have E4 : Hid (applyE s ms = 0) := Lib.hid (by rw [E2.out, if_pos he])
    clear EN h60 he
    go_wp2
    refine bodyPost_ret (v := .tuple #[s.agg A n c B m d, .slice none 0 0, .int .i64 0]) (by simp [results, Try.results23, go_sem, o0, o1, o2, o3]) rfl (ApplyEnd.mk E1.out.1 E1.out.2 E4.out rfl (HH.out.keep (below_set4 B2.out (Nat.le_succ _) _ _ _ _)) (evs_bare _) (below_set4 B2.out (Nat.le_succ _) _ _ _ _))
  · have he : es ≠ [] := by rintro rfl; simp at EN; omega
    have E4 : Hid (applyE s ms = 4) := Lib.hid (by rw [E2.out, if_neg he])
    have hc := E3.out he
    rw [EN] at hc h60
    have hen' : ¬ ((en : Int) = 0) := by omega
    clear EN he E2 E3
    cases ft with
    | false =>
      clear hc
      go_wp2
      refine bodyPost_ret (v := .tuple #[s.agg A n c B m d, .slice none 0 0, .int .i64 4]) (by simp [results, Try.results23, go_sem, o0, o1, o2, o3]) rfl (ApplyEnd.mk E1.out.1 E1.out.2 E4.out rfl (HH.out.keep (below_set4 B2.out (Nat.le_succ _) _ _ _ _)) (evs_bare _) (below_set4 B2.out (Nat.le_succ _) _ _ _ _))
    | true =>
      have hc' : s.rev = 1099511627774 ∨ 60 < m + en := by rcases hc with h | h; cases h; exact h
      clear hc
      by_cases hr : s.rev = 1099511627774
      · have hr' : (s.rev == 1099511627774) = true := by simp [hr]
        clear hc'
        go_wp2
        refine bodyPost_ret (v := .tuple #[s.agg A n c B m d, .slice none 0 0, .int .i64 4]) (by simp [results, Try.results23, go_sem, o0, o1, o2, o3, hr]) rfl (ApplyEnd.mk E1.out.1 E1.out.2 E4.out rfl (HH.out.keep (below_set4 B2.out (Nat.le_succ _) _ _ _ _)) (evs_bare _) (below_set4 B2.out (Nat.le_succ _) _ _ _ _))
      · have hr' : (s.rev == 1099511627774) = false := by simp [hr]
        have h60' : 60 < m + en := by rcases hc' with h | h; exact absurd h hr; exact h
        clear hc'
        go_wp2
        refine bodyPost_ret (v := .tuple #[s.agg A n c B m d, .slice none 0 0, .int .i64 4]) (by simp [results, Try.results23, go_sem, o0, o1, o2, o3]) rfl (ApplyEnd.mk E1.out.1 E1.out.2 E4.out rfl (HH.out.keep (below_set4 B2.out (Nat.le_succ _) _ _ _ _)) (evs_bare _) (below_set4 B2.out (Nat.le_succ _) _ _ _ _))
theorem Evs.kept {w w' : World} {A : Option Addr} {n c : Nat} {l : List Ev} {row : Option Nat} (h : Evs w A n c l) (hg : w.grownBy w' row) (hne : ∀ a, A = some a → some a.block ≠ row) : Evs w' A n c l :=
  ⟨h.len, h.le, h.max, h.ok, fun hn => by
    obtain ⟨a, e, hlt, hx⟩ := h.rd hn
    refine ⟨a, e, Nat.lt_of_lt_of_le hlt hg.size, fun i x hi => ?_⟩
    have hb : w'.heap[a.block]? = w.heap[a.block]? := hg.block _ hlt (hne a e)
    have k : ∀ p : Addr, p.block = a.block → w'.cell? p = w.cell? p := fun p hp => World.cell?_of_block (by rw [hp]; exact hb)
    have hab : (a.add (i * 8)).block = a.block := block_add _ _
    have q : ∀ j, w'.cell? ⟨(a.add (i * 8)).block, (a.add (i * 8)).off + j, none⟩ = w.cell? ⟨(a.add (i * 8)).block, (a.add (i * 8)).off + j, none⟩ := fun j => k _ hab
    obtain ⟨c0, c1, c2, c3, c4, c5, c6, c7⟩ := hx i x hi
    exact ⟨(k _ hab).trans c0, (q 1).trans c1, (q 2).trans c2, (q 3).trans c3, (q 4).trans c4, (q 5).trans c5, (q 6).trans c6, (q 7).trans c7⟩, h.nil⟩
theorem kv_fresh {w : World} {base n : Nat} {A : Option Addr} {c : Nat} {xs : List Value} (h : w.ownsRow base 36 6 (.slice A n c) n xs) : ∀ a, A = some a → base ≤ a.block := by
  intro a ha
  subst ha
  rcases h.2 with ⟨hv, _⟩ | ⟨g, cap, cur, hv, hb, _⟩
  · injection hv with e1; cases e1
  · injection hv with e1
    injection e1 with e1
    subst e1
    exact hb
theorem KVs.kept4 {w : World} {A : Option Addr} {n c g : Nat} {l : List KV} (h : KVs w A n c l) (hne : ∀ a, A = some a → some a.block ≠ some g) (v0 v1 v2 v3 : Value) : KVs ((((w.setCell ⟨g, 0, none⟩ v0).setCell ⟨g, 1, none⟩ v1).setCell ⟨g, 2, none⟩ v2).setCell ⟨g, 3, none⟩ v3) A n c l :=
  (((h.kept (Lib.grownBy_setCell _ g 0 v0) hne).kept (Lib.grownBy_setCell _ g 1 v1) hne).kept (Lib.grownBy_setCell _ g 2 v2) hne).kept (Lib.grownBy_setCell _ g 3 v3) hne
theorem Evs.kept4 {w : World} {A : Option Addr} {n c g : Nat} {l : List Ev} (h : Evs w A n c l) (hne : ∀ a, A = some a → some a.block ≠ some g) (v0 v1 v2 v3 : Value) : Evs ((((w.setCell ⟨g, 0, none⟩ v0).setCell ⟨g, 1, none⟩ v1).setCell ⟨g, 2, none⟩ v2).setCell ⟨g, 3, none⟩ v3) A n c l :=
  (((h.kept (Lib.grownBy_setCell _ g 0 v0) hne).kept (Lib.grownBy_setCell _ g 1 v1) hne).kept (Lib.grownBy_setCell _ g 2 v2) hne).kept (Lib.grownBy_setCell _ g 3 v3) hne
theorem apply_done (s : St) (A : Option Addr) (n c : Nat) (B : Option Addr) (m d : Nat) (M : Option Addr) (mn mc : Nat) (ms : List Mu) (w : World) (h : StAt w s A n c B m d) (hM : Mus w M mn mc ms) (hs : MaySt s) (ha : applied s ms) :
    Calls Try.prog 23 #[s.agg A n c B m d, .slice M mn mc] w (ApplyEnd s ms w) := by
  obtain ⟨hd, hfit, hrm, hlog⟩ := applied_iff ha
  have hb0 := then_ (new1 w (.cells (stCells s A n c B m d) 25)) (new1 _ (.cells zSt 25))
  have HH := Lib.hid h
  have H0 := Lib.hid (h.keep hb0)
  have M0 := Lib.hid (hM.keep hb0)
  have B0 := Lib.hid hb0
  have O0 := Lib.hid ((own_new w (stCells s A n c B m d) 25).alloc (.cells zSt 25))
  have R0 := Lib.hid (own_new2 w (.cells (stCells s A n c B m d) 25) zSt 25)
  have E1 : Hid (applyS s ms = doneS s ms) := Lib.hid (if_pos ha)
  have E2 : Hid (applyEv s ms = eventsOf s ms) := Lib.hid (if_pos ha)
  have E3 : Hid (applyE s ms = 0) := Lib.hid ha.1
  have t := mayDo_any M mn mc ms ((w.alloc (.cells (stCells s A n c B m d) 25)).alloc (.cells zSt 25)) M0.out
  rw [hd] at t
  have T := Lib.hid t
  have HD := Lib.hid hd
  have HS := Lib.hid hs
  have hlow := hs.low; have hle := hs.le; have hmax := hs.max
  have hrv : s.rev ≤ 1099511627773 := by omega
  have hr' : (s.rev == 1099511627774) = false := by simp [hrm]
  have hn30 : n ≤ 30 := by rw [← h.kv.len]; exact hs.good.len
  have hlm := h.ev.len
  have HFIT := Lib.hid hfit
  obtain ⟨es, hes⟩ : ∃ es, es = eventsOf s ms := ⟨_, rfl⟩
  have hne : es ≠ [] := by rw [hes]; exact ha.2
  have hpos : 0 < es.length := List.length_pos_iff.2 hne
  rw [← hes, hlm] at hlog
  have HES := Lib.hid hes
  clear h hM hb0 t hd hs ha hes hfit hne hmax hrm hlm
  go_enter Try.func23, Try.ntmps23
  go_wp2_with fail
  refine T.out.mono ?_; rintro e w1 ⟨rfl, hb⟩
  have B1 := Lib.hid (then_ B0.out hb)
  have O1 := Lib.hid (O0.out.below hb)
  have R1 := Lib.hid (R0.out.below hb)
  have H1 := Lib.hid (H0.out.keep hb)
  have M1 := Lib.hid (M0.out.keep hb)
  clear hb
  have q0 := O1.out.cell 0 _ rfl
  have q1 := O1.out.cell 1 _ rfl
  have q2 := O1.out.cell 2 _ rfl
  have q3 := O1.out.cell 3 _ rfl
  go_wp2_with fail
  refine (come_any s A n c B m d M mn mc ms w1 H1.out M1.out HS.out HD.out).mono ?_; rintro e w2 ⟨E, en, ec, rfl, hev, hb, hfr⟩
  rw [HFIT.out]
  rw [← HES.out] at hev
  have B2 := Lib.hid (then_ B1.out hb)
  have O2 := Lib.hid (O1.out.below hb)
  have R2 := Lib.hid (R1.out.below hb)
  have EN := hev.len
  rw [EN] at hpos hlog
  have HEV := Lib.hid hev
  have HFR := Lib.hid hfr
  clear hfr hb hev q0 q1 q2 q3 EN
  have p0 := O2.out.cell 0 _ rfl
  have p1 := O2.out.cell 1 _ rfl
  have p2 := O2.out.cell 2 _ rfl
  have p3 := O2.out.cell 3 _ rfl
  have f2 := O2.out.frozen
  have hen' : ¬ ((en : Int) = 0) := by omega
  have hlog' : ¬ (60 < m + en) := by omega
  have hwr : IntKind.i64.wrap (s.rev + 1) = s.rev + 1 := by rw [IntKind.wrap_i64]; omega
  have B3 := Lib.hid (B2.out.setCell (p := ⟨w.heap.size, 0, none⟩) (Nat.le_refl _) (.int .i64 (s.rev + 1)))
  have O3 := Lib.hid (O2.out.set 0 (.int .i64 (s.rev + 1)))
  have R3 := Lib.hid (R2.out.other w.heap.size 0 (.int .i64 (s.rev + 1)) (by omega))
  have V3 := Lib.hid (HEV.out.kept (Lib.grownBy_setCell w2 w.heap.size 0 (.int .i64 (s.rev + 1))) (fun a ha hx => by have := HFR.out a ha; have h2 := O1.out.lt; injection hx with hx; omega))
  have t := clone_any A n c s.base (w2.setCell ⟨w.heap.size, 0, none⟩ (.int .i64 (s.rev + 1))) (HH.out.keep B3.out).kv (by omega)
  have TC := Lib.hid t
  clear t
  go_wp2_with fail
  refine TC.out.mono ?_; rintro e w4 ⟨A1, c1, rfl, hown, hb⟩
  have hkl := HH.out.kv.len
  rw [hkl] at hown ⊢
  have B4 := Lib.hid (then_ B3.out hb)
  have O4 := Lib.hid (O3.out.below hb)
  have R4 := Lib.hid (R3.out.below hb)
  have V4 := Lib.hid (V3.out.keep hb)
  have KO := Lib.hid hown
  have K4 := Lib.hid (own_kvs hown HH.out.kv.ok)
  have GS := Lib.hid (show (w2.setCell ⟨w.heap.size, 0, none⟩ (.int .i64 (s.rev + 1))).heap.size = w2.heap.size by simp)
  have L2 := Lib.hid O2.out.lt
  clear hb hown p0 p1 p2 p3 f2
  have p0 := O4.out.cell 0 _ rfl
  have p1 := O4.out.cell 1 _ rfl
  have p2 := O4.out.cell 2 _ rfl
  have p3 := O4.out.cell 3 _ rfl
  have f4 := O4.out.frozen
  have hKne : Hid (∀ a, A1 = some a → some a.block ≠ some w.heap.size) := Lib.hid (fun a ha hx => by
    have h1 := kv_fresh KO.out a ha
    have h2 := GS.out; have h3 := L2.out
    injection hx with hx; omega)
  have hVne : Hid (∀ a, E = some a → some a.block ≠ some w.heap.size) := Lib.hid (fun a ha hx => by have := HFR.out a ha; have h2 := O1.out.lt; injection hx with hx; omega)
  have B5 := Lib.hid (B4.out.setCell (p := ⟨w.heap.size, 2, none⟩) (Nat.le_refl _) (.slice A1 n c1))
  have O5 := Lib.hid (O4.out.set 2 (.slice A1 n c1))
  have R5 := Lib.hid (R4.out.other w.heap.size 2 (.slice A1 n c1) (by omega))
  have V5 := Lib.hid (V4.out.kept (Lib.grownBy_setCell w4 w.heap.size 2 (.slice A1 n c1)) hVne.out)
  have K5 := Lib.hid (K4.out.kept (Lib.grownBy_setCell w4 w.heap.size 2 (.slice A1 n c1)) hKne.out)
  have N6 : Hid (((w4.setCell ⟨w.heap.size, 2, none⟩ (.slice A1 n c1)).alloc (.cells #[.slice B m d, .slice E en ec] 23)).heap[w4.heap.size]? = some (.cells #[.slice B m d, .slice E en ec] 23 (0, 0))) := Lib.hid (by
    have t := (own_new (w4.setCell ⟨w.heap.size, 2, none⟩ (.slice A1 n c1)) #[.slice B m d, .slice E en ec] 23).ex
    rwa [show (w4.setCell ⟨w.heap.size, 2, none⟩ (.slice A1 n c1)).heap.size = w4.heap.size by simp] at t)
  have b6 := new1 (w4.setCell ⟨w.heap.size, 2, none⟩ (.slice A1 n c1)) (.cells #[.slice B m d, .slice E en ec] 23)
  have B6 := Lib.hid (then_ B5.out b6)
  have O6 := Lib.hid (O5.out.below b6)
  have R6 := Lib.hid (R5.out.below b6)
  have V6 := Lib.hid (V5.out.keep b6)
  have K6 := Lib.hid (K5.out.keep b6)
  have t := concatE_any w4.heap.size B m d s.log E en ec es _ N6.out (HH.out.keep B6.out).ev V6.out (by omega)
  have TC2 := Lib.hid t
  clear t b6 hkl
  go_wp2_with fail
  refine TC2.out.mono ?_; rintro e w7 ⟨A2, c2, rfl, hown, hb⟩
  have hEk : ∀ x ∈ s.log ++ es, x.ok := fun x hx => by
    rcases List.mem_append.1 hx with h | h
    · exact HH.out.ev.ok x h
    · exact HEV.out.ok x h
  have B7 := Lib.hid (then_ B6.out hb)
  have O7 := Lib.hid (O6.out.below hb)
  have R7 := Lib.hid (R6.out.below hb)
  have V7 := Lib.hid (V6.out.keep hb)
  have K7 := Lib.hid (K6.out.keep hb)
  have EO := Lib.hid hown
  have G7 := Lib.hid (evs_of_own hown hEk)
  have b62 := B6.out.size
  have LK := Lib.hid (R2.out.lt)
  have LW := Lib.hid (R1.out.lt)
  have L6 := Lib.hid (O6.out.lt)
  have L6' := Lib.hid (R6.out.lt)
  clear hb hown p0 p1 p2 p3 f4 hEk b62
  have p0 := O7.out.cell 0 _ rfl
  have p1 := O7.out.cell 1 _ rfl
  have p2 := O7.out.cell 2 _ rfl
  have p3 := O7.out.cell 3 _ rfl
  have f7 := O7.out.frozen
  have o0 := R7.out.cell 0 _ rfl
  have o1 := R7.out.cell 1 _ rfl
  have o2 := R7.out.cell 2 _ rfl
  have o3 := R7.out.cell 3 _ rfl
  have g7 := R7.out.frozen
  obtain ⟨L, hL⟩ : ∃ L, L = (s.log ++ es).length := ⟨_, rfl⟩
  rw [← hL]
  have HL := Lib.hid hL
  clear hL
  have kne : Hid (∀ g, g = w.heap.size ∨ g = w.heap.size + 1 → ∀ a, A1 = some a → some a.block ≠ some g) := Lib.hid (fun g hg a ha hx => by
    have h1 := kv_fresh KO.out a ha
    have h2 := GS.out; have h3 := LK.out
    injection hx with hx; omega)
  have vne : Hid (∀ g, g = w.heap.size ∨ g = w.heap.size + 1 → ∀ a, E = some a → some a.block ≠ some g) := Lib.hid (fun g hg a ha hx => by
    have h1 := HFR.out a ha
    have h3 := LW.out
    injection hx with hx; omega)
  have gne : Hid (∀ g, g = w.heap.size ∨ g = w.heap.size + 1 → ∀ a, A2 = some a → some a.block ≠ some g) := Lib.hid (fun g hg a ha hx => by
    have h1 := ownE_fresh EO.out a ha
    have h3 := L6.out; have h4 := L6'.out
    injection hx with hx; omega)
  go_wp2
  have HLL : Hid (L = (s.log ++ eventsOf s ms).length) := Lib.hid (by rw [HL.out, HES.out])
  refine bodyPost_ret (v := .tuple #[(doneS s ms).agg A1 n c1 A2 L c2, .slice E en ec, .int .i64 0]) (by simp [results, Try.results23, go_sem, o0, o1, o2, o3, doneS]) rfl (ApplyEnd.mk E1.out E2.out E3.out rfl ⟨?_, ?_, ?_, ?_⟩ ?_ ?_)
  · exact (K7.out.kept (Lib.grownBy_setCell _ w.heap.size 3 _) (kne.out _ (.inl rfl))).kept4 (kne.out _ (.inr rfl)) _ _ _ _
  · have t := (G7.out.kept (Lib.grownBy_setCell _ w.heap.size 3 (.slice A2 L c2)) (gne.out _ (.inl rfl)))
    rw [← HL.out, HES.out] at t
    exact t.kept4 (gne.out _ (.inr rfl)) _ _ _ _
  · show inI (s.rev + 1)
    exact ⟨by omega, by omega⟩
  · exact HH.out.low
  · rw [← HES.out]
    exact (V7.out.kept (Lib.grownBy_setCell _ w.heap.size 3 _) (vne.out _ (.inl rfl))).kept4 (vne.out _ (.inr rfl)) _ _ _ _
  · exact below_set4 (B7.out.setCell (p := ⟨w.heap.size, 3, none⟩) (Nat.le_refl _) _) (Nat.le_succ _) _ _ _ _
theorem apply_any (s : St) (A : Option Addr) (n c : Nat) (B : Option Addr) (m d : Nat) (M : Option Addr) (mn mc : Nat) (ms : List Mu) (w : World) (h : StAt w s A n c B m d) (hM : Mus w M mn mc ms) (hs : MaySt s) :
    Calls Try.prog 23 #[s.agg A n c B m d, .slice M mn mc] w (ApplyEnd s ms w) := by
  by_cases hd : mayDoB ms = true
  · by_cases ha : applied s ms
    · exact apply_done s A n c B m d M mn mc ms w h hM hs ha
    · exact apply_idle s A n c B m d M mn mc ms w h hM hs hd ha
  · exact apply_no s A n c B m d M mn mc ms w h hM (by simpa using hd)
end Go.Proofs.Ytkikfaeigoeogaa.P
