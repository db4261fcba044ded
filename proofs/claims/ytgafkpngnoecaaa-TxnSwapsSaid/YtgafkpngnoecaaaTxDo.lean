/- What is asked and done: the program's way. -/
import Derived.Test.YtgafkpngnoecaaaTxHold
import Derived.Test.YtgafkpngnoecaaaMvRefShr
namespace Go.Proofs.Ytgafkpngnoecaaa.P
open Go.RowKit Go.Sort
set_option maxHeartbeats 2000000
set_option linter.unusedVariables false
set_option linter.unusedSimpArgs false
set_option maxRecDepth 100000

theorem all_any (A : Option Addr) (n c : Nat) (l : List KV) (B : Option Addr) (m d : Nat) (cs : List Cm) (w : World) (h : KVs w A n c l) (g : Cms w B m d cs) (hn : n ≤ 1000000) :
    Calls Try.prog 57 #[.slice A n c, .slice B m d] w fun e w' => e = .returned (.bool (allB l cs)) ∧ Below w.heap.size w w' := by
  have hm := Nat.le_trans g.row.le g.row.max
  unfold maxLen at hm
  have H := Lib.hid h
  have G := Lib.hid g
  have GL := Lib.hid g.row.len
  clear h g
  go_enter Try.func57, Try.ntmps57
  go_wp2
  go_loopw [9] (fun i wr => ∃ k : Nat, k ≤ m ∧ i = .int .i64 k ∧ AllTo (holdsB l) cs k ∧ Below w.heap.size w wr) (fun i _ => m - (intOf i).toNat)
  case atStart => exact ⟨0, Nat.zero_le _, rfl, rfl, Below.refl _ _⟩
  case round =>
    obtain ⟨k, hk, rfl, hall, hbel⟩ := hrel
    have HA := Lib.hid hall; have HB := Lib.hid hbel
    clear hall hbel
    by_cases hlt : k < m
    · obtain ⟨a, x, rfl, hbl, hx, hok, hc⟩ := (G.out.keep HB.out).at_ hlt
      obtain ⟨c0, c1, c2, c3, c4⟩ := hc
      have HX := Lib.hid hx
      have BN := Lib.hid (then_ HB.out (new1 wr (x.obj 56)))
      have KN := Lib.hid ((H.out.keep HB.out).keep (new1 wr (x.obj 56)))
      clear hx hok hbl
      cases hh : holdsB l x with
      | true =>
        have HH := Lib.hid hh
        have HN : Hid (AllTo (holdsB l) cs (k + 1)) := Lib.hid (by show _ = true; rw [all_take_s _ _ _ x HX.out, HA.out.out, hh]; rfl)
        clear hh
        go_wp2_with fail
        refine (holds_any A n c l x _ KN.out hn).mono ?_; rintro e w2 ⟨rfl, hb⟩
        rw [HH.out]
        have B2 := Lib.hid (then_ BN.out hb); clear hb
        go_wp2
        go_roundw
        case rel => exact ⟨k + 1, by omega, by go_num, HN.out, B2.out⟩
        case measure => simp [intOf]; omega
      | false =>
        have HH := Lib.hid hh
        have HF : Hid (allB l cs = false) := Lib.hid (all_stop_s _ _ k x HX.out hh)
        clear hh
        go_wp2_with fail
        refine (holds_any A n c l x _ KN.out hn).mono ?_; rintro e w2 ⟨rfl, hb⟩
        rw [HH.out]
        have B2 := Lib.hid (then_ BN.out hb); clear hb
        go_wp2
        go_ret
        exact ⟨retB HF.out.symm, B2.out⟩
    · obtain rfl : m = k := by omega
      have HF : Hid (allB l cs = true) := Lib.hid (by have h' := HA.out.out; rwa [take_full _ _ GL.out] at h')
      go_wp2
      go_ret
      exact ⟨retB HF.out.symm, HB.out⟩
theorem txMay_long {t : Tx} (h : 4 < t.iff.length ∨ 4 < t.thn.length ∨ 4 < t.els.length) : txMayB t = false := by
  unfold txMayB; rw [decide_eq_false (by omega)]; rfl
theorem txMay_short {t : Tx} (h : t.iff.length ≤ 4 ∧ t.thn.length ≤ 4 ∧ t.els.length ≤ 4) : txMayB t = t.iff.all askB := by
  unfold txMayB; rw [decide_eq_true h]; rfl
theorem txmay_any (t : Tx) (A : Option Addr) (n c : Nat) (B : Option Addr) (m d : Nat) (C : Option Addr) (o e : Nat) (w : World) (h : TxAt w t A n c B m d C o e) :
    Calls Try.prog 58 #[t.agg A n c B m d C o e] w fun r w' => r = .returned (.bool (txMayB t)) ∧ Below w.heap.size w w' := by
  have hn := Nat.le_trans h.iff.row.le h.iff.row.max
  have hm := Nat.le_trans h.thn.le h.thn.max
  have ho := Nat.le_trans h.els.le h.els.max
  unfold maxLen at hn hm ho
  have l1 := h.iff.row.len; have l2 := h.thn.len; have l3 := h.els.len
  have H := Lib.hid (h.keep (new1 w (.cells (txCells A n c B m d C o e) 45)))
  have B0 := Lib.hid (new1 w (.cells (txCells A n c B m d C o e) 45))
  have GL := Lib.hid l1
  clear h
  by_cases h1 : n ≤ 4
  case neg =>
    have HR : Hid (txMayB t = false) := Lib.hid (txMay_long (by omega))
    clear l1 l2 l3
    go_enter Try.func58, Try.ntmps58
    go_wp2
    go_ret
    exact ⟨retB HR.out.symm, B0.out⟩
  by_cases h2 : m ≤ 4
  case neg =>
    have HR : Hid (txMayB t = false) := Lib.hid (txMay_long (by omega))
    clear l1 l2 l3
    go_enter Try.func58, Try.ntmps58
    go_wp2
    go_ret
    exact ⟨retB HR.out.symm, B0.out⟩
  by_cases h3 : o ≤ 4
  case neg =>
    have HR : Hid (txMayB t = false) := Lib.hid (txMay_long (by omega))
    clear l1 l2 l3
    go_enter Try.func58, Try.ntmps58
    go_wp2
    go_ret
    exact ⟨retB HR.out.symm, B0.out⟩
  have HR : Hid (txMayB t = t.iff.all askB) := Lib.hid (txMay_short (by omega))
  clear l1 l2 l3
  go_enter Try.func58, Try.ntmps58
  go_wp2
  go_loopw [24] (fun i wr => ∃ k : Nat, k ≤ n ∧ i = .int .i64 k ∧ AllTo askB t.iff k ∧ Below (w.heap.size + 1) (w.alloc (.cells (txCells A n c B m d C o e) 45)) wr) (fun i _ => n - (intOf i).toNat)
  case atStart => exact ⟨0, Nat.zero_le _, rfl, rfl, Below.refl _ _⟩
  case round =>
    obtain ⟨k, hk, rfl, hall, hbel⟩ := hrel
    have HA := Lib.hid hall; have HB := Lib.hid (show Below (w.alloc (.cells (txCells A n c B m d C o e) 45)).heap.size _ wr by simpa using hbel)
    clear hall hbel
    have BW := Lib.hid (then_ B0.out HB.out)
    by_cases hlt : k < n
    · obtain ⟨a, x, rfl, hbl, hx, hok, hc⟩ := (H.out.iff.keep HB.out).at_ hlt
      obtain ⟨c0, c1, c2, c3, c4⟩ := hc
      have HX := Lib.hid hx
      have BN := Lib.hid (then_ BW.out (new1 wr (x.obj 56)))
      clear hx hok hbl
      cases hh : askB x with
      | true =>
        have HH := Lib.hid hh
        have HN : Hid (AllTo askB t.iff (k + 1)) := Lib.hid (by show _ = true; rw [all_take_s _ _ _ x HX.out, HA.out.out, hh]; rfl)
        clear hh
        go_wp2_with fail
        refine (mayAsk_any x _).mono ?_; rintro e w2 ⟨rfl, hb⟩
        rw [HH.out]
        have HB2 := Lib.hid (then_ (then_ HB.out (new1 wr (x.obj 56))) hb); clear hb
        go_wp2
        go_roundw
        case rel => exact ⟨k + 1, by omega, by go_num, HN.out, by have h := HB2.out; simpa using h⟩
        case measure => simp [intOf]; omega
      | false =>
        have HH := Lib.hid hh
        have HF : Hid (t.iff.all askB = false) := Lib.hid (all_stop_s _ _ k x HX.out hh)
        clear hh
        go_wp2_with fail
        refine (mayAsk_any x _).mono ?_; rintro e w2 ⟨rfl, hb⟩
        rw [HH.out]
        have B2 := Lib.hid (then_ BN.out hb); clear hb
        go_wp2
        go_ret
        exact ⟨retB (by rw [HR.out, HF.out]), B2.out⟩
    · obtain rfl : n = k := by omega
      have HF : Hid (t.iff.all askB = true) := Lib.hid (by have h' := HA.out.out; rwa [take_full _ _ GL.out] at h')
      go_wp2
      go_ret
      exact ⟨retB (by rw [HR.out, HF.out]), BW.out⟩
theorem evs_after4 {w : World} {A : Option Addr} {n c : Nat} {l : List Ev} {g : Nat} (h : Evs w A n c l) (hne : 0 < n → ∀ a, A = some a → a.block ≠ g) (v0 v1 v2 v3 : Value) : Evs ((((w.setCell ⟨g, 0, none⟩ v0).setCell ⟨g, 1, none⟩ v1).setCell ⟨g, 2, none⟩ v2).setCell ⟨g, 3, none⟩ v3) A n c l := by
  by_cases hn : 0 < n
  · exact h.kept4 (fun a ha hh => by injection hh with hh; exact hne hn a ha hh) _ _ _ _
  · exact ⟨h.len, h.le, h.max, h.ok, fun h0 => absurd h0 hn, h.nil⟩
/-- A block that holds no truth holds no event. -/
theorem ev_ne {w : World} {A : Option Addr} {n c : Nat} {l : List Ev} {G : Nat} {t : TypeId} {cs : Array Value} (h : Evs w A n c l) (o : Own w G t cs) (hs : ∀ (i : Nat) (b : Bool), cs[i]? ≠ some (.bool b)) : 0 < n → ∀ a, A = some a → a.block ≠ G := by
  intro hn a ha e
  obtain ⟨a', x, e', hb, hx, ok, hc⟩ := h.at_ hn
  rw [ha] at e'
  injection e' with e'
  subst e'
  have c1 := hc.c1
  rw [Nat.zero_mul] at c1
  have e0 : a.add 0 = a := by simp [Addr.add]
  rw [e0] at c1
  have ho := o.ex
  rw [← e] at ho
  unfold World.cell? at c1
  rw [ho] at c1
  simp at c1
  exact hs _ _ c1
theorem z_bool : ∀ (i : Nat) (b : Bool), zSt[i]? ≠ some (.bool b) := by
  intro i t h
  match i with
  | 0 => simp at h
  | 1 => simp at h
  | 2 => simp at h
  | 3 => simp at h
  | (i + 4) => simp at h
theorem z_text : ∀ (i : Nat) (b : ByteArray), zSt[i]? ≠ some (.string b) := by
  intro i t h
  match i with
  | 0 => simp at h
  | 1 => simp at h
  | 2 => simp at h
  | 3 => simp at h
  | (i + 4) => simp at h
theorem st_after4 {w : World} {s : St} {A : Option Addr} {n c : Nat} {B : Option Addr} {m d : Nat} {g : Nat} {t : TypeId} (h : StAt w s A n c B m d) (o : Own w g t zSt) (v0 v1 v2 v3 : Value) : StAt ((((w.setCell ⟨g, 0, none⟩ v0).setCell ⟨g, 1, none⟩ v1).setCell ⟨g, 2, none⟩ v2).setCell ⟨g, 3, none⟩ v3) s A n c B m d :=
  ⟨h.kv.kept4' (kv_ne h.kv o z_text) _ _ _ _, evs_after4 h.ev (ev_ne h.ev o z_bool) _ _ _ _, h.rev, h.low⟩
def DoEnd (s : St) (t : Tx) (w : World) (e : Ending) (w' : World) : Prop :=
  ∃ A n c B m d E en ec, e = .returned (.tuple #[(doS s t).agg A n c B m d, .bool (doY s t), .slice E en ec, .int .i64 (doE s t)]) ∧ StAt w' (doS s t) A n c B m d ∧ Evs w' E en ec (doV s t) ∧ Below w.heap.size w w'
theorem DoEnd.mk {s : St} {t : Tx} {w : World} {e : Ending} {w' : World} {s' : St} {y : Bool} {es : List Ev} {x : Int} (h1 : doS s t = s') (h2 : doY s t = y) (h3 : doV s t = es) (h4 : doE s t = x) {A : Option Addr} {n c : Nat} {B : Option Addr} {m d : Nat} {E : Option Addr} {en ec : Nat}
    (he : e = .returned (.tuple #[s'.agg A n c B m d, .bool y, .slice E en ec, .int .i64 x])) (hs : StAt w' s' A n c B m d) (hv : Evs w' E en ec es) (hb : Below w.heap.size w w') : DoEnd s t w e w' := by
  subst h1 h2 h3 h4
  exact ⟨_, _, _, _, _, _, _, _, _, he, hs, hv, hb⟩
theorem own_new3 (w : World) (o1 o2 : Obj) (cs : Array Value) (t : TypeId) : Own (((w.alloc o1).alloc o2).alloc (.cells cs t)) (w.heap.size + 1 + 1) t cs := by
  have h := own_new ((w.alloc o1).alloc o2) cs t
  rwa [show ((w.alloc o1).alloc o2).heap.size = w.heap.size + 1 + 1 by simp] at h
theorem do_parts {s : St} {t : Tx} (h : txMayB t = true) : doS s t = applyS s (pickL s t) ∧ doV s t = applyEv s (pickL s t) ∧ doE s t = applyE s (pickL s t) ∧ doY s t = (allB (nowL s) t.iff && decide (applyE s (pickL s t) = 0)) := by
  unfold doS doV doE doY
  rw [if_pos h, if_pos h, if_pos h, h, Bool.true_and]
  exact ⟨rfl, rfl, rfl, rfl⟩
theorem do_bad {s : St} {t : Tx} (h : txMayB t = false) : doS s t = s ∧ doV s t = [] ∧ doE s t = 1 ∧ doY s t = false := by
  have h2 : ¬ txMayB t = true := by rw [h]; simp
  unfold doS doV doE doY
  rw [if_neg h2, if_neg h2, if_neg h2, h, Bool.false_and, Bool.false_and]
  exact ⟨rfl, rfl, rfl, rfl⟩
theorem do_any (s : St) (A : Option Addr) (n c : Nat) (B : Option Addr) (m d : Nat) (t : Tx) (A1 : Option Addr) (n1 c1 : Nat) (B1 : Option Addr) (m1 d1 : Nat) (C1 : Option Addr) (o1 e1 : Nat) (w : World) (h : StAt w s A n c B m d) (g : TxAt w t A1 n1 c1 B1 m1 d1 C1 o1 e1) (hs : MaySt s) :
    Calls Try.prog 26 #[s.agg A n c B m d, t.agg A1 n1 c1 B1 m1 d1 C1 o1 e1] w (DoEnd s t w) := by
  have b0 := then_ (then_ (new1 w (.cells (stCells s A n c B m d) 25)) (new1 _ (.cells (txCells A1 n1 c1 B1 m1 d1 C1 o1 e1) 45))) (new1 _ (.cells zSt 25))
  have HH := Lib.hid h; have GG := Lib.hid g
  have B0 := Lib.hid b0
  have S0 := Lib.hid (((own_new w (stCells s A n c B m d) 25).alloc (.cells (txCells A1 n1 c1 B1 m1 d1 C1 o1 e1) 45)).alloc (.cells zSt 25))
  have T0 := Lib.hid ((own_new2 w (.cells (stCells s A n c B m d) 25) (txCells A1 n1 c1 B1 m1 d1 C1 o1 e1) 45).alloc (.cells zSt 25))
  have R0 := Lib.hid (own_new3 w (.cells (stCells s A n c B m d) 25) (.cells (txCells A1 n1 c1 B1 m1 d1 C1 o1 e1) 45) zSt 25)
  have hk := h.kv.len; have hv := h.ev.len; have hk2 := hs.good.len; have hv2 := hs.len
  have HN : Hid (n + m ≤ 900000) := Lib.hid (by omega)
  have HS := Lib.hid hs
  clear h g b0 hk hv hk2 hv2 hs
  cases hm : txMayB t with
  | false =>
    have DB := Lib.hid (do_bad (s := s) hm)
    have HM := Lib.hid hm; clear hm
    go_enter Try.func26, Try.ntmps26
    go_wp2_with fail
    refine (txmay_any t A1 n1 c1 B1 m1 d1 C1 o1 e1 _ (GG.out.keep B0.out)).mono ?_; rintro e w1 ⟨rfl, hb⟩
    rw [HM.out]
    have B2 := Lib.hid (then_ B0.out hb)
    have S2 := Lib.hid (S0.out.below hb); have R2 := Lib.hid (R0.out.below hb)
    clear hb
    have q0 := S2.out.cell 0 _ rfl
    have q1 := S2.out.cell 1 _ rfl
    have q2 := S2.out.cell 2 _ rfl
    have q3 := S2.out.cell 3 _ rfl
    have f := R2.out.frozen
    have r0 := R2.out.cell 0 _ rfl
    have r1 := R2.out.cell 1 _ rfl
    have r2 := R2.out.cell 2 _ rfl
    have r3 := R2.out.cell 3 _ rfl
    go_wp2
    refine bodyPost_ret (v := .tuple #[s.agg A n c B m d, .bool false, .slice none 0 0, .int .i64 1]) (by simp [results, Try.results26, go_sem, r0, r1, r2, r3]) rfl (DoEnd.mk DB.out.1 DB.out.2.2.2 DB.out.2.1 DB.out.2.2.1 rfl (HH.out.keep (below_set4 B2.out (by omega) _ _ _ _)) (evs_bare _) (below_set4 B2.out (by omega) _ _ _ _))
  | true =>
    have DP := Lib.hid (do_parts (s := s) hm)
    have HM := Lib.hid hm; clear hm
    cases ha : allB (nowL s) t.iff with
    | true =>
      have HP : Hid (pickL s t = t.thn) := Lib.hid (if_pos ha)
      have HA := Lib.hid ha
      clear ha
      go_enter Try.func26, Try.ntmps26
      go_wp2_with fail
      refine (txmay_any t A1 n1 c1 B1 m1 d1 C1 o1 e1 _ (GG.out.keep B0.out)).mono ?_; rintro e w1 ⟨rfl, hb⟩
      rw [HM.out]
      have B2 := Lib.hid (then_ B0.out hb)
      have S2 := Lib.hid (S0.out.below hb); have T2 := Lib.hid (T0.out.below hb); have R2 := Lib.hid (R0.out.below hb)
      clear hb
      have t0 := T2.out.cell 0 _ rfl
      have t1 := T2.out.cell 1 _ rfl
      have t2 := T2.out.cell 2 _ rfl
      go_wp2
      go_quiet (fail)
      obtain ⟨W3, hW3⟩ : ∃ W3, W3 = w1.drewN nq := ⟨_, rfl⟩
      have S3 : Hid (Below w1.heap.size w1 W3) := Lib.hid (by rw [hW3]; exact below_drews _ _)
      rw [← hW3]
      clear hW3 t0 t1 t2
      have B3 := Lib.hid (then_ B2.out S3.out)
      have Q3 := Lib.hid (S2.out.below S3.out); have T3 := Lib.hid (T2.out.below S3.out); have R3 := Lib.hid (R2.out.below S3.out)
      have lq := Q3.out.lt; have lt := T3.out.lt
      have q0 := Q3.out.cell 0 _ rfl
      have q1 := Q3.out.cell 1 _ rfl
      have q2 := Q3.out.cell 2 _ rfl
      have q3 := Q3.out.cell 3 _ rfl
      have t0 := T3.out.cell 0 _ rfl
      have tkn : True := trivial
      have tka : True := trivial
      go_wp2
      go_region_held3 (fun w' => w'.cell? ⟨w.heap.size, 0, none⟩ = some (.int .i64 s.rev) ∧ w'.cell? ⟨w.heap.size, 1, none⟩ = some (.int .i64 s.low) ∧ w'.cell? ⟨w.heap.size, 2, none⟩ = some (.slice A n c) ∧ w'.cell? ⟨w.heap.size, 3, none⟩ = some (.slice B m d) ∧ w'.cell? ⟨w.heap.size + 1, 0, none⟩ = some (.slice A1 n1 c1)) (go_keep) (first
        | (go_at_call 15; have _t := tkn; clear _t tkn; (with_reducible refine (now_any s A n c B m d _ (HH.out.keep (then_ B3.out (new_drew W3))) HN.out).mono ?_); rintro e w4 ⟨A4, n4, c4, rfl, h4, hb⟩; have HB4 := Lib.hid (then_ (new_drew W3) hb); have K4 := Lib.hid h4; clear hb h4; obtain ⟨hc4, hf4⟩ := bcell HB4.out)
        | (go_at_call 57; have _t := tka; clear _t tka; (with_reducible refine (all_any A4 n4 c4 (nowL s) A1 n1 c1 t.iff _ K4.out (GG.out.iff.keep (then_ B3.out HB4.out)) (by have h1 := K4.out.len; have h2 := HS.out.now.len; omega)).mono ?_); rintro e w5 ⟨rfl, hb⟩; rw [HA.out]; have HB5 := Lib.hid (then_ HB4.out hb); clear hb hc4 hf4; obtain ⟨hc5, hf5⟩ := bcell HB5.out))
      all_goals
        have B5 := Lib.hid (then_ B3.out HB5.out)
        have Q5 := Lib.hid (Q3.out.below HB5.out); have T5 := Lib.hid (T3.out.below HB5.out); have R5 := Lib.hid (R3.out.below HB5.out)
        clear hc5 hf5 q0 q1 q2 q3 t0
        have q0 := Q5.out.cell 0 _ rfl
        have q1 := Q5.out.cell 1 _ rfl
        have q2 := Q5.out.cell 2 _ rfl
        have q3 := Q5.out.cell 3 _ rfl
        have t2 := T5.out.cell 2 _ rfl
        go_wp2_with fail
        refine (apply_any s A n c B m d B1 m1 d1 t.thn _ (HH.out.keep B5.out) (GG.out.thn.keep B5.out) HS.out).mono ?_; rintro e w6 ⟨A6, n6, c6, B6, m6, d6, E6, en6, ec6, rfl, h6, v6, hb⟩
        have B7 := Lib.hid (then_ B5.out hb)
        have R7 := Lib.hid (R5.out.below hb)
        have X7 := Lib.hid (own_new w6 #[.int .i64 (applyS s t.thn).rev, .int .i64 (applyS s t.thn).low, .slice A6 n6 c6, .slice B6 m6 d6] 25)
        have L7 := Lib.hid h6
        have V7 := Lib.hid v6
        have hlr := (R5.out.below hb).lt
        clear hb h6 v6
        have x0 := X7.out.cell 0 _ rfl
        have x1 := X7.out.cell 1 _ rfl
        have x2 := X7.out.cell 2 _ rfl
        have x3 := X7.out.cell 3 _ rfl
        have f := R7.out.frozen
        have r0 := R7.out.cell 0 _ rfl
        have r1 := R7.out.cell 1 _ rfl
        have r2 := R7.out.cell 2 _ rfl
        have r3 := R7.out.cell 3 _ rfl
        by_cases hE : applyE s t.thn = 0
        · have HE := Lib.hid hE
          have hE1 : (applyE s t.thn == 0) = true := by simp [hE]
          clear hE
          go_wp2
          refine bodyPost_ret (v := .tuple #[(applyS s t.thn).agg A6 n6 c6 B6 m6 d6, .bool true, .slice E6 en6 ec6, .int .i64 (applyE s t.thn)]) (by simp [results, Try.results26, go_sem, r0, r1, r2, r3, hlr, Nat.ne_of_lt hlr, Nat.ne_of_gt hlr]) rfl (DoEnd.mk (by rw [DP.out.1, HP.out]) (by rw [DP.out.2.2.2, HP.out, HA.out, HE.out]; rfl) (by rw [DP.out.2.1, HP.out]) (by rw [DP.out.2.2.1, HP.out]) rfl ((st_after4 L7.out R7.out _ _ _ _).keep (new1 _ _)) ((evs_after4 V7.out (ev_ne V7.out R7.out z_bool) _ _ _ _).keep (new1 _ _)) (then_ (below_set4 B7.out (by omega) _ _ _ _) (new1 _ _)))
        · have hE1 : (applyE s t.thn == 0) = false := by simp [hE]
          have HE : Hid (decide (applyE s t.thn = 0) = false) := Lib.hid (decide_eq_false hE)
          clear hE
          go_wp2
          refine bodyPost_ret (v := .tuple #[(applyS s t.thn).agg A6 n6 c6 B6 m6 d6, .bool false, .slice E6 en6 ec6, .int .i64 (applyE s t.thn)]) (by simp [results, Try.results26, go_sem, r0, r1, r2, r3, hlr, Nat.ne_of_lt hlr, Nat.ne_of_gt hlr]) rfl (DoEnd.mk (by rw [DP.out.1, HP.out]) (by rw [DP.out.2.2.2, HP.out, HA.out, HE.out]; rfl) (by rw [DP.out.2.1, HP.out]) (by rw [DP.out.2.2.1, HP.out]) rfl ((st_after4 L7.out R7.out _ _ _ _).keep (new1 _ _)) ((evs_after4 V7.out (ev_ne V7.out R7.out z_bool) _ _ _ _).keep (new1 _ _)) (then_ (below_set4 B7.out (by omega) _ _ _ _) (new1 _ _)))
    | false =>
      have HP : Hid (pickL s t = t.els) := Lib.hid (if_neg (by rw [ha]; simp))
      have HA := Lib.hid ha
      clear ha
      go_enter Try.func26, Try.ntmps26
      go_wp2_with fail
      refine (txmay_any t A1 n1 c1 B1 m1 d1 C1 o1 e1 _ (GG.out.keep B0.out)).mono ?_; rintro e w1 ⟨rfl, hb⟩
      rw [HM.out]
      have B2 := Lib.hid (then_ B0.out hb)
      have S2 := Lib.hid (S0.out.below hb); have T2 := Lib.hid (T0.out.below hb); have R2 := Lib.hid (R0.out.below hb)
      clear hb
      have t0 := T2.out.cell 0 _ rfl
      have t1 := T2.out.cell 1 _ rfl
      have t2 := T2.out.cell 2 _ rfl
      go_wp2
      go_quiet (fail)
      obtain ⟨W3, hW3⟩ : ∃ W3, W3 = w1.drewN nq := ⟨_, rfl⟩
      have S3 : Hid (Below w1.heap.size w1 W3) := Lib.hid (by rw [hW3]; exact below_drews _ _)
      rw [← hW3]
      clear hW3 t0 t1 t2
      have B3 := Lib.hid (then_ B2.out S3.out)
      have Q3 := Lib.hid (S2.out.below S3.out); have T3 := Lib.hid (T2.out.below S3.out); have R3 := Lib.hid (R2.out.below S3.out)
      have lq := Q3.out.lt; have lt := T3.out.lt
      have q0 := Q3.out.cell 0 _ rfl
      have q1 := Q3.out.cell 1 _ rfl
      have q2 := Q3.out.cell 2 _ rfl
      have q3 := Q3.out.cell 3 _ rfl
      have t0 := T3.out.cell 0 _ rfl
      have tkn : True := trivial
      have tka : True := trivial
      go_wp2
      go_region_held3 (fun w' => w'.cell? ⟨w.heap.size, 0, none⟩ = some (.int .i64 s.rev) ∧ w'.cell? ⟨w.heap.size, 1, none⟩ = some (.int .i64 s.low) ∧ w'.cell? ⟨w.heap.size, 2, none⟩ = some (.slice A n c) ∧ w'.cell? ⟨w.heap.size, 3, none⟩ = some (.slice B m d) ∧ w'.cell? ⟨w.heap.size + 1, 0, none⟩ = some (.slice A1 n1 c1)) (go_keep) (first
        | (go_at_call 15; have _t := tkn; clear _t tkn; (with_reducible refine (now_any s A n c B m d _ (HH.out.keep (then_ B3.out (new_drew W3))) HN.out).mono ?_); rintro e w4 ⟨A4, n4, c4, rfl, h4, hb⟩; have HB4 := Lib.hid (then_ (new_drew W3) hb); have K4 := Lib.hid h4; clear hb h4; obtain ⟨hc4, hf4⟩ := bcell HB4.out)
        | (go_at_call 57; have _t := tka; clear _t tka; (with_reducible refine (all_any A4 n4 c4 (nowL s) A1 n1 c1 t.iff _ K4.out (GG.out.iff.keep (then_ B3.out HB4.out)) (by have h1 := K4.out.len; have h2 := HS.out.now.len; omega)).mono ?_); rintro e w5 ⟨rfl, hb⟩; rw [HA.out]; have HB5 := Lib.hid (then_ HB4.out hb); clear hb hc4 hf4; obtain ⟨hc5, hf5⟩ := bcell HB5.out))
      all_goals
        have B5 := Lib.hid (then_ B3.out HB5.out)
        have Q5 := Lib.hid (Q3.out.below HB5.out); have T5 := Lib.hid (T3.out.below HB5.out); have R5 := Lib.hid (R3.out.below HB5.out)
        clear hc5 hf5 q0 q1 q2 q3 t0
        have q0 := Q5.out.cell 0 _ rfl
        have q1 := Q5.out.cell 1 _ rfl
        have q2 := Q5.out.cell 2 _ rfl
        have q3 := Q5.out.cell 3 _ rfl
        have t2 := T5.out.cell 2 _ rfl
        go_wp2
        go_quiet (fail)
        obtain ⟨W6, hW6⟩ : ∃ W6, W6 = w5.drewN nq := ⟨_, rfl⟩
        have S6 : Hid (Below w5.heap.size w5 W6) := Lib.hid (by rw [hW6]; exact below_drews _ _)
        rw [← hW6]
        clear hW6 q0 q1 q2 q3 t2
        have B9 := Lib.hid (then_ B5.out S6.out)
        have Q9 := Lib.hid (Q5.out.below S6.out); have R9 := Lib.hid (R5.out.below S6.out)
        have q0 := Q9.out.cell 0 _ rfl
        have q1 := Q9.out.cell 1 _ rfl
        have q2 := Q9.out.cell 2 _ rfl
        have q3 := Q9.out.cell 3 _ rfl
        go_wp2_with fail
        refine (apply_any s A n c B m d C1 o1 e1 t.els _ (HH.out.keep B9.out) (GG.out.els.keep B9.out) HS.out).mono ?_; rintro e w6 ⟨A6, n6, c6, B6, m6, d6, E6, en6, ec6, rfl, h6, v6, hb⟩
        have B7 := Lib.hid (then_ B9.out hb)
        have R7 := Lib.hid (R9.out.below hb)
        have X7 := Lib.hid (own_new w6 #[.int .i64 (applyS s t.els).rev, .int .i64 (applyS s t.els).low, .slice A6 n6 c6, .slice B6 m6 d6] 25)
        have L7 := Lib.hid h6
        have V7 := Lib.hid v6
        have hlr := (R9.out.below hb).lt
        clear hb h6 v6
        have x0 := X7.out.cell 0 _ rfl
        have x1 := X7.out.cell 1 _ rfl
        have x2 := X7.out.cell 2 _ rfl
        have x3 := X7.out.cell 3 _ rfl
        have f := R7.out.frozen
        have r0 := R7.out.cell 0 _ rfl
        have r1 := R7.out.cell 1 _ rfl
        have r2 := R7.out.cell 2 _ rfl
        have r3 := R7.out.cell 3 _ rfl
        go_wp2
        refine bodyPost_ret (v := .tuple #[(applyS s t.els).agg A6 n6 c6 B6 m6 d6, .bool false, .slice E6 en6 ec6, .int .i64 (applyE s t.els)]) (by simp [results, Try.results26, go_sem, r0, r1, r2, r3, hlr, Nat.ne_of_lt hlr, Nat.ne_of_gt hlr]) rfl (DoEnd.mk (by rw [DP.out.1, HP.out]) (by rw [DP.out.2.2.2, HP.out, HA.out]; rfl) (by rw [DP.out.2.1, HP.out]) (by rw [DP.out.2.2.1, HP.out]) rfl ((st_after4 L7.out R7.out _ _ _ _).keep (new1 _ _)) ((evs_after4 V7.out (ev_ne V7.out R7.out z_bool) _ _ _ _).keep (new1 _ _)) (then_ (below_set4 B7.out (by omega) _ _ _ _) (new1 _ _)))
end Go.Proofs.Ytgafkpngnoecaaa.P
