/- What is done: the document's way. -/
import Derived.Test.YtlffhehpeeiogaaTxRef
import Derived.Test.YtlffhehpeeiogaaMvRefApp
namespace Go.Proofs.Ytlffhehpeeiogaa.P
open Go.RowKit Go.Sort
set_option maxHeartbeats 2000000
set_option linter.unusedVariables false
set_option linter.unusedSimpArgs false
set_option maxRecDepth 100000

theorem askB_false {x : Cm} (h : x.what < 1 ∨ 4 < x.what ∨ x.how < 1 ∨ 3 < x.how) : askB x = false := by
  unfold askB
  rcases h with h | h | h | h
  · rw [decide_eq_false (by omega)]; rfl
  · rw [decide_eq_false (by omega)]; rfl
  · rw [Bool.and_eq_false_iff]; exact Or.inr (decide_eq_false (by omega))
  · rw [Bool.and_eq_false_iff]; exact Or.inr (decide_eq_false (by omega))
theorem askB_true {x : Cm} (h1 : ¬ x.what < 1) (h2 : ¬ 4 < x.what) (h3 : ¬ x.how < 1) (h4 : ¬ 3 < x.how) : askB x = true := by
  unfold askB
  rw [decide_eq_true (by omega), decide_eq_true (by omega)]; rfl
theorem dor_any (s : St) (A : Option Addr) (n c : Nat) (B : Option Addr) (m d : Nat) (t : Tx) (A1 : Option Addr) (n1 c1 : Nat) (B1 : Option Addr) (m1 d1 : Nat) (C1 : Option Addr) (o1 e1 : Nat) (w : World) (h : StAt w s A n c B m d) (g : TxAt w t A1 n1 c1 B1 m1 d1 C1 o1 e1) (hs : MaySt s) :
    Calls Try.prog 39 #[s.agg A n c B m d, t.agg A1 n1 c1 B1 m1 d1 C1 o1 e1] w (DoEnd s t w) := by
  have hn1 := Nat.le_trans g.iff.row.le g.iff.row.max
  have hm1 := Nat.le_trans g.thn.le g.thn.max
  have ho1 := Nat.le_trans g.els.le g.els.max
  unfold maxLen at hn1 hm1 ho1
  have l1 := g.iff.row.len; have l2 := g.thn.len; have l3 := g.els.len
  have HH := Lib.hid h; have GG := Lib.hid g
  have b0 := then_ (then_ (new1 w (.cells (stCells s A n c B m d) 25)) (new1 _ (.cells (txCells A1 n1 c1 B1 m1 d1 C1 o1 e1) 57))) (new1 _ (.cells zSt 25))
  have B0 := Lib.hid b0
  have B9 := Lib.hid (then_ (then_ (new1 w (.cells (stCells s A n c B m d) 25)) (new1 _ (.cells (txCells A1 n1 c1 B1 m1 d1 C1 o1 e1) 57))) (new1 _ (.cells (stCells s A n c B m d) 25)))
  have S0 := Lib.hid (((own_new w (stCells s A n c B m d) 25).alloc (.cells (txCells A1 n1 c1 B1 m1 d1 C1 o1 e1) 57)).alloc (.cells zSt 25))
  have T0 := Lib.hid ((own_new2 w (.cells (stCells s A n c B m d) 25) (txCells A1 n1 c1 B1 m1 d1 C1 o1 e1) 57).alloc (.cells zSt 25))
  have R0 := Lib.hid (own_new3 w (.cells (stCells s A n c B m d) 25) (.cells (txCells A1 n1 c1 B1 m1 d1 C1 o1 e1) 57) zSt 25)
  have hk := h.kv.len; have hv := h.ev.len; have hk2 := hs.good.len; have hv2 := hs.len
  have HN : Hid (n + m ≤ 900000) := Lib.hid (by omega)
  have HS := Lib.hid hs
  have GC := Lib.hid (g.iff.keep b0)
  have GL := Lib.hid l1
  clear h g b0 hk hv hk2 hv2 hs
  by_cases h1 : n1 ≤ 4
  case neg =>
    have DB := Lib.hid (do_bad (s := s) (txMay_long (t := t) (by omega)))
    clear l1 l2 l3
    go_enter Try.func39, Try.ntmps39
    go_wp2
    refine bodyPost_ret (v := .tuple #[s.agg A n c B m d, .bool false, .slice none 0 0, .int .i64 1]) (by simp [results, Try.results39, go_sem]) rfl (DoEnd.mk DB.out.1 DB.out.2.2.2 DB.out.2.1 DB.out.2.2.1 rfl (HH.out.keep B9.out) (evs_bare _) B9.out)
  by_cases h2 : m1 ≤ 4
  case neg =>
    have DB := Lib.hid (do_bad (s := s) (txMay_long (t := t) (by omega)))
    clear l1 l2 l3
    go_enter Try.func39, Try.ntmps39
    go_wp2
    refine bodyPost_ret (v := .tuple #[s.agg A n c B m d, .bool false, .slice none 0 0, .int .i64 1]) (by simp [results, Try.results39, go_sem]) rfl (DoEnd.mk DB.out.1 DB.out.2.2.2 DB.out.2.1 DB.out.2.2.1 rfl (HH.out.keep B9.out) (evs_bare _) B9.out)
  by_cases h3 : o1 ≤ 4
  case neg =>
    have DB := Lib.hid (do_bad (s := s) (txMay_long (t := t) (by omega)))
    clear l1 l2 l3
    go_enter Try.func39, Try.ntmps39
    go_wp2
    refine bodyPost_ret (v := .tuple #[s.agg A n c B m d, .bool false, .slice none 0 0, .int .i64 1]) (by simp [results, Try.results39, go_sem]) rfl (DoEnd.mk DB.out.1 DB.out.2.2.2 DB.out.2.1 DB.out.2.2.1 rfl (HH.out.keep B9.out) (evs_bare _) B9.out)
  have HR : Hid (txMayB t = t.iff.all askB) := Lib.hid (txMay_short (by omega))
  clear l1 l2 l3
  go_enter Try.func39, Try.ntmps39
  go_wp2
  go_loop [8] (fun i => ∃ k : Nat, k ≤ n1 ∧ i = .int .i64 k ∧ AllTo askB t.iff k) (fun i => n1 - (intOf i).toNat)
  case atStart => exact ⟨0, Nat.zero_le _, rfl, rfl⟩
  case round =>
    obtain ⟨k, hk, rfl, hall⟩ := hrel
    have HA := Lib.hid hall
    clear hall
    by_cases hlt : k < n1
    · obtain ⟨a, x, rfl, hbl, hx, hok, hc⟩ := GC.out.at_ hlt
      obtain ⟨g0, g1, g2, g3, g4⟩ := hc
      have HX := Lib.hid hx
      clear hx hok hbl
      by_cases y1 : x.what < 1
      · have DB := Lib.hid (do_bad (s := s) (by rw [HR.out]; exact all_stop_s _ _ k x HX.out (askB_false (by omega))))
        go_wp2
        refine bodyPost_ret (v := .tuple #[s.agg A n c B m d, .bool false, .slice none 0 0, .int .i64 1]) (by simp [results, Try.results39, go_sem]) rfl (DoEnd.mk DB.out.1 DB.out.2.2.2 DB.out.2.1 DB.out.2.2.1 rfl (HH.out.keep B9.out) (evs_bare _) B9.out)
      by_cases y2 : 4 < x.what
      · have DB := Lib.hid (do_bad (s := s) (by rw [HR.out]; exact all_stop_s _ _ k x HX.out (askB_false (by omega))))
        go_wp2
        refine bodyPost_ret (v := .tuple #[s.agg A n c B m d, .bool false, .slice none 0 0, .int .i64 1]) (by simp [results, Try.results39, go_sem]) rfl (DoEnd.mk DB.out.1 DB.out.2.2.2 DB.out.2.1 DB.out.2.2.1 rfl (HH.out.keep B9.out) (evs_bare _) B9.out)
      by_cases y3 : x.how < 1
      · have DB := Lib.hid (do_bad (s := s) (by rw [HR.out]; exact all_stop_s _ _ k x HX.out (askB_false (by omega))))
        go_wp2
        refine bodyPost_ret (v := .tuple #[s.agg A n c B m d, .bool false, .slice none 0 0, .int .i64 1]) (by simp [results, Try.results39, go_sem]) rfl (DoEnd.mk DB.out.1 DB.out.2.2.2 DB.out.2.1 DB.out.2.2.1 rfl (HH.out.keep B9.out) (evs_bare _) B9.out)
      by_cases y4 : 3 < x.how
      · have DB := Lib.hid (do_bad (s := s) (by rw [HR.out]; exact all_stop_s _ _ k x HX.out (askB_false (by omega))))
        go_wp2
        refine bodyPost_ret (v := .tuple #[s.agg A n c B m d, .bool false, .slice none 0 0, .int .i64 1]) (by simp [results, Try.results39, go_sem]) rfl (DoEnd.mk DB.out.1 DB.out.2.2.2 DB.out.2.1 DB.out.2.2.1 rfl (HH.out.keep B9.out) (evs_bare _) B9.out)
      have HW : Hid (AllTo askB t.iff (k + 1)) := Lib.hid (by show _ = true; rw [all_take_s _ _ _ x HX.out, HA.out.out, askB_true y1 y2 y3 y4]; rfl)
      go_wp2
      go_round
      case rel => exact ⟨k + 1, by omega, by go_num, HW.out⟩
      case measure => simp [intOf]; omega
    · obtain rfl : n1 = k := by omega
      have DP := Lib.hid (do_parts (s := s) (t := t) (by rw [HR.out]; have h' := HA.out.out; rwa [take_full _ _ GL.out] at h'))
      clear HA hlt hk
      go_wp2
      obtain ⟨W3, hW3⟩ : ∃ W3, W3 = ((w.alloc (.cells (stCells s A n c B m d) 25)).alloc (.cells (txCells A1 n1 c1 B1 m1 d1 C1 o1 e1) 57)).alloc (.cells zSt 25) := ⟨_, rfl⟩
      have B3 : Hid (Below w.heap.size w W3) := Lib.hid (by rw [hW3]; exact B0.out)
      have Q3 : Hid (Own W3 w.heap.size 25 (stCells s A n c B m d)) := Lib.hid (by rw [hW3]; exact S0.out)
      have T3 : Hid (Own W3 (w.heap.size + 1) 57 (txCells A1 n1 c1 B1 m1 d1 C1 o1 e1)) := Lib.hid (by rw [hW3]; exact T0.out)
      have R3 : Hid (Own W3 (w.heap.size + 1 + 1) 25 zSt) := Lib.hid (by rw [hW3]; exact R0.out)
      first | (rw [← hW3]) | (show Code.wp _ _ _ _ W3)
      clear hW3
      have lq := Q3.out.lt; have lt := T3.out.lt
      have q0 := Q3.out.cell 0 _ rfl
      have q1 := Q3.out.cell 1 _ rfl
      have q2 := Q3.out.cell 2 _ rfl
      have q3 := Q3.out.cell 3 _ rfl
      have t0 := T3.out.cell 0 _ rfl
      have tkn : True := trivial
      have tka : True := trivial
      go_region_held3 (fun w' => w'.cell? ⟨w.heap.size, 0, none⟩ = some (.int .i64 s.rev) ∧ w'.cell? ⟨w.heap.size, 1, none⟩ = some (.int .i64 s.low) ∧ w'.cell? ⟨w.heap.size, 2, none⟩ = some (.slice A n c) ∧ w'.cell? ⟨w.heap.size, 3, none⟩ = some (.slice B m d) ∧ w'.cell? ⟨w.heap.size + 1, 0, none⟩ = some (.slice A1 n1 c1)) (go_keep) (first
        | (go_at_call 23; have _t := tkn; clear _t tkn; (with_reducible refine (now_ref s A n c B m d _ (HH.out.keep (then_ B3.out (new_drew W3))) HN.out).mono ?_); rintro e w4 ⟨A4, n4, c4, rfl, h4, hb⟩; have HB4 := Lib.hid (then_ (new_drew W3) hb); have K4 := Lib.hid h4; clear hb h4; obtain ⟨hc4, hf4⟩ := bcell HB4.out)
        | (go_at_call 36; have _t := tka; clear _t tka; (with_reducible refine (all_ref A4 n4 c4 (nowL s) A1 n1 c1 t.iff _ K4.out (GG.out.iff.keep (then_ B3.out HB4.out)) (by have h1 := K4.out.len; have h2 := HS.out.now.len; omega)).mono ?_); rintro e w5 ⟨rfl, hb⟩; have HB5 := Lib.hid (then_ HB4.out hb); clear hb hc4 hf4; obtain ⟨hc5, hf5⟩ := bcell HB5.out))
      all_goals
        have B5 := Lib.hid (then_ B3.out HB5.out)
        have Q5 := Lib.hid (Q3.out.below HB5.out); have T5 := Lib.hid (T3.out.below HB5.out); have R5 := Lib.hid (R3.out.below HB5.out)
        clear hc5 hf5 q0 q1 q2 q3 t0
        have q0 := Q5.out.cell 0 _ rfl
        have q1 := Q5.out.cell 1 _ rfl
        have q2 := Q5.out.cell 2 _ rfl
        have q3 := Q5.out.cell 3 _ rfl
        have t1 := T5.out.cell 1 _ rfl
        have t2 := T5.out.cell 2 _ rfl
        cases ha : allB (nowL s) t.iff with
        | true =>
          have HP : Hid (pickL s t = t.thn) := Lib.hid (if_pos ha)
          have HA := Lib.hid ha
          clear ha
          go_wp2_with fail
          refine (apply_ref s A n c B m d B1 m1 d1 t.thn _ (HH.out.keep B5.out) (GG.out.thn.keep B5.out) HS.out).mono ?_; rintro e w6 ⟨A6, n6, c6, B6, m6, d6, E6, en6, ec6, rfl, h6, v6, hb⟩
          have B7 := Lib.hid (then_ B5.out hb)
          have R7 := Lib.hid (R5.out.below hb)
          have Q7 := Lib.hid (Q5.out.below hb)
          have X7 := Lib.hid (own_new w6 #[.int .i64 (applyS s t.thn).rev, .int .i64 (applyS s t.thn).low, .slice A6 n6 c6, .slice B6 m6 d6] 25)
          have L7 := Lib.hid h6
          have V7 := Lib.hid v6
          have hlr := (R5.out.below hb).lt
          have hlq := (Q5.out.below hb).lt
          clear hb h6 v6 q0 q1 q2 q3 t1 t2
          have x0 := X7.out.cell 0 _ rfl
          have x1 := X7.out.cell 1 _ rfl
          have x2 := X7.out.cell 2 _ rfl
          have x3 := X7.out.cell 3 _ rfl
          have q0 := Q7.out.cell 0 _ rfl
          have q1 := Q7.out.cell 1 _ rfl
          have q2 := Q7.out.cell 2 _ rfl
          have q3 := Q7.out.cell 3 _ rfl
          have f := R7.out.frozen
          have r0 := R7.out.cell 0 _ rfl
          have r1 := R7.out.cell 1 _ rfl
          have r2 := R7.out.cell 2 _ rfl
          have r3 := R7.out.cell 3 _ rfl
          by_cases hE : applyE s t.thn = 0
          · have HE := Lib.hid hE
            have hE1 : (applyE s t.thn != 0) = false := by simp [hE]
            clear hE
            go_wp2
            refine bodyPost_ret (v := .tuple #[(applyS s t.thn).agg A6 n6 c6 B6 m6 d6, .bool true, .slice E6 en6 ec6, .int .i64 0]) (by simp [results, Try.results39, go_sem, r0, r1, r2, r3, hlr, Nat.ne_of_lt hlr, Nat.ne_of_gt hlr]) rfl (DoEnd.mk (by rw [DP.out.1, HP.out]) (by rw [DP.out.2.2.2, HP.out, HA.out, HE.out]; rfl) (by rw [DP.out.2.1, HP.out]) (by rw [DP.out.2.2.1, HP.out, HE.out]) rfl ((st_after4 L7.out R7.out _ _ _ _).keep (new1 _ _)) ((evs_after4 V7.out (ev_ne V7.out R7.out z_bool) _ _ _ _).keep (new1 _ _)) (then_ (below_set4 B7.out (by omega) _ _ _ _) (new1 _ _)))
          · have hE1 : (applyE s t.thn != 0) = true := by simp [hE]
            have DS := Lib.hid (do_same (s := s) (t := t) (by rw [DP.out.2.2.1, HP.out]; exact hE))
            clear hE
            go_wp2
            refine bodyPost_ret (v := .tuple #[s.agg A n c B m d, .bool false, .slice none 0 0, .int .i64 (applyE s t.thn)]) (by simp [results, Try.results39, go_sem, r0, r1, r2, r3, hlr, Nat.ne_of_lt hlr, Nat.ne_of_gt hlr]) rfl (DoEnd.mk DS.out.1 DS.out.2.2 DS.out.2.1 (by rw [DP.out.2.2.1, HP.out]) rfl ((st_after4 (HH.out.keep B7.out) R7.out _ _ _ _).keep (new1 _ _)) (evs_bare _) (then_ (below_set4 B7.out (by omega) _ _ _ _) (new1 _ _)))
        | false =>
          have HP : Hid (pickL s t = t.els) := Lib.hid (if_neg (by rw [ha]; simp))
          have HA := Lib.hid ha
          clear ha
          go_wp2_with fail
          refine (apply_ref s A n c B m d C1 o1 e1 t.els _ (HH.out.keep B5.out) (GG.out.els.keep B5.out) HS.out).mono ?_; rintro e w6 ⟨A6, n6, c6, B6, m6, d6, E6, en6, ec6, rfl, h6, v6, hb⟩
          have B7 := Lib.hid (then_ B5.out hb)
          have R7 := Lib.hid (R5.out.below hb)
          have Q7 := Lib.hid (Q5.out.below hb)
          have X7 := Lib.hid (own_new w6 #[.int .i64 (applyS s t.els).rev, .int .i64 (applyS s t.els).low, .slice A6 n6 c6, .slice B6 m6 d6] 25)
          have L7 := Lib.hid h6
          have V7 := Lib.hid v6
          have hlr := (R5.out.below hb).lt
          have hlq := (Q5.out.below hb).lt
          clear hb h6 v6 q0 q1 q2 q3 t1 t2
          have x0 := X7.out.cell 0 _ rfl
          have x1 := X7.out.cell 1 _ rfl
          have x2 := X7.out.cell 2 _ rfl
          have x3 := X7.out.cell 3 _ rfl
          have q0 := Q7.out.cell 0 _ rfl
          have q1 := Q7.out.cell 1 _ rfl
          have q2 := Q7.out.cell 2 _ rfl
          have q3 := Q7.out.cell 3 _ rfl
          have f := R7.out.frozen
          have r0 := R7.out.cell 0 _ rfl
          have r1 := R7.out.cell 1 _ rfl
          have r2 := R7.out.cell 2 _ rfl
          have r3 := R7.out.cell 3 _ rfl
          by_cases hE : applyE s t.els = 0
          · have HE := Lib.hid hE
            have hE1 : (applyE s t.els != 0) = false := by simp [hE]
            clear hE
            go_wp2
            refine bodyPost_ret (v := .tuple #[(applyS s t.els).agg A6 n6 c6 B6 m6 d6, .bool false, .slice E6 en6 ec6, .int .i64 0]) (by simp [results, Try.results39, go_sem, r0, r1, r2, r3, hlr, Nat.ne_of_lt hlr, Nat.ne_of_gt hlr]) rfl (DoEnd.mk (by rw [DP.out.1, HP.out]) (by rw [DP.out.2.2.2, HP.out, HA.out, HE.out]; rfl) (by rw [DP.out.2.1, HP.out]) (by rw [DP.out.2.2.1, HP.out, HE.out]) rfl ((st_after4 L7.out R7.out _ _ _ _).keep (new1 _ _)) ((evs_after4 V7.out (ev_ne V7.out R7.out z_bool) _ _ _ _).keep (new1 _ _)) (then_ (below_set4 B7.out (by omega) _ _ _ _) (new1 _ _)))
          · have hE1 : (applyE s t.els != 0) = true := by simp [hE]
            have DS := Lib.hid (do_same (s := s) (t := t) (by rw [DP.out.2.2.1, HP.out]; exact hE))
            clear hE
            go_wp2
            refine bodyPost_ret (v := .tuple #[s.agg A n c B m d, .bool false, .slice none 0 0, .int .i64 (applyE s t.els)]) (by simp [results, Try.results39, go_sem, r0, r1, r2, r3, hlr, Nat.ne_of_lt hlr, Nat.ne_of_gt hlr]) rfl (DoEnd.mk DS.out.1 DS.out.2.2 DS.out.2.1 (by rw [DP.out.2.2.1, HP.out]) rfl ((st_after4 (HH.out.keep B7.out) R7.out _ _ _ _).keep (new1 _ _)) (evs_bare _) (then_ (below_set4 B7.out (by omega) _ _ _ _) (new1 _ _)))
end Go.Proofs.Ytlffhehpeeiogaa.P
