/- Which stores may be: the program goes through the history. -/
import Derived.Test.YtgafkpngnoecaaaMvMay
import Derived.Deep.RegionHeld3
namespace Go.Proofs.Ytgafkpngnoecaaa.P
open Go.RowKit Go.Sort
set_option maxHeartbeats 1000000
set_option linter.unusedVariables false
set_option linter.unusedSimpArgs false
set_option maxRecDepth 100000

theorem new_drew (w : World) : Below w.heap.size w w.drew := Below.drew (Below.refl _ _)
theorem below_drews (w : World) (q : Nat) : Below w.heap.size w (w.drewN q) := below_drewN (Below.refl _ _) q
/-- How far the history was gone through: what there is, and the least revision that may come. -/
structure LogTo (s : St) (k : Nat) (L : List KV) (least : Int) : Prop where
  now : L = (s.log.take k).foldl afterE s.base
  last : least = lastR (s.low + 1) (s.log.take k)
  may : mayLogB s.rev s.base (s.low + 1) (s.log.take k) = true
theorem LogTo.zero (s : St) : LogTo s 0 s.base (s.low + 1) := ⟨by simp, by simp [lastR], by simp [mayLogB]⟩
theorem mayLog_at {s : St} {k : Nat} {L : List KV} {least : Int} {e : Ev} (h : LogTo s k L least) (he : s.log[k]? = some e) :
    mayLogB s.rev s.base (s.low + 1) (s.log.take (k + 1)) = true ↔ least ≤ e.rev ∧ e.rev ≤ s.rev ∧ RightE L e ∧ (afterE L e).length ≤ 30 := by
  rw [take_succ s.log k e he, mayLog_app, ← h.now, ← h.last, mayLog_cons]
  constructor
  · rintro ⟨_, a, b, c, d, _⟩; exact ⟨a, b, c, d⟩
  · rintro ⟨a, b, c, d⟩; exact ⟨h.may, a, b, c, d, rfl⟩
theorem LogTo.next {s : St} {k : Nat} {L : List KV} {least : Int} {e : Ev} (h : LogTo s k L least) (he : s.log[k]? = some e) (h1 : least ≤ e.rev) (h2 : e.rev ≤ s.rev) (h3 : RightE L e) (h4 : (afterE L e).length ≤ 30) : LogTo s (k + 1) (afterE L e) e.rev :=
  ⟨by rw [take_succ s.log k e he, List.foldl_append, ← h.now]; rfl, by rw [take_succ s.log k e he]; simp [lastR], (mayLog_at h he).2 ⟨h1, h2, h3, h4⟩⟩
theorem mayLog_pre {s : St} {k : Nat} (h : mayLogB s.rev s.base (s.low + 1) (s.log.take k) = false) : mayLogB s.rev s.base (s.low + 1) s.log = false := by
  cases hm : mayLogB s.rev s.base (s.low + 1) s.log with
  | false => rfl
  | true =>
    rw [← List.take_append_drop k s.log, mayLog_app] at hm
    rw [hm.1] at h; cases h
theorem LogTo.fail {s : St} {k : Nat} {L : List KV} {least : Int} {e : Ev} (h : LogTo s k L least) (he : s.log[k]? = some e) (hn : ¬ (least ≤ e.rev ∧ e.rev ≤ s.rev ∧ RightE L e ∧ (afterE L e).length ≤ 30)) : mayLogB s.rev s.base (s.low + 1) s.log = false :=
  mayLog_pre (k := k + 1) (by
    cases hm : mayLogB s.rev s.base (s.low + 1) (s.log.take (k + 1)) with
    | false => rfl
    | true => exact absurd ((mayLog_at h he).1 hm) hn)
theorem LogTo.good {s : St} {k : Nat} {L : List KV} {least : Int} (h : LogTo s k L least) (hb : baseB s.base s.low = true) : ∃ top, Good L top := by
  unfold baseB at hb
  simp only [Bool.and_eq_true, decide_eq_true_eq, List.all_eq_true] at hb
  exact ⟨_, by rw [h.now]; exact good_fold _ _ _ s.low ⟨hb.1.2, hb.1.1, hb.2⟩ (by omega) h.may⟩
theorem Good.vers {l : List KV} {top : Int} (h : Good l top) : ∀ y ∈ l, 0 ≤ y.ver ∧ y.ver ≤ 1152921504606846976 := fun y hy => by
  obtain ⟨_, a, b, c, d, e, _, _⟩ := one_p (may_one h.may y hy)
  exact ⟨by omega, by omega⟩
noncomputable def logB (s : St) : Bool := decide (s.log.length ≤ 60) && mayLogB s.rev s.base (s.low + 1) s.log
theorem log_any (s : St) (A : Option Addr) (n c : Nat) (B : Option Addr) (m d : Nat) (w : World) (h : StAt w s A n c B m d) (hb : baseB s.base s.low = true) (hlo : 0 ≤ s.low) (hr : s.rev ≤ 1099511627774) (hle : s.low ≤ s.rev) :
    Calls Try.prog 46 #[s.agg A n c B m d] w fun e w' => e = .returned (.bool (logB s)) ∧ Below w.heap.size w w' := by
  have hlen := h.ev.len
  have hm := Nat.le_trans h.ev.le h.ev.max
  unfold maxLen at hm
  have H := Lib.hid (h.keep (new1 w (.cells #[.int .i64 s.rev, .int .i64 s.low, .slice A n c, .slice B m d] 25)))
  have O0 := Lib.hid (own_new w #[.int .i64 s.rev, .int .i64 s.low, .slice A n c, .slice B m d] 25)
  have HBB := Lib.hid hb
  clear h hb
  by_cases h60 : m ≤ 60
  · have HR : Hid (logB s = mayLogB s.rev s.base (s.low + 1) s.log) := Lib.hid (by unfold logB; rw [hlen]; simp [h60])
    have HLEN := Lib.hid hlen
    clear hlen
    go_enter Try.func46, Try.ntmps46
    go_wp2
    go_quiet (fail)
    have HQ := Lib.hid (then_ (new1 w (.cells #[.int .i64 s.rev, .int .i64 s.low, .slice A n c, .slice B m d] 25)) (below_drews _ nq))
    have H1 := Lib.hid (H.out.keep (below_drews _ nq))
    have O1 := Lib.hid (O0.out.below (below_drews _ nq))
    obtain ⟨w1, hw1⟩ : ∃ w1 : World, w1 = (w.alloc (.cells #[.int .i64 s.rev, .int .i64 s.low, .slice A n c, .slice B m d] 25)).drewN nq := ⟨_, rfl⟩
    rw [← hw1] at HQ H1 O1 ⊢
    clear hw1
    have q3 := O1.out.cell 3 _ rfl
    go_wp2
    go_loopw [3, 4, 19] (fun l least i wr => ∃ (k : Nat) (A' : Option Addr) (n' c' : Nat) (L : List KV) (r : Int), k ≤ m ∧ i = .int .i64 k ∧ l = .slice A' n' c' ∧ least = .int .i64 r ∧ KVs wr A' n' c' L ∧ LogTo s k L r ∧ Below w1.heap.size w1 wr) (fun _ _ i _ => m - (intOf i).toNat)
    case atStart => exact ⟨0, A, n, c, s.base, s.low + 1, Nat.zero_le _, rfl, rfl, rfl, H1.out.kv, LogTo.zero s, Below.refl _ _⟩
    case round =>
      obtain ⟨k, A', n', c', L, r, hk, rfl, rfl, rfl, hkv, hlg, hbel⟩ := hrel
      have HK := Lib.hid hkv; have HG := Lib.hid hlg; have HB := Lib.hid hbel
      obtain ⟨top, hgood⟩ := hlg.good HBB.out
      have hnl : n' ≤ 30 := by rw [← hkv.len]; exact hgood.len
      have VERS := Lib.hid hgood.vers
      have BW := Lib.hid (then_ HQ.out hbel)
      have O2 := Lib.hid (O1.out.below hbel)
      clear hkv hlg hbel hgood q3
      by_cases hlt : k < m
      · obtain ⟨a, x, rfl, hbl, hx, hok, hc⟩ := (H1.out.ev.keep HB.out).at_ hlt
        obtain ⟨c0, c1, c2, c3, c4, c5, c6, c7⟩ := hc
        have HX := Lib.hid hx; have OKX := Lib.hid hok
        have BN := Lib.hid (then_ BW.out (new1 wr (x.obj 74)))
        have f0 := (O2.out.alloc (x.obj 74)).cell 0 _ rfl
        clear hx hok hbl
        by_cases h1 : x.rev < r
        · have HF := Lib.hid (HG.out.fail HX.out (by rintro ⟨a, _⟩; omega))
          go_wp2
          go_ret
          exact ⟨retB (by rw [HR.out, HF.out]), BN.out⟩
        · by_cases h2 : s.rev < x.rev
          · have HF := Lib.hid (HG.out.fail HX.out (by rintro ⟨_, a, _⟩; omega))
            go_wp2
            go_ret
            exact ⟨retB (by rw [HR.out, HF.out]), BN.out⟩
          · have t := right_any A' n' c' L x (wr.alloc (x.obj 74)) (HK.out.keep (new1 wr _)) OKX.out (by omega) VERS.out
            have TT := Lib.hid t
            clear t
            cases hr : rightB L x with
            | false =>
              have HRX := Lib.hid hr
              have HF := Lib.hid (HG.out.fail HX.out (by rintro ⟨_, _, a, _⟩; rw [← right_iff, hr] at a; cases a))
              clear hr
              go_wp2_with fail
              refine TT.out.mono ?_; rintro e w2 ⟨rfl, hb⟩
              rw [HRX.out]
              have BL := Lib.hid (then_ BN.out hb); clear hb
              go_wp2
              go_ret
              exact ⟨retB (by rw [HR.out, HF.out]), BL.out⟩
            | true =>
              have HRX := Lib.hid hr
              have RE := Lib.hid (right_iff.1 hr)
              clear hr
              go_wp2_with fail
              refine TT.out.mono ?_; rintro e w2 ⟨rfl, hb⟩
              rw [HRX.out]
              have BL := Lib.hid (then_ BN.out hb)
              have B2 := Lib.hid (then_ (then_ HB.out (new1 wr _)) hb)
              have K2 := Lib.hid ((HK.out.keep (new1 wr (x.obj 74))).keep hb)
              have g := ((own_new wr #[.int .i64 x.rev, .bool x.gone, .string x.kv.key, .string x.kv.val, .int .i64 x.kv.cre, .int .i64 x.kv.mod, .int .i64 x.kv.ver, .int .i64 x.kv.lea] 74).below hb).cell
              have g0 : w2.cell? ⟨wr.heap.size, 0, none⟩ = some (.int .i64 x.rev) := g 0 _ rfl
              have g1 : w2.cell? ⟨wr.heap.size, 1, none⟩ = some (.bool x.gone) := g 1 _ rfl
              have g2 : w2.cell? ⟨wr.heap.size, 2, none⟩ = some (.string x.kv.key) := g 2 _ rfl
              have g3 : w2.cell? ⟨wr.heap.size, 3, none⟩ = some (.string x.kv.val) := g 3 _ rfl
              have g4 : w2.cell? ⟨wr.heap.size, 4, none⟩ = some (.int .i64 x.kv.cre) := g 4 _ rfl
              have g5 : w2.cell? ⟨wr.heap.size, 5, none⟩ = some (.int .i64 x.kv.mod) := g 5 _ rfl
              have g6 : w2.cell? ⟨wr.heap.size, 6, none⟩ = some (.int .i64 x.kv.ver) := g 6 _ rfl
              have g7 : w2.cell? ⟨wr.heap.size, 7, none⟩ = some (.int .i64 x.kv.lea) := g 7 _ rfl
              have hlw : wr.heap.size < w2.heap.size := by have := hb.size; simp at this; omega
              clear hb g
              go_wp2
              go_region_held3 (fun w' => w'.cell? ⟨wr.heap.size, 0, none⟩ = some (.int .i64 x.rev) ∧ w'.cell? ⟨wr.heap.size, 1, none⟩ = some (.bool x.gone) ∧ w'.cell? ⟨wr.heap.size, 2, none⟩ = some (.string x.kv.key) ∧ w'.cell? ⟨wr.heap.size, 3, none⟩ = some (.string x.kv.val) ∧ w'.cell? ⟨wr.heap.size, 4, none⟩ = some (.int .i64 x.kv.cre) ∧ w'.cell? ⟨wr.heap.size, 5, none⟩ = some (.int .i64 x.kv.mod) ∧ w'.cell? ⟨wr.heap.size, 6, none⟩ = some (.int .i64 x.kv.ver) ∧ w'.cell? ⟨wr.heap.size, 7, none⟩ = some (.int .i64 x.kv.lea)) (go_keep) (first
                | (go_at_call 69; refine (behind_any A' n' c' L x _ (K2.out.keep (new_drew w2)) OKX.out (by omega)).mono ?_; rintro e w3 ⟨A3, n3, d3, rfl, h3, hb3⟩; have K3 := Lib.hid h3; have HB3 : Hid (Below w2.heap.size w2 w3) := Lib.hid (then_ (new_drew w2) hb3); clear h3 hb3; obtain ⟨hc3, hf3⟩ := bcell HB3.out))
              all_goals
                by_cases h30 : n3 ≤ 30
                · have HN := Lib.hid (HG.out.next HX.out (by omega) (by omega) RE.out (by rw [K3.out.len]; exact h30))
                  have BX := Lib.hid (then_ B2.out HB3.out)
                  go_wp2
                  go_roundw
                  case rel => exact ⟨k + 1, A3, n3, d3, _, x.rev, by omega, by go_num, rfl, rfl, K3.out, HN.out, BX.out⟩
                  case measure => simp [intOf]; omega
                · have HF := Lib.hid (HG.out.fail HX.out (by rintro ⟨_, _, _, a⟩; rw [K3.out.len] at a; omega))
                  have BX := Lib.hid (then_ BL.out HB3.out)
                  go_wp2
                  go_ret
                  exact ⟨retB (by rw [HR.out, HF.out]), BX.out⟩
      · have e : k = m := by omega
        subst e
        have HT : Hid (mayLogB s.rev s.base (s.low + 1) s.log = true) := Lib.hid (by have := HG.out.may; rwa [take_full s.log k HLEN.out] at this)
        go_wp2
        go_ret
        exact ⟨retB (by rw [HR.out, HT.out]), BW.out⟩
  · have HR : Hid (logB s = false) := Lib.hid (by unfold logB; rw [hlen]; simp [h60])
    clear hlen
    go_enter Try.func46, Try.ntmps46
    go_wp2
    go_ret
    exact ⟨retB HR.out.symm, new1 w _⟩

theorem mayB_parts (s : St) : mayB s = (decide (0 ≤ s.low ∧ s.low ≤ s.rev ∧ s.rev ≤ 1099511627774) && (baseB s.base s.low && logB s)) := by
  unfold mayB baseB logB; simp only [Bool.and_assoc]
theorem mayB_no {s : St} (h : ¬ (0 ≤ s.low ∧ s.low ≤ s.rev ∧ s.rev ≤ 1099511627774)) : mayB s = false := by rw [mayB_parts]; simp only [h, decide_false, Bool.false_and]
theorem mvmay_any (s : St) (A : Option Addr) (n c : Nat) (B : Option Addr) (m d : Nat) (w : World) (h : StAt w s A n c B m d) :
    Calls Try.prog 12 #[s.agg A n c B m d] w fun e w' => e = .returned (.bool (mayB s)) ∧ Below w.heap.size w w' := by
  obtain ⟨r1, r2⟩ := h.rev; obtain ⟨l1, l2⟩ := h.low
  by_cases p1 : 0 ≤ s.low
  · by_cases p2 : s.low ≤ s.rev
    · by_cases p3 : s.rev ≤ 1099511627774
      · have H := Lib.hid (h.keep (new1 w (.cells #[.int .i64 s.rev, .int .i64 s.low, .slice A n c, .slice B m d] 25)))
        have O0 := Lib.hid (own_new w #[.int .i64 s.rev, .int .i64 s.low, .slice A n c, .slice B m d] 25)
        have t := base_any A n c s.base s.low (w.alloc (.cells #[.int .i64 s.rev, .int .i64 s.low, .slice A n c, .slice B m d] 25)) H.out.kv
        have HP : mayB s = (baseB s.base s.low && logB s) := by rw [mayB_parts]; simp [p1, p2, p3]
        cases hb : baseB s.base s.low with
        | false =>
          have HR : Hid (mayB s = false) := Lib.hid (by rw [HP, hb]; rfl)
          rw [hb] at t
          have TT := Lib.hid t
          clear t hb HP h
          go_enter Try.func12, Try.ntmps12
          go_wp2_with fail
          refine TT.out.mono ?_; rintro e w1 ⟨rfl, hb⟩
          have HB := Lib.hid (then_ (new1 w _) hb); clear hb
          go_wp2
          go_ret
          exact ⟨retB HR.out.symm, HB.out⟩
        | true =>
          have HR : Hid (mayB s = logB s) := Lib.hid (by rw [HP, hb]; rfl)
          have HBB := Lib.hid hb
          rw [hb] at t
          have TT := Lib.hid t
          clear t hb HP h
          go_enter Try.func12, Try.ntmps12
          go_wp2_with fail
          refine TT.out.mono ?_; rintro e w1 ⟨rfl, hb⟩
          have HB := Lib.hid (then_ (new1 w _) hb)
          have H1 := Lib.hid (H.out.keep hb)
          have O1 := Lib.hid (O0.out.below hb)
          have q0 := O1.out.cell 0 _ rfl
          have q1 := O1.out.cell 1 _ rfl
          have q2 := O1.out.cell 2 _ rfl
          have q3 := O1.out.cell 3 _ rfl
          clear hb
          go_wp2_with fail
          refine (log_any s A n c B m d w1 H1.out HBB.out p1 p3 p2).mono ?_; rintro e w2 ⟨rfl, hb⟩
          have HB2 := Lib.hid (then_ HB.out hb); clear hb
          go_wp2
          go_ret
          exact ⟨retB HR.out.symm, HB2.out⟩
      · have HR : Hid (mayB s = false) := Lib.hid (mayB_no (by omega))
        clear h
        go_enter Try.func12, Try.ntmps12
        go_wp2
        go_ret
        exact ⟨retB HR.out.symm, new1 w _⟩
    · have HR : Hid (mayB s = false) := Lib.hid (mayB_no (by omega))
      clear h
      go_enter Try.func12, Try.ntmps12
      go_wp2
      go_ret
      exact ⟨retB HR.out.symm, new1 w _⟩
  · have HR : Hid (mayB s = false) := Lib.hid (mayB_no (by omega))
    clear h
    go_enter Try.func12, Try.ntmps12
    go_wp2
    go_ret
    exact ⟨retB HR.out.symm, new1 w _⟩
end Go.Proofs.Ytgafkpngnoecaaa.P
