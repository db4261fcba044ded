/- Whether a store may be: the document's answer. -/
import Derived.Test.YtkikfaeigoeogaaMvRefRight
import Derived.Deep.RegionHeld3
namespace Go.Proofs.Ytkikfaeigoeogaa.P
open Go.RowKit Go.Sort
set_option maxHeartbeats 1000000
set_option linter.unusedVariables false
set_option linter.unusedSimpArgs false
set_option maxRecDepth 100000

theorem evs_cut {w : World} {a : Addr} {m d k : Nat} {l : List Ev} {x : Ev} (h : Evs w (some a) m d l) (hk : k < m) (hx : l[k]? = some x) : Evs w (some (a.add (k * 8))) 1 (d - k) [x] := by
  obtain ⟨a', y, e, hb, hy, ok, hc⟩ := h.at_ hk
  obtain rfl := Option.some.inj e
  obtain rfl : x = y := Option.some.inj (hx.symm.trans hy)
  refine ⟨rfl, by have := h.le; omega, by have := h.max; omega, fun z hz => by simp at hz; subst hz; exact ok, fun _ => ⟨_, rfl, by rw [block_add]; exact hb, fun i z hi => ?_⟩, fun h => by cases h⟩
  cases i with
  | zero =>
    simp at hi; subst hi
    rw [Nat.zero_mul]
    have e0 : (a.add (k * 8)).add 0 = a.add (k * 8) := by simp [Addr.add]
    rw [e0]; exact hc
  | succ i => simp at hi
/-- Below both what there was and what was last is just below the least that may come. -/
structure LastIs (s : St) (r r' : Int) : Prop where
  iff : ∀ x : Int, (x ≤ s.low ∨ x < r) ↔ x < r'
theorem last_zero (s : St) : LastIs s s.low (s.low + 1) := ⟨fun x => by omega⟩
theorem last_next {s : St} {r : Int} (h : s.low < r) : LastIs s r r := ⟨fun x => by omega⟩
theorem mayB_mods {s : St} (h : (s.base.all fun x => decide (x.mod ≤ s.low)) = false) : mayB s = false := by
  rw [mayB_parts]; unfold baseB; rw [h]; simp
theorem mayB_base {s : St} (h : mayP oneB s.base = false) : mayB s = false := by
  rw [mayB_parts]; unfold baseB; rw [h]; simp
theorem mayB_long {s : St} (h : 30 < s.base.length) : mayB s = false := by
  rw [mayB_parts]; unfold baseB; rw [decide_eq_false (by omega : ¬ s.base.length ≤ 30)]; simp
theorem mayB_logs {s : St} (h : 60 < s.log.length) : mayB s = false := by
  rw [mayB_parts]; unfold logB; rw [decide_eq_false (by omega : ¬ s.log.length ≤ 60)]; simp
theorem mayB_log {s : St} (h1 : 0 ≤ s.low ∧ s.low ≤ s.rev ∧ s.rev ≤ 1099511627774) (h2 : baseB s.base s.low = true) (h3 : s.log.length ≤ 60) : mayB s = mayLogB s.rev s.base (s.low + 1) s.log := by
  rw [mayB_parts, decide_eq_true h1, h2]; unfold logB; rw [decide_eq_true h3]; rfl
theorem base_mk {l : List KV} {low : Int} (h1 : l.length ≤ 30) (h2 : mayP oneB l = true) (h3 : (l.all fun x => decide (x.mod ≤ low)) = true) : baseB l low = true := by
  unfold baseB; rw [decide_eq_true h1, h2, h3]; rfl
theorem mvmay_ref (s : St) (A : Option Addr) (n c : Nat) (B : Option Addr) (m d : Nat) (w : World) (h : StAt w s A n c B m d) (hn : n ≤ 900000) :
    Calls Try.prog 26 #[s.agg A n c B m d] w fun e w' => e = .returned (.bool (mayB s)) ∧ Below w.heap.size w w' := by
  obtain ⟨r1, r2⟩ := h.rev; obtain ⟨l1, l2⟩ := h.low
  have hlen := h.kv.len
  have hlenE := h.ev.len
  have hmm := Nat.le_trans h.ev.le h.ev.max
  unfold maxLen at hmm
  by_cases p1 : 0 ≤ s.low
  case neg =>
    have HR : Hid (mayB s = false) := Lib.hid (mayB_no (by omega))
    clear h hlen hlenE
    go_enter Try.func26, Try.ntmps26
    go_wp2
    go_ret
    exact ⟨retB HR.out.symm, new1 w _⟩
  by_cases p2 : s.low ≤ s.rev
  case neg =>
    have HR : Hid (mayB s = false) := Lib.hid (mayB_no (by omega))
    clear h hlen hlenE
    go_enter Try.func26, Try.ntmps26
    go_wp2
    go_ret
    exact ⟨retB HR.out.symm, new1 w _⟩
  by_cases p3 : s.rev ≤ 1099511627774
  case neg =>
    have HR : Hid (mayB s = false) := Lib.hid (mayB_no (by omega))
    clear h hlen hlenE
    go_enter Try.func26, Try.ntmps26
    go_wp2
    go_ret
    exact ⟨retB HR.out.symm, new1 w _⟩
  have H := Lib.hid (h.keep (new1 w (.cells #[.int .i64 s.rev, .int .i64 s.low, .slice A n c, .slice B m d] 25)))
  have O0 := Lib.hid (own_new w #[.int .i64 s.rev, .int .i64 s.low, .slice A n c, .slice B m d] 25)
  have B0 := Lib.hid (new1 w (.cells #[.int .i64 s.rev, .int .i64 s.low, .slice A n c, .slice B m d] 25))
  clear h
  cases hp : mayP oneB s.base with
  | false =>
    have HR : Hid (mayB s = false) := Lib.hid (mayB_base hp)
    have HP := Lib.hid hp
    clear hp hlen hlenE
    go_enter Try.func26, Try.ntmps26
    go_wp2_with fail
    refine (may_ref A n c s.base _ H.out.kv (by omega)).mono ?_; rintro e w1 ⟨rfl, hb⟩
    rw [HP.out]
    have B1 := Lib.hid (then_ B0.out hb)
    have O1 := Lib.hid (O0.out.below hb)
    clear hb
    have q2 := O1.out.cell 2 _ rfl
    have q3 := O1.out.cell 3 _ rfl
    go_wp2
    go_ret
    exact ⟨retB HR.out.symm, B1.out⟩
  | true =>
    by_cases h30 : n ≤ 30
    case neg =>
      have HR : Hid (mayB s = false) := Lib.hid (mayB_long (by omega))
      have HP := Lib.hid hp
      clear hp hlen hlenE
      go_enter Try.func26, Try.ntmps26
      go_wp2_with fail
      refine (may_ref A n c s.base _ H.out.kv (by omega)).mono ?_; rintro e w1 ⟨rfl, hb⟩
      rw [HP.out]
      have B1 := Lib.hid (then_ B0.out hb)
      have O1 := Lib.hid (O0.out.below hb)
      clear hb
      have q2 := O1.out.cell 2 _ rfl
      have q3 := O1.out.cell 3 _ rfl
      go_wp2
      go_ret
      exact ⟨retB HR.out.symm, B1.out⟩
    by_cases h60 : m ≤ 60
    case neg =>
      have HR : Hid (mayB s = false) := Lib.hid (mayB_logs (by omega))
      have HP := Lib.hid hp
      clear hp hlen hlenE
      go_enter Try.func26, Try.ntmps26
      go_wp2_with fail
      refine (may_ref A n c s.base _ H.out.kv (by omega)).mono ?_; rintro e w1 ⟨rfl, hb⟩
      rw [HP.out]
      have B1 := Lib.hid (then_ B0.out hb)
      have O1 := Lib.hid (O0.out.below hb)
      clear hb
      have q2 := O1.out.cell 2 _ rfl
      have q3 := O1.out.cell 3 _ rfl
      go_wp2
      go_ret
      exact ⟨retB HR.out.symm, B1.out⟩
    have HP := Lib.hid hp
    have HLA := Lib.hid hlen; have HLB := Lib.hid hlenE
    have PP : Hid (0 ≤ s.low ∧ s.low ≤ s.rev ∧ s.rev ≤ 1099511627774) := Lib.hid ⟨p1, p2, p3⟩
    clear hp hlen hlenE
    go_enter Try.func26, Try.ntmps26
    go_wp2_with fail
    refine (may_ref A n c s.base _ H.out.kv (by omega)).mono ?_; rintro e w1 ⟨rfl, hb⟩
    rw [HP.out]
    have B1 := Lib.hid (then_ B0.out hb)
    have O1 := Lib.hid (O0.out.below hb)
    have H1 := Lib.hid (H.out.keep hb)
    clear hb
    have q0 := O1.out.cell 0 _ rfl
    have q1 := O1.out.cell 1 _ rfl
    have q2 := O1.out.cell 2 _ rfl
    have q3 := O1.out.cell 3 _ rfl
    go_wp2
    go_loopw [3] (fun i wr => ∃ k q : Nat, k ≤ n ∧ i = .int .i64 k ∧ AllTo (fun x : KV => decide (x.mod ≤ s.low)) s.base k ∧ wr = w1.drewN q) (fun i _ => n - (intOf i).toNat)
    case atStart => exact ⟨0, 0, Nat.zero_le _, rfl, rfl, rfl⟩
    case round =>
      obtain ⟨k, q, hk, rfl, hall, rfl⟩ := hrel
      have HA := Lib.hid hall
      clear hall
      by_cases hlt : k < n
      · obtain ⟨a, x, rfl, hbl, hx, hok, hc⟩ := H1.out.kv.at_ hlt
        obtain ⟨c0, c1, c2, c3, c4, c5⟩ := hc
        have HX := Lib.hid hx
        clear hx hok hbl
        by_cases hm : x.mod ≤ s.low
        · have HN : Hid (AllTo (fun x : KV => decide (x.mod ≤ s.low)) s.base (k + 1)) := Lib.hid (by show _ = true; rw [all_take_s _ _ _ x HX.out, HA.out.out, decide_eq_true hm]; rfl)
          go_wp2
          go_quiet (fail)
          go_wp2
          go_roundw
          case rel => exact ⟨k + 1, _, by omega, by go_num, HN.out, rfl⟩
          case measure => simp [intOf]; omega
        · have HR : Hid (mayB s = false) := Lib.hid (mayB_mods (all_stop_s _ _ k x HX.out (decide_eq_false hm)))
          go_wp2
          go_quiet (fail)
          go_wp2
          go_ret
          exact ⟨retB HR.out.symm, then_ (then_ B1.out (below_drews _ _)) (below_drews _ _)⟩
      · obtain rfl : n = k := by omega
        have HBB : Hid (baseB s.base s.low = true) := Lib.hid (base_mk (by rw [HLA.out]; exact h30) HP.out (by have h' := HA.out.out; rwa [take_full _ _ HLA.out] at h'))
        have HR : Hid (mayB s = mayLogB s.rev s.base (s.low + 1) s.log) := Lib.hid (mayB_log PP.out HBB.out (by rw [HLB.out]; exact h60))
        have H2 := Lib.hid (H1.out.keep (below_drews _ q))
        have O2 := Lib.hid (O1.out.below (below_drews _ q))
        have B2 := Lib.hid (then_ B1.out (below_drews _ q))
        obtain ⟨w2, hw2⟩ : ∃ w2 : World, w2 = w1.drewN q := ⟨_, rfl⟩
        rw [← hw2] at H2 O2 B2 ⊢
        clear hw2 q0 q1 q2 q3 HA hlt hk
        have q0 := O2.out.cell 0 _ rfl
        have q1 := O2.out.cell 1 _ rfl
        have q2 := O2.out.cell 2 _ rfl
        have q3 := O2.out.cell 3 _ rfl
        go_wp2
        go_loopw [4, 5, 6] (fun l last i wr => ∃ (k : Nat) (A' : Option Addr) (n' c' : Nat) (L : List KV) (r r' : Int), k ≤ m ∧ i = .int .i64 k ∧ l = .slice A' n' c' ∧ last = .int .i64 r ∧ KVs wr A' n' c' L ∧ LogTo s k L r' ∧ LastIs s r r' ∧ Below w2.heap.size w2 wr) (fun _ _ i _ => m - (intOf i).toNat)
        case atStart => exact ⟨0, A, n, c, s.base, s.low, s.low + 1, Nat.zero_le _, rfl, rfl, rfl, H2.out.kv, LogTo.zero s, last_zero s, Below.refl _ _⟩
        case round =>
          obtain ⟨k, A', n', c', L, r, r', hk, rfl, rfl, rfl, hkv, hlg, hla, hbel⟩ := hrel
          have HK := Lib.hid hkv; have HG := Lib.hid hlg; have HB := Lib.hid hbel; have HL := Lib.hid hla
          obtain ⟨top, hgood⟩ := hlg.good HBB.out
          have hnl : n' ≤ 30 := by rw [← hkv.len]; exact hgood.len
          have ONES := Lib.hid (may_one hgood.may)
          have BW := Lib.hid (then_ B2.out hbel)
          have O3 := Lib.hid (O2.out.below hbel)
          have hlw0 := O3.out.lt
          clear hkv hlg hbel hgood hla q0 q1 q2 q3
          have q0 := O3.out.cell 0 _ rfl
          have q1 := O3.out.cell 1 _ rfl
          have q3 := O3.out.cell 3 _ rfl
          by_cases hlt : k < m
          · obtain ⟨a, x, rfl, hbl, hx, hok, hc⟩ := (H2.out.ev.keep HB.out).at_ hlt
            obtain ⟨c0, c1, c2, c3, c4, c5, c6, c7⟩ := hc
            have HX := Lib.hid hx; have OKX := Lib.hid hok
            have BN := Lib.hid (then_ BW.out (new1 wr (x.obj 43)))
            have LX := Lib.hid (HL.out.iff x.rev)
            clear hx hok hbl
            by_cases h1 : x.rev ≤ s.low
            · have HF := Lib.hid (HG.out.fail HX.out (by rintro ⟨a, _⟩; have := LX.out.1 (.inl h1); omega))
              go_wp2
              go_ret
              exact ⟨retB (by rw [HR.out, HF.out]), BN.out⟩
            by_cases h2 : x.rev < r
            · have HF := Lib.hid (HG.out.fail HX.out (by rintro ⟨a, _⟩; have := LX.out.1 (.inr h2); omega))
              go_wp2
              go_ret
              exact ⟨retB (by rw [HR.out, HF.out]), BN.out⟩
            by_cases h3 : s.rev < x.rev
            · have HF := Lib.hid (HG.out.fail HX.out (by rintro ⟨_, a, _⟩; omega))
              go_wp2
              go_ret
              exact ⟨retB (by rw [HR.out, HF.out]), BN.out⟩
            have hge : r' ≤ x.rev := by
              rcases Int.lt_or_le x.rev r' with h | h
              · rcases LX.out.2 h with h | h <;> omega
              · exact h
            have HGE := Lib.hid hge
            clear hge
            have TT := Lib.hid (right_ref A' n' c' L x (wr.alloc (x.obj 43)) (HK.out.keep (new1 wr _)) OKX.out (by omega) ONES.out)
            cases hr : rightB L x with
            | false =>
              have HRX := Lib.hid hr
              have HF := Lib.hid (HG.out.fail HX.out (by rintro ⟨_, _, a, _⟩; rw [← right_iff, hr] at a; cases a))
              clear hr
              go_wp2_with fail
              refine TT.out.mono ?_; rintro e w3 ⟨rfl, hb⟩
              rw [HRX.out]
              have BL := Lib.hid (then_ BN.out hb); clear hb
              go_wp2
              go_ret
              exact ⟨retB (by rw [HR.out, HF.out]), BL.out⟩
            | true =>
              have HRX := Lib.hid hr
              have RE := Lib.hid (right_iff.1 hr)
              clear hr
              go_wp2_with fail
              refine TT.out.mono ?_; rintro e w3 ⟨rfl, hb⟩
              rw [HRX.out]
              have BL := Lib.hid (then_ BN.out hb)
              have B3 := Lib.hid (then_ (then_ HB.out (new1 wr _)) hb)
              have K3 := Lib.hid ((HK.out.keep (new1 wr (x.obj 43))).keep hb)
              have O4 := Lib.hid ((O3.out.alloc (x.obj 43)).below hb)
              have EV := Lib.hid (evs_cut (H2.out.ev.keep B3.out) hlt HX.out)
              have hdm := (H2.out.ev.keep B3.out).le
              have g := ((own_new wr #[.int .i64 x.rev, .bool x.gone, .string x.kv.key, .string x.kv.val, .int .i64 x.kv.cre, .int .i64 x.kv.mod, .int .i64 x.kv.ver, .int .i64 x.kv.lea] 43).below hb).cell
              have g0 : w3.cell? ⟨wr.heap.size, 0, none⟩ = some (.int .i64 x.rev) := g 0 _ rfl
              have hlw : wr.heap.size < w3.heap.size := by have := hb.size; simp at this; omega
              clear hb g q0 q1 q3
              have q3 := O4.out.cell 3 _ rfl
              have hlw2 := O4.out.lt
              have hdk : ¬ d = k := by omega
              have hw1 : IntKind.i64.wrap ((k : Int) + 1) = (k : Int) + 1 := by rw [IntKind.wrap_i64]; omega
              have z1 : (0 : Int) ≤ (k : Int) + 1 := by omega
              have z2 : (k : Int) ≤ (k : Int) + 1 := by omega
              have z3 : (k : Int) + 1 ≤ (d : Int) := by omega
              have z4 : ((k : Int) + 1).toNat = k + 1 := by omega
              have z5 : k + 1 - k = 1 := by omega
              go_wp2
              go_region_held3 (fun w' => w'.cell? ⟨w.heap.size, 3, none⟩ = some (.slice (some a) m d) ∧ w'.cell? ⟨wr.heap.size, 0, none⟩ = some (.int .i64 x.rev)) (go_keep) (first
                | (go_at_call 44; refine (fold_ref A' n' c' L (some (a.add (k * 8))) 1 (d - k) [x] x.rev _ (K3.out.keep (new_drew w3)) (EV.out.keep (new_drew w3)) (by omega)).mono ?_; rintro e w4 ⟨A4, n4, c4, rfl, h4, hb4⟩; rw [after_fold] at h4; have K4 := Lib.hid h4; have HB4 : Hid (Below w3.heap.size w3 w4) := Lib.hid (then_ (new_drew w3) hb4); clear h4 hb4; obtain ⟨hc4, hf4⟩ := bcell HB4.out))
              all_goals
                by_cases h30 : n4 ≤ 30
                · have HN := Lib.hid (HG.out.next HX.out HGE.out (by omega) RE.out (by rw [K4.out.len]; exact h30))
                  have BX := Lib.hid (then_ B3.out HB4.out)
                  have LN := Lib.hid (last_next (s := s) (r := x.rev) (by omega))
                  go_wp2
                  go_roundw
                  case rel => exact ⟨k + 1, A4, n4, c4, _, x.rev, x.rev, by omega, by go_num, rfl, rfl, K4.out, HN.out, LN.out, BX.out⟩
                  case measure => simp [intOf]; omega
                · have HF := Lib.hid (HG.out.fail HX.out (by rintro ⟨_, _, _, a⟩; rw [K4.out.len] at a; omega))
                  have BX := Lib.hid (then_ BL.out HB4.out)
                  go_wp2
                  go_ret
                  exact ⟨retB (by rw [HR.out, HF.out]), BX.out⟩
          · obtain rfl : m = k := by omega
            have HT : Hid (mayLogB s.rev s.base (s.low + 1) s.log = true) := Lib.hid (by have := HG.out.may; rwa [take_full s.log m HLB.out] at this)
            go_wp2
            go_ret
            exact ⟨retB (by rw [HR.out, HT.out]), BW.out⟩
end Go.Proofs.Ytkikfaeigoeogaa.P
