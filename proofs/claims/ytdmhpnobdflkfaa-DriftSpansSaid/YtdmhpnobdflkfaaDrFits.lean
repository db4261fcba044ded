/- Layer 11: Fits, the program's and the document's. -/
import Derived.Test.YtdmhpnobdflkfaaDr
namespace Go.Proofs.Ytdmhpnobdflkfaa.P
open Go.RowKit Go.Sort
set_option maxHeartbeats 1000000
set_option linter.unusedVariables false
set_option linter.unusedSimpArgs false
set_option maxRecDepth 100000

theorem Is.at1 {w : World} {A : Option Addr} {n c k : Nat} {l : List Int} (h : Is w A n c l) (hk : k < n) : ∃ a z, A = some a ∧ a.block < w.heap.size ∧ l[k]? = some z ∧ w.cell? (a.add k) = some (.int .i64 z) := Is.at_ h hk
def Ends (b : Bool) (w : World) (e : Ending) (w' : World) : Prop := e = .returned (.bool b) ∧ Below w.heap.size w w'
theorem within_any (t : Int) (A : Option Addr) (n c : Nat) (l : List Int) (B : Option Addr) (m d : Nat) (k : List Int) (w : World) (h : Is w A n c l) (h' : Is w B m d k) (hn : n ≤ 200) (hm : m ≤ 200) (hs : 1 ≤ safeP t) :
    Calls Try.prog 59 #[.int .i64 (safeP t), .int .i64 t, .slice A n c, .slice B m d] w (Ends true w) := by
  have H := Lib.hid h; have H' := Lib.hid h'
  have HL := Lib.hid h.len; have HL' := Lib.hid h'.len
  have HG := Lib.hid (fun (m : List Int) => go_range true m 0 (by omega) (by omega))
  have HF := Lib.hid (fun (a b : List Int) (e : b.length = a.length) (hh : a.length ≤ 1000000) (h : goP 0 a true < safeP t) => fits_at t a b e hh h)
  obtain ⟨u, hu, hum, hmin⟩ : ∃ u : Nat, u ≤ n ∧ u ≤ m ∧ (if m < n then (m : Int) else (n : Int)) = (u : Int) := by
    by_cases hlt : m < n
    · exact ⟨m, by omega, by omega, if_pos hlt⟩
    · exact ⟨n, by omega, by omega, if_neg hlt⟩
  have hsr := safe_range t
  have HSR := Lib.hid hsr
  clear h h' hsr
  generalize safeP t = sf at *
  go_enter Try.func59, Try.ntmps59
  go_wp2_with fail
  refine (clock_any 0 true w).mono ?_; rintro e w1 ⟨rfl, o1, o2, hsz, hb⟩
  have O1 := Lib.hid o1; have O2 := Lib.hid o2; have B1 := Lib.hid hb
  clear o1 o2 hb
  go_wp2_with fail
  refine (clock_any 0 true w1).mono ?_; rintro e w2 ⟨rfl, o3, o4, hsz2, hb⟩
  rw [hsz] at o3 o4
  have P1 := Lib.hid (O1.out.below hb); have P2 := Lib.hid (O2.out.below hb); have P3 := Lib.hid o3; have P4 := Lib.hid o4; have B2 := Lib.hid (then_ B1.out hb)
  clear o3 o4 hb hsz2 O1 O2 B1
  rw [hsz]
  clear hsz
  go_wp2
  go_loopw [21] (fun i wr => ∃ (j : Nat), j ≤ u ∧ i = .int .i64 j ∧ Own wr w.heap.size 3 #[.int .i64 (goP 0 (l.take j) true)] ∧ Own wr (w.heap.size + 1) 4 #[.bool true] ∧ Own wr (w.heap.size + 2) 3 #[.int .i64 (goP 0 (k.take j) true)] ∧ Own wr (w.heap.size + 2 + 1) 4 #[.bool true] ∧ Below w.heap.size w wr) (fun i _ => u - (intOf i).toNat)
  case atStart => exact ⟨0, Nat.zero_le _, rfl, P1.out, P2.out, P3.out, P4.out, B2.out⟩
  case round =>
    obtain ⟨j, hj, rfl, o1, o2, o3, o4, hbel⟩ := hrel
    have Q1 := Lib.hid o1; have Q2 := Lib.hid o2; have Q3 := Lib.hid o3; have Q4 := Lib.hid o4; have HB := Lib.hid hbel
    clear o1 o2 o3 o4
    by_cases hlt : j < u
    · obtain ⟨a, x, rfl, ha, hx, ca⟩ := Is.at_ H.out (show j < n by omega)
      obtain ⟨b, y, rfl, hb, hy, cb⟩ := Is.at_ H'.out (show j < m by omega)
      have HS : Hid (goP 0 (l.take (j + 1)) true = tickP true (goP 0 (l.take j) true) x) := Lib.hid (by rw [take_snoc' l j x hx, go_snoc])
      have HS' : Hid (goP 0 (k.take (j + 1)) true = tickP true (goP 0 (k.take j) true) y) := Lib.hid (by rw [take_snoc' k j y hy, go_snoc])
      have da := (hbel.cell (p := a.add j) (by rw [block_add]; exact ha)).trans ca
      have db := (hbel.cell (p := b.add j) (by rw [block_add]; exact hb)).trans cb
      have FA : Hid (∀ w2, Below w.heap.size w w2 → w2.cell? (a.add j) = some (.int .i64 x) ∧ w2.cell? (b.add j) = some (.int .i64 y)) := Lib.hid (fun w2 h2 => ⟨(h2.cell (p := a.add j) (by rw [block_add]; exact ha)).trans ca, (h2.cell (p := b.add j) (by rw [block_add]; exact hb)).trans cb⟩)
      have hgm := HG.out (l.take j)
      have hgt := HG.out (k.take j)
      have HR : Hid (goP 0 (l.take (j + 1)) true < sf → goP 0 (k.take (j + 1)) true < t) := Lib.hid (HF.out _ _ (by rw [List.length_take, List.length_take, HL.out, HL'.out]; omega) (by rw [List.length_take, HL.out]; omega))
      clear ca cb hx hy hbel
      have hjn : j < n := by omega
      have hjm : j < m := by omega
      have ijn : (j : Int) < (n : Int) := by omega
      have ijm : (j : Int) < (m : Int) := by omega
      have i0 : (0 : Int) ≤ (j : Int) := by omega
      have N1 : some (w.heap.size + 2) ≠ some w.heap.size := by intro e; injection e; omega
      have N2 : some (w.heap.size + 2 + 1) ≠ some w.heap.size := by intro e; injection e; omega
      have N3 : some w.heap.size ≠ some (w.heap.size + 2) := by intro e; injection e; omega
      have N4 : some (w.heap.size + 2 + 1) ≠ some (w.heap.size + 2) := by intro e; injection e; omega
      have N5 : some (w.heap.size + 1) ≠ some w.heap.size := by intro e; injection e; omega
      have N6 : some (w.heap.size + 1) ≠ some (w.heap.size + 2) := by intro e; injection e; omega
      have G1 : Hid (∀ V, wr.drew.grownBy V (some w.heap.size) → Below w.heap.size w V) := Lib.hid (fun V hgr => (Below.drew HB.out).grown hgr HB.out.size (fun k hk => by cases hk; exact Nat.le_refl _))
      have G2 : Hid (∀ V V', Below w.heap.size w V → V.grownBy V' (some (w.heap.size + 2)) → Below w.heap.size w V') := Lib.hid (fun V V' hB hgr => hB.grown hgr hB.size (fun k hk => by cases hk; exact Nat.le_add_right _ _))
      have M1 := Lib.hid N1; have M2 := Lib.hid N2; have M3 := Lib.hid N3; have M4 := Lib.hid N4; have M5 := Lib.hid N5; have M6 := Lib.hid N6
      clear N1 N2 N3 N4 N5 N6
      by_cases hc : sf ≤ tickP true (goP 0 (l.take j) true) x
      · have tk1 : True := trivial
        go_wp2
        go_region_held3 (fun w' => w'.cell? (a.add j) = some (.int .i64 x) ∧ w'.cell? (b.add j) = some (.int .i64 y)) (go_keep) (first
          | (go_at_call 82; have _t := tk1; clear _t tk1; (with_reducible refine (tick_any x (goP 0 (l.take j) true) true w.heap.size (w.heap.size + 1) _ (Q1.out.below (new_drew wr)) (Q2.out.below (new_drew wr)) hgm.1 hgm.2).mono ?_); rintro e V1 ⟨rfl, o1, hgr⟩; have T1 := Lib.hid o1; have T2 := Lib.hid ((Q2.out.below (new_drew wr)).kept hgr M5.out); have T3 := Lib.hid ((Q3.out.below (new_drew wr)).kept hgr M1.out); have T4 := Lib.hid ((Q4.out.below (new_drew wr)).kept hgr M2.out); have TB := Lib.hid (G1.out V1 hgr); clear o1 hgr da db; obtain ⟨da, db⟩ := FA.out V1 TB.out; have tk2 : True := trivial)
          | (go_at_call 82; have _t := tk2; clear _t tk2; (with_reducible refine (tick_any y (goP 0 (k.take j) true) true (w.heap.size + 2) (w.heap.size + 2 + 1) _ T3.out T4.out hgt.1 hgt.2).mono ?_); rintro e V2 ⟨rfl, o3, hgr⟩; have U3 := Lib.hid o3; have U1 := Lib.hid (T1.out.kept hgr M3.out); have U2 := Lib.hid (T2.out.kept hgr M6.out); have U4 := Lib.hid (T4.out.kept hgr M4.out); have UB := Lib.hid (G2.out V1 V2 TB.out hgr); clear o3 hgr da db; obtain ⟨da, db⟩ := FA.out V2 UB.out))
        go_wp2
        go_ret
        exact ⟨rfl, UB.out⟩
      · have hc2 : tickP true (goP 0 (k.take j) true) y < t := by
          have := HR.out
          rw [HS.out, HS'.out] at this
          exact this (by omega)
        have tk1 : True := trivial
        go_wp2
        go_region_held3 (fun w' => w'.cell? (a.add j) = some (.int .i64 x) ∧ w'.cell? (b.add j) = some (.int .i64 y)) (go_keep) (first
          | (go_at_call 82; have _t := tk1; clear _t tk1; (with_reducible refine (tick_any x (goP 0 (l.take j) true) true w.heap.size (w.heap.size + 1) _ (Q1.out.below (new_drew wr)) (Q2.out.below (new_drew wr)) hgm.1 hgm.2).mono ?_); rintro e V1 ⟨rfl, o1, hgr⟩; have T1 := Lib.hid o1; have T2 := Lib.hid ((Q2.out.below (new_drew wr)).kept hgr M5.out); have T3 := Lib.hid ((Q3.out.below (new_drew wr)).kept hgr M1.out); have T4 := Lib.hid ((Q4.out.below (new_drew wr)).kept hgr M2.out); have TB := Lib.hid (G1.out V1 hgr); clear o1 hgr da db; obtain ⟨da, db⟩ := FA.out V1 TB.out; have tk2 : True := trivial)
          | (go_at_call 82; have _t := tk2; clear _t tk2; (with_reducible refine (tick_any y (goP 0 (k.take j) true) true (w.heap.size + 2) (w.heap.size + 2 + 1) _ T3.out T4.out hgt.1 hgt.2).mono ?_); rintro e V2 ⟨rfl, o3, hgr⟩; have U3 := Lib.hid o3; have U1 := Lib.hid (T1.out.kept hgr M3.out); have U2 := Lib.hid (T2.out.kept hgr M6.out); have U4 := Lib.hid (T4.out.kept hgr M4.out); have UB := Lib.hid (G2.out V1 V2 TB.out hgr); clear o3 hgr da db; obtain ⟨da, db⟩ := FA.out V2 UB.out))
        go_wp2
        go_roundw
        case rel => exact ⟨j + 1, by omega, by go_num, by rw [HS.out]; exact U1.out, U2.out, by rw [HS'.out]; exact U3.out, U4.out, UB.out⟩
        case measure => simp [intOf]; omega
    · have HB := Lib.hid hbel
      clear hbel
      go_wp2
      go_ret
      exact ⟨rfl, HB.out⟩
theorem fits_any (t : Int) (A : Option Addr) (n c : Nat) (l : List Int) (B : Option Addr) (m d : Nat) (k : List Int) (w : World) (h : Is w A n c l) (h' : Is w B m d k) (hn : n ≤ 200) (hm : m ≤ 200) :
    Calls Try.prog 28 #[.int .i64 t, .slice A n c, .slice B m d] w (Ends (fitsB t) w) := by
  have hp := safe_pos t
  by_cases h0 : 0 < safeP t
  · have HE : Hid (true = fitsB t) := Lib.hid (hp.1 h0).symm
    have cW := Lib.hid (within_any t A n c l B m d k w h h' hn hm (by omega))
    have cS := Lib.hid (fun w => safe_any t w)
    clear hp h h'
    generalize safeP t = sf at *
    go_enter Try.func28, Try.ntmps28
    go_wp2_with fail
    refine (cS.out _).mono ?_; rintro e w' ⟨rfl, rfl⟩
    go_wp2_with fail
    refine cW.out.mono ?_; rintro e w1 ⟨rfl, hb⟩
    have HB := Lib.hid hb; clear hb
    go_wp2
    go_ret
    exact ⟨retB HE.out, HB.out⟩
  · have HE : Hid (false = fitsB t) := Lib.hid (by
      cases hf : fitsB t with
      | false => rfl
      | true => exact absurd (hp.2 hf) h0)
    have cS := Lib.hid (fun w => safe_any t w)
    clear hp h h'
    generalize safeP t = sf at *
    go_enter Try.func28, Try.ntmps28
    go_wp2_with fail
    refine (cS.out _).mono ?_; rintro e w' ⟨rfl, rfl⟩
    go_wp2
    go_ret
    exact ⟨retB HE.out, Below.refl _ _⟩
theorem fits_ref (t : Int) (A : Option Addr) (n c : Nat) (l : List Int) (B : Option Addr) (m d : Nat) (k : List Int) (w : World) (h : Is w A n c l) (h' : Is w B m d k) (hn : n ≤ 200) (hm : m ≤ 200) :
    Calls Try.prog 29 #[.int .i64 t, .slice A n c, .slice B m d] w fun e w' => e = .returned (.bool (fitsB t)) ∧ w = w' := by
  have hp := safe_pos t
  have hsr := safe_range t
  have cS := Lib.hid (fun w => safe_ref t w)
  by_cases h0 : 0 < safeP t
  · have HE : Hid (true = fitsB t) := Lib.hid (hp.1 h0).symm
    have H := Lib.hid h; have H' := Lib.hid h'
    have HL := Lib.hid h.len; have HL' := Lib.hid h'.len
    have HF := Lib.hid (fun (a b : List Int) (e : b.length = a.length) (hh : a.length ≤ 1000000) (h : goP 0 a true < safeP t) => fits_at t a b e hh h)
    obtain ⟨u, hu, hum, hiff⟩ : ∃ u : Nat, u ≤ n ∧ u ≤ m ∧ ∀ j : Nat, (j ≤ u) ↔ (j ≤ n ∧ j ≤ m) := by
      by_cases hlt : m < n
      · exact ⟨m, by omega, by omega, fun j => by omega⟩
      · exact ⟨n, by omega, by omega, fun j => by omega⟩
    have hle := h.le; have hle' := h'.le
    have hmax := h.max; have hmax' := h'.max
    unfold maxLen at hmax hmax'
    clear hp h h'
    generalize safeP t = sf at *
    have hne : (sf == 0) = false := by simp; omega
    have hne2 : ¬ sf = 0 := by omega
    go_enter Try.func29, Try.ntmps29
    go_wp2_with fail
    refine (cS.out _).mono ?_; rintro e w' ⟨rfl, rfl⟩
    go_wp2
    go_loop [7] (fun i => ∃ j : Nat, j ≤ u + 1 ∧ i = .int .i64 j) (fun i => u + 1 - (intOf i).toNat)
    case atStart => exact ⟨0, Nat.zero_le _, rfl⟩
    case round =>
      obtain ⟨j, hj, rfl⟩ := hrel
      by_cases hlt : j ≤ u
      · have hjn : j ≤ n := by omega
        have hjm : j ≤ m := by omega
        have hjc : j ≤ c := by omega
        have hjd : j ≤ d := by omega
        have cA := Lib.hid (fun w2 (e : w = w2) => run_ref A j c (l.take j) 0 true w2 (by subst e; exact H.out.take hjn))
        have cB := Lib.hid (fun w2 (e : w = w2) => run_ref B j d (k.take j) 0 true w2 (by subst e; exact H'.out.take hjm))
        have HR : Hid (goP 0 (l.take j) true < sf → goP 0 (k.take j) true < t) := Lib.hid (HF.out _ _ (by rw [List.length_take, List.length_take, HL.out, HL'.out]; omega) (by rw [List.length_take, HL.out]; omega))
        rw [run_in (by omega) (by omega)] at cA cB
        by_cases hc : goP 0 (l.take j) true < sf
        · have hc2 := HR.out hc
          go_wp2_with fail
          refine (cA.out _ rfl).mono ?_; rintro e w' ⟨rfl, rfl⟩
          go_wp2_with fail
          refine (cS.out _).mono ?_; rintro e w' ⟨rfl, rfl⟩
          go_wp2_with fail
          refine (cB.out _ rfl).mono ?_; rintro e w' ⟨rfl, rfl⟩
          go_wp2
          go_round
          case rel => exact ⟨j + 1, by omega, by go_num⟩
          case measure => simp [intOf]; omega
        · go_wp2_with fail
          refine (cA.out _ rfl).mono ?_; rintro e w' ⟨rfl, rfl⟩
          go_wp2_with fail
          refine (cS.out _).mono ?_; rintro e w' ⟨rfl, rfl⟩
          go_wp2
          go_round
          case rel => exact ⟨j + 1, by omega, by go_num⟩
          case measure => simp [intOf]; omega
      · obtain rfl : j = u + 1 := by omega
        have hno := hiff (u + 1)
        by_cases hn2 : u + 1 ≤ n
        · have hm2 : ¬ u + 1 ≤ m := by omega
          go_wp2
          go_ret
          exact ⟨retB HE.out, rfl⟩
        · go_wp2
          go_ret
          exact ⟨retB HE.out, rfl⟩
  · have HE : Hid (false = fitsB t) := Lib.hid (by
      cases hf : fitsB t with
      | false => rfl
      | true => exact absurd (hp.2 hf) h0)
    have hz : Hid (safeP t = 0) := Lib.hid (by omega)
    clear hp h h'
    have cS2 := Lib.hid (fun w => cS.out w)
    rw [hz.out] at cS2
    clear hz cS hsr h0
    go_enter Try.func29, Try.ntmps29
    go_wp2_with fail
    refine (cS2.out _).mono ?_; rintro e w' ⟨rfl, rfl⟩
    go_wp2
    go_ret
    exact ⟨retB HE.out, rfl⟩
end Go.Proofs.Ytdmhpnobdflkfaa.P
