/- For all leases, every TTL and every list of times the law LeaseStays answers true: a lease that is granted, and kept, is due no sooner than its TTL behind the last time, and just then. No condition. -/
import Derived.Test.YtelepkofhdjagabLeaseOnceProof
namespace Go.Proofs.Ytelepkofhdjagab.leaseStays
open Go.ChangeShapes Go.WideShapes Go.ChangeAt Go.RowKit Go.Proofs.Ytelepkofhdjagab.P
open Go.Proofs.Ytelepkofhdjagab.leaseOnce (Said apart2 ls_box)
open Go.ChangeMaps (open_string shut_string)
set_option linter.unusedVariables false
set_option linter.unusedSimpArgs false
set_option maxHeartbeats 4000000
set_option maxRecDepth 100000

/-- What there is behind a grant, kept last at L. -/
def St (s0 : Ls) (a1 L : Int) : Ls := ⟨s0.next + 1, s0.l ++ [⟨s0.next + 1, a1, L + a1⟩]⟩
theorem st_len (s0 : Ls) (a1 L : Int) : (St s0 a1 L).l.length = s0.l.length + 1 := by simp [St]
theorem st_small {s0 : Ls} {a1 : Int} (h : MayL s0) (ha : 1 ≤ a1 ∧ a1 ≤ 1000) (L : Int) : smallT (St s0 a1 L) := by
  intro x hx
  rcases List.mem_append.1 hx with hx | hx
  · have := okLe_iff.1 (h.ok x hx); omega
  · simp at hx; subst hx; show _ ≤ a1 ∧ a1 ≤ _; omega
theorem st_keep {s0 : Ls} {a1 L z : Int} (h : MayL s0) (hz : atB z = true) :
    keepE (St s0 a1 L) (s0.next + 1) z = 0 ∧ keepS (St s0 a1 L) (s0.next + 1) z = St s0 a1 (if L < z then z else L) ∧ keepT (St s0 a1 L) (s0.next + 1) z = a1 := by
  have k := keep_last (s := s0) (id := s0.next + 1) (ttl := a1) (til := L + a1) (next := s0.next + 1) (fun x hx he => by have := (okLe_iff.1 (h.ok x hx)).2.1; omega) z hz
  refine ⟨k.1, k.2.1.trans ?_, k.2.2⟩
  unfold St later
  simp only
  by_cases hl : L < z
  · rw [if_pos hl, if_pos (by omega)]
  · rw [if_neg hl, if_neg (by omega)]
theorem st_due {s0 : Ls} {a1 L : Int} (h : MayL s0) : decide (s0.next + 1 ∈ dueL (St s0 a1 L).l (L + a1 - 1)) = false ∧ decide (s0.next + 1 ∈ dueL (St s0 a1 L).l (L + a1)) = true := by
  constructor
  · refine decide_eq_false (fun hm => ?_)
    obtain ⟨x, hx, ht, hi⟩ := due_mem.1 hm
    rcases List.mem_append.1 hx with hx | hx
    · have := (okLe_iff.1 (h.ok x hx)).2.1; omega
    · simp at hx; subst hx
      have : L + a1 ≤ L + a1 - 1 := ht
      omega
  · exact decide_eq_true (due_mem.2 ⟨⟨s0.next + 1, a1, L + a1⟩, by simp [St], Int.le_refl _, rfl⟩)
theorem grant_err {s : Ls} {ttl now : Int} (h : grantE s ttl now ≠ 0) (A : Option Addr) (n c : Nat) (w : World) (k : LsAt w s A n c) (hl : s.l.length ≤ 1000) :
    Calls Try.prog 17 #[s.agg A n c, .int .i64 ttl, .int .i64 now] w (LsEnd3 s 0 (grantE s ttl now) w) := by
  have := grant_any s A n c ttl now w k hl
  rw [(grant_same h).1, (grant_same h).2] at this; exact this
theorem grant_fine {s : Ls} {ttl now : Int} (h : grantE s ttl now = 0) (A : Option Addr) (n c : Nat) (w : World) (k : LsAt w s A n c) (hl : s.l.length ≤ 1000) :
    Calls Try.prog 17 #[s.agg A n c, .int .i64 ttl, .int .i64 now] w (LsEnd3 (St s ttl now) (s.next + 1) 0 w) := by
  have := grant_any s A n c ttl now w k hl
  rw [(grant_is h).1, (grant_is h).2, h] at this; exact this
theorem keep_fine {s0 : Ls} {a1 L z : Int} (h : MayL s0) (ha : 1 ≤ a1 ∧ a1 ≤ 1000) (hz : atB z = true) (A : Option Addr) (n c : Nat) (w : World) (k : LsAt w (St s0 a1 L) A n c) :
    Calls Try.prog 19 #[(St s0 a1 L).agg A n c, .int .i64 (s0.next + 1), .int .i64 z] w (LsEnd3 (St s0 a1 (if L < z then z else L)) a1 0 w) := by
  have := keep_any (St s0 a1 L) A n c (s0.next + 1) z w k (by have := h.len; rw [st_len]; omega) (st_small h ha L)
  rw [(st_keep h hz).1, (st_keep h hz).2.1, (st_keep h hz).2.2] at this; exact this
theorem keep_late {s0 : Ls} {a1 L z : Int} (h : MayL s0) (ha : 1 ≤ a1 ∧ a1 ≤ 1000) (hz : atB z = false) (A : Option Addr) (n c : Nat) (w : World) (k : LsAt w (St s0 a1 L) A n c) :
    Calls Try.prog 19 #[(St s0 a1 L).agg A n c, .int .i64 (s0.next + 1), .int .i64 z] w (LsEnd3 (St s0 a1 L) 0 1 w) := by
  have := keep_any (St s0 a1 L) A n c (s0.next + 1) z w k (by have := h.len; rw [st_len]; omega) (st_small h ha L)
  rw [(keep_bad hz).1, (keep_bad hz).2.1, (keep_bad hz).2.2] at this; exact this
theorem due_le2 (l : List Le) (now : Int) : (dueL l now).length ≤ l.length := by
  unfold dueL; rw [List.length_map]; exact List.length_filter_le _ _
theorem walk (w : World) (s0 : Ls) (A0 : Option Addr) (n0 c0 : Nat) (a1 : Int) (A2 : Option Addr) (n2 c2 : Nat) (l2 : List Int) (k0 : LsAt w s0 A0 n0 c0) (z1 : (Lit.int .i64 a1).wf = true) (k2 : Is w A2 n2 c2 l2 ∧ ∀ z ∈ l2, inI z) :
    Calls Try.prog 6 #[s0.agg A0 n0 c0, .int .i64 a1, .slice A2 n2 c2] w fun e w' => e = .returned (.bool true) ∧ Below w.heap.size w w' := by
  have K_0 := Lib.hid (k0.keep (new1 w (.cells #[.int .i64 s0.next, .slice A0 n0 c0] 24)))
  have I_0 := Lib.hid (RowsOf.below k2.1 (new1 w (.cells #[.int .i64 s0.next, .slice A0 n0 c0] 24)))
  have X_0 := Lib.hid (own_new w #[.int .i64 s0.next, .slice A0 n0 c0] 24)
  have B_0 := Lib.hid (new1 w (.cells #[.int .i64 s0.next, .slice A0 n0 c0] 24))
  have hm2 := Nat.le_trans k2.1.le k2.1.max
  unfold maxLen at hm2
  have hlen2 := k2.1.len
  have hn0 := k0.row.row.len
  have HI2 := Lib.hid k2.2
  have HA2 : Hid (∀ a, A2 = some a → 0 < n2 → a.block < w.heap.size) := Lib.hid (fun a ha h0 => by obtain ⟨a', e, hlt, _⟩ := k2.1.rd h0; rw [ha] at e; injection e with e; rw [e]; exact hlt)
  clear k0 k2
  have x0 := X_0.out.cell 0 _ rfl
  have x1 := X_0.out.cell 1 _ rfl
  cases hm : mayL s0 with
  | false =>
    have HM := Lib.hid hm; clear hm
    go_enter Try.func6, Try.ntmps6
    go_wp2_with fail
    refine (lmay_ref s0 A0 n0 c0 _ K_0.out).mono ?_; rintro e w1 ⟨rfl, hb⟩
    rw [HM.out]
    have B_1 := Lib.hid (then_ B_0.out hb); clear hb x0 x1
    go_wp2_with fail
    refine (live_any _).mono ?_; rintro e w2 ⟨rfl, hb⟩
    have B_2 := Lib.hid (then_ B_1.out hb); clear hb
    go_wp2
    go_ret
    exact ⟨rfl, B_2.out⟩
  | true =>
    have HM := Lib.hid hm
    have MS : Said (MayL s0) := ⟨(mayL_iff s0).1 hm⟩
    have hlo := MS.out.lo; have hhi := MS.out.hi; have hl8 := MS.out.len
    clear hm
    by_cases h20 : 20 < n2
    · go_enter Try.func6, Try.ntmps6
      go_wp2_with fail
      refine (lmay_ref s0 A0 n0 c0 _ K_0.out).mono ?_; rintro e w1 ⟨rfl, hb⟩
      rw [HM.out]
      have B_1 := Lib.hid (then_ B_0.out hb); clear hb x0 x1
      go_wp2_with fail
      refine (live_any _).mono ?_; rintro e w2 ⟨rfl, hb⟩
      have B_2 := Lib.hid (then_ B_1.out hb); clear hb
      go_wp2
      go_ret
      exact ⟨rfl, B_2.out⟩
    · by_cases hz0 : n2 = 0
      · subst hz0
        go_enter Try.func6, Try.ntmps6
        go_wp2_with fail
        refine (lmay_ref s0 A0 n0 c0 _ K_0.out).mono ?_; rintro e w1 ⟨rfl, hb⟩
        rw [HM.out]
        have B_1 := Lib.hid (then_ B_0.out hb); clear hb x0 x1
        go_wp2_with fail
        refine (live_any _).mono ?_; rintro e w2 ⟨rfl, hb⟩
        have B_2 := Lib.hid (then_ B_1.out hb); clear hb
        go_wp2
        go_ret
        exact ⟨rfl, B_2.out⟩
      · go_enter Try.func6, Try.ntmps6
        go_wp2_with fail
        refine (lmay_ref s0 A0 n0 c0 _ K_0.out).mono ?_; rintro e w1 ⟨rfl, hb⟩
        rw [HM.out]
        have B_1 := Lib.hid (then_ B_0.out hb)
        have K_1 := Lib.hid (K_0.out.keep hb)
        have I_1 := Lib.hid (RowsOf.below I_0.out hb)
        have X_1 := Lib.hid (X_0.out.below hb)
        have hltX := X_1.out.lt
        have hGW : Hid (w.heap.size < w1.heap.size) := Lib.hid hltX
        clear hb x0 x1
        obtain ⟨z, hz⟩ : ∃ z, l2[0]? = some z := ⟨l2[0]'(by omega), List.getElem?_eq_getElem (by omega)⟩
        obtain ⟨a2, z', rfl, hz', c2z⟩ := Is.at_ I_1.out (show 0 < n2 by omega)
        obtain rfl : z = z' := Option.some.inj (hz.symm.trans hz')
        have c2z : w1.cell? a2 = some (.int .i64 z) := by rw [Addr.add_zero'] at c2z; exact c2z
        have hin := HI2.out z (List.mem_of_getElem? hz)
        have HZ0 := Lib.hid hz
        have hn2i : (0 : Int) < (n2 : Int) := by omega
        have hn2n : 0 < n2 := by omega
        have hq0 : ((n2 : Int) == 0) = false := by simp; omega
        clear hz hz'
        have y0 := X_1.out.cell 0 _ rfl
        have y1 := X_1.out.cell 1 _ rfl
        go_wp2
        clear y0 y1
        by_cases hd : grantE s0 a1 z = 0
        · have HD := Lib.hid hd
          have hta : (1 ≤ a1 ∧ a1 ≤ 1000) ∧ 0 ≤ z ∧ z ≤ 1099511627775 := by
            rcases grant_cases s0 a1 z with ⟨_, h1, h2, _, h4⟩ | ⟨h1, _⟩ | ⟨h1, _⟩
            · exact ⟨ttlB_iff.1 h1, atB_iff.1 h2⟩
            · omega
            · omega
          obtain ⟨⟨ht1, ht2⟩, hz1, hz2⟩ := hta
          have HTT : Said (1 ≤ a1 ∧ a1 ≤ 1000) := ⟨⟨ht1, ht2⟩⟩
          clear hd
          have b4 := new1 w1 (.cells zLs 24)
          have X_14 := Lib.hid (X_1.out.below b4)
          have sX_10 : w1.cell? ⟨w.heap.size, 0, none⟩ = some (.int .i64 s0.next) := X_1.out.cell 0 _ rfl
          have uX_10 : (w1.alloc (.cells zLs 24)).cell? ⟨w.heap.size, 0, none⟩ = some (.int .i64 s0.next) := X_14.out.cell 0 _ rfl
          have sX_11 : w1.cell? ⟨w.heap.size, 1, none⟩ = some (.slice A0 n0 c0) := X_1.out.cell 1 _ rfl
          have uX_11 : (w1.alloc (.cells zLs 24)).cell? ⟨w.heap.size, 1, none⟩ = some (.slice A0 n0 c0) := X_14.out.cell 1 _ rfl
          have K_14 := Lib.hid (K_1.out.keep b4)
          have I4 := Lib.hid (RowsOf.below I_1.out b4)
          have B4 := Lib.hid (then_ B_1.out b4)
          have N4 := Lib.hid (own_new w1 zLs 24)
          have c2z4 : (w1.alloc (.cells zLs 24)).cell? a2 = some (.int .i64 z) := (b4.cell (World.block_lt_of_cell? _ _ c2z)).trans c2z
          have CF := Lib.hid (grant_fine HD.out A0 n0 c0 (w1.drew) (K_1.out.keep (new_drew _)) (by omega))
          have CE := Lib.hid (grant_fine HD.out A0 n0 c0 ((w1.alloc (.cells zLs 24)).drew) (K_14.out.keep (new_drew _)) (by omega))
          have hnX_1 : ¬ (w1.heap.size = w.heap.size) := by have := X_1.out.lt; omega
          have hnz : ¬ (w1.heap.size = (a2).block) := by have := World.block_lt_of_cell? _ _ c2z; omega
          clear b4
          go_region_held3 (fun w' => w'.cell? ⟨w.heap.size, 0, none⟩ = some (.int .i64 s0.next) ∧ w'.cell? ⟨w.heap.size, 1, none⟩ = some (.slice A0 n0 c0) ∧ w'.cell? a2 = some (.int .i64 z)) (go_keep) (first
            | (go_at_call 17; refine CF.out.mono ?_; rintro e w5 ⟨A5, n5, c5, rfl, h5, hb5⟩; have HB5 := Lib.hid (then_ (new_drew _) hb5); have H5 := Lib.hid h5; have dX_10 := (X_1.out.below HB5.out).cell 0 _ rfl; have dX_11 := (X_1.out.below HB5.out).cell 1 _ rfl; have dz := (HB5.out.cell (World.block_lt_of_cell? _ _ c2z)).trans c2z; clear hb5 h5)
            | (go_at_call 17; refine CE.out.mono ?_; rintro e w5 ⟨A5, n5, c5, rfl, h5, hb5⟩; have HB5 := Lib.hid (then_ (new_drew _) hb5); have H5 := Lib.hid h5; have dX_10 := (X_14.out.below HB5.out).cell 0 _ rfl; have dX_11 := (X_14.out.below HB5.out).cell 1 _ rfl; have dz := (HB5.out.cell (World.block_lt_of_cell? _ _ c2z4)).trans c2z4; have N5 := Lib.hid (N4.out.below HB5.out); have e50 := N5.out.cell 0 _ rfl; have e51 := N5.out.cell 1 _ rfl; have e5f := N5.out.frozen; clear hb5 h5))
          · have X_15 := Lib.hid (X_1.out.below HB5.out)
            have K_15 := Lib.hid (K_1.out.keep HB5.out)
            have I5 := Lib.hid (RowsOf.below I_1.out HB5.out)
            have B5 := Lib.hid (then_ B_1.out HB5.out)
            obtain ⟨W6, hW6⟩ : ∃ W6, W6 = w5.alloc (.cells #[.int .i64 (St s0 a1 z).next, .slice A5 n5 c5] 24) := ⟨_, rfl⟩
            obtain ⟨g7, hg7⟩ : ∃ g, g = w5.heap.size := ⟨_, rfl⟩
            have N6 : Hid (Own W6 g7 24 #[.int .i64 (St s0 a1 z).next, .slice A5 n5 c5]) := Lib.hid (by rw [hW6, hg7]; exact own_new _ _ _)
            have X_16 : Hid (Own W6 w.heap.size 24 #[.int .i64 s0.next, .slice A0 n0 c0]) := Lib.hid (by rw [hW6]; exact X_15.out.alloc _)
            have K_16 : Hid (LsAt W6 s0 A0 n0 c0) := Lib.hid (by rw [hW6]; exact K_15.out.keep (new1 _ _))
            have H6 : Hid (LsAt W6 (St s0 a1 z) A5 n5 c5) := Lib.hid (by rw [hW6]; exact H5.out.keep (new1 _ _))
            have I6 : Hid (Is W6 (some a2) n2 c2 l2) := Lib.hid (by rw [hW6]; exact RowsOf.below I5.out (new1 _ _))
            have B6 : Hid (Below w.heap.size w W6) := Lib.hid (by rw [hW6]; exact then_ B5.out (new1 _ _))
            have hgX_1 : w.heap.size < g7 := by rw [hg7]; exact X_15.out.lt
            rw [← hW6, ← hg7]
            clear hW6 hg7 sX_10 uX_10 dX_10 sX_11 uX_11 dX_11 dz CF CE
            have n60 := N6.out.cell 0 _ rfl
            have n61 := N6.out.cell 1 _ rfl
            have cz6 : W6.cell? a2 = some (.int .i64 z) := by
              obtain ⟨a', z', e, hz', hc⟩ := Is.at_ I6.out (show 0 < n2 by omega)
              obtain rfl := Option.some.inj e
              rw [Addr.add_zero'] at hc
              obtain rfl : z = z' := Option.some.inj (HZ0.out.symm.trans hz')
              exact hc
            go_wp2
            go_loopw [10, 11] (fun lv iv wr => ∃ (j : Nat) (L : Int) (A : Option Addr) (n c : Nat), 1 ≤ j ∧ j ≤ n2 ∧ lv = .int .i64 L ∧ iv = .int .i64 j ∧ Said (0 ≤ L ∧ L ≤ 1099511627775) ∧ Own wr g7 24 #[.int .i64 (St s0 a1 L).next, .slice A n c] ∧ LsAt wr (St s0 a1 L) A n c ∧ Is wr (some a2) n2 c2 l2 ∧ Below w.heap.size w wr) (fun _ iv _ => n2 - (intOf iv).toNat)
            case atStart => exact ⟨1, z, A5, n5, c5, by omega, by omega, rfl, rfl, ⟨⟨hz1, hz2⟩⟩, N6.out, H6.out, I6.out, B6.out⟩
            case round =>
              obtain ⟨j, L, A, n, c, hj1, hj, rfl, rfl, LB, nb, hbb, ib, bb⟩ := hrel
              have NB := Lib.hid nb; have HB := Lib.hid hbb; have IB := Lib.hid ib; have BB := Lib.hid bb
              have hltN := nb.lt
              have hGW : Hid (w.heap.size < wr.heap.size) := Lib.hid (by omega)
              have hnn : n = s0.l.length + 1 := by rw [← st_len s0 a1 L]; exact hbb.row.row.len.symm
              have NN : Said (n = s0.l.length + 1) := ⟨hnn⟩
              obtain ⟨hL1, hL2⟩ := LB.out
              clear nb hbb ib bb n60 n61 cz6 hnn
              have n60 := NB.out.cell 0 _ rfl
              have n61 := NB.out.cell 1 _ rfl
              by_cases hlt : j < n2
              · clear c2z
                clear HZ0 hz1 hz2 hin HD
                obtain ⟨z, hy⟩ : ∃ z, l2[j]? = some z := ⟨l2[j]'(by omega), List.getElem?_eq_getElem (by omega)⟩
                obtain ⟨a', y', e, hy', c2z⟩ := Is.at_ IB.out hlt
                obtain rfl := Option.some.inj e
                obtain rfl : z = y' := Option.some.inj (hy.symm.trans hy')
                have HZJ := Lib.hid hy
                have hin2 := HI2.out z (List.mem_of_getElem? hy)
                have hlti : (j : Int) < (n2 : Int) := by omega
                clear hy hy' hn2i hq0
                have hlti2 : ((j : Nat) : Int) < (n2 : Int) := hlti
                cases hzb : atB z with
                | true =>
                  have HZ := Lib.hid hzb
                  have hzb' := atB_iff.1 hzb
                  clear hzb
                  rcases Int.lt_or_le L z with hlz0 | hlz0
                  · have hlz : Said (L < z) := ⟨hlz0⟩
                    clear hlz0
                    go_wp2
                    clear n60 n61
                    have b4 := new1 wr (.cells zLs 24)
                    have NB4 := Lib.hid (NB.out.below b4)
                    have sNB0 : wr.cell? ⟨g7, 0, none⟩ = some (.int .i64 (St s0 a1 L).next) := NB.out.cell 0 _ rfl
                    have uNB0 : (wr.alloc (.cells zLs 24)).cell? ⟨g7, 0, none⟩ = some (.int .i64 (St s0 a1 L).next) := NB4.out.cell 0 _ rfl
                    have sNB1 : wr.cell? ⟨g7, 1, none⟩ = some (.slice A n c) := NB.out.cell 1 _ rfl
                    have uNB1 : (wr.alloc (.cells zLs 24)).cell? ⟨g7, 1, none⟩ = some (.slice A n c) := NB4.out.cell 1 _ rfl
                    have I4 := Lib.hid (RowsOf.below IB.out b4)
                    have B4 := Lib.hid (then_ BB.out b4)
                    have N4 := Lib.hid (own_new wr zLs 24)
                    have c2z4 : (wr.alloc (.cells zLs 24)).cell? (a2.add j) = some (.int .i64 z) := (b4.cell (World.block_lt_of_cell? _ _ c2z)).trans c2z
                    have CF := Lib.hid ((by have k := keep_fine (L := L) (z := z) MS.out HTT.out HZ.out A n c (wr.drew) (HB.out.keep (new_drew _)); rw [if_pos hlz.out] at k; exact k))
                    have CE := Lib.hid ((by have k := keep_fine (L := L) (z := z) MS.out HTT.out HZ.out A n c ((wr.alloc (.cells zLs 24)).drew) ((HB.out.keep (new1 _ _)).keep (new_drew _)); rw [if_pos hlz.out] at k; exact k))
                    have hnNB : ¬ (wr.heap.size = g7) := by have := NB.out.lt; omega
                    have hnz : ¬ (wr.heap.size = ((a2.add j)).block) := by have := World.block_lt_of_cell? _ _ c2z; omega
                    clear b4
                    go_region_held3 (fun w' => w'.cell? ⟨g7, 0, none⟩ = some (.int .i64 (St s0 a1 L).next) ∧ w'.cell? ⟨g7, 1, none⟩ = some (.slice A n c) ∧ w'.cell? (a2.add j) = some (.int .i64 z)) (go_keep) (first
                      | (go_at_call 19; refine CF.out.mono ?_; rintro e w5 ⟨A5, n5, c5, rfl, h5, hb5⟩; have HB5 := Lib.hid (then_ (new_drew _) hb5); have H5 := Lib.hid h5; have dNB0 := (NB.out.below HB5.out).cell 0 _ rfl; have dNB1 := (NB.out.below HB5.out).cell 1 _ rfl; have dz := (HB5.out.cell (World.block_lt_of_cell? _ _ c2z)).trans c2z; clear hb5 h5)
                      | (go_at_call 19; refine CE.out.mono ?_; rintro e w5 ⟨A5, n5, c5, rfl, h5, hb5⟩; have HB5 := Lib.hid (then_ (new_drew _) hb5); have H5 := Lib.hid h5; have dNB0 := (NB4.out.below HB5.out).cell 0 _ rfl; have dNB1 := (NB4.out.below HB5.out).cell 1 _ rfl; have dz := (HB5.out.cell (World.block_lt_of_cell? _ _ c2z4)).trans c2z4; have N5 := Lib.hid (N4.out.below HB5.out); have e50 := N5.out.cell 0 _ rfl; have e51 := N5.out.cell 1 _ rfl; have e5f := N5.out.frozen; clear hb5 h5))
                    · have NB5 := Lib.hid (NB.out.below HB5.out)
                      have I5 := Lib.hid (RowsOf.below IB.out HB5.out)
                      have B5 := Lib.hid (then_ BB.out HB5.out)
                      obtain ⟨W9, hW9⟩ : ∃ W9, W9 = w5.alloc (.cells #[.int .i64 (St s0 a1 z).next, .slice A5 n5 c5] 24) := ⟨_, rfl⟩
                      obtain ⟨g9, hg9⟩ : ∃ g, g = w5.heap.size := ⟨_, rfl⟩
                      have N9 : Hid (Own W9 g9 24 #[.int .i64 (St s0 a1 z).next, .slice A5 n5 c5]) := Lib.hid (by rw [hW9, hg9]; exact own_new _ _ _)
                      have NB9 : Hid (Own W9 g7 24 #[.int .i64 (St s0 a1 L).next, .slice A n c]) := Lib.hid (by rw [hW9]; exact NB5.out.alloc _)
                      have H9 : Hid (LsAt W9 (St s0 a1 z) A5 n5 c5) := Lib.hid (by rw [hW9]; exact H5.out.keep (new1 _ _))
                      have I9 : Hid (Is W9 (some a2) n2 c2 l2) := Lib.hid (by rw [hW9]; exact RowsOf.below I5.out (new1 _ _))
                      have B9 : Hid (Below w.heap.size w W9) := Lib.hid (by rw [hW9]; exact then_ B5.out (new1 _ _))
                      have hgNB : g7 < g9 := by rw [hg9]; exact NB5.out.lt
                      rw [← hW9, ← hg9]
                      clear hW9 hg9 sNB0 uNB0 dNB0 sNB1 uNB1 dNB1 dz CF CE
                      have n90 := N9.out.cell 0 _ rfl
                      have n91 := N9.out.cell 1 _ rfl
                      have m90 := NB9.out.cell 0 _ rfl
                      have m91 := NB9.out.cell 1 _ rfl
                      have m9f := NB9.out.frozen
                      have cz9 : W9.cell? (a2.add j) = some (.int .i64 z) := by
                        obtain ⟨a', z', e, hz', hc⟩ := Is.at_ I9.out hlt
                        obtain rfl := Option.some.inj e
                        obtain rfl : z = z' := Option.some.inj (HZJ.out.symm.trans hz')
                        exact hc
                      have hLb : Said (0 ≤ z ∧ z ≤ 1099511627775) := ⟨by have := LB.out; omega⟩
                      have NBa := Lib.hid ((NB9.out.set 0 (.int .i64 (St s0 a1 z).next)).set 1 (.slice A5 n5 c5))
                      have HBa := Lib.hid (ls_box (ls_box H9.out NB9.out 0 (.int .i64 (St s0 a1 z).next)) (NB9.out.set 0 _) 1 (.slice A5 n5 c5))
                      have IBa : Hid (Is ((W9.setCell ⟨g7, 0, none⟩ (.int .i64 (St s0 a1 z).next)).setCell ⟨g7, 1, none⟩ (.slice A5 n5 c5)) (some a2) n2 c2 l2) := Lib.hid (RowsOf.keep (RowsOf.keep I9.out (Lib.grownBy_setCell _ _ _ _) (fun a ha hh => by injection hh with hh; have := HA2.out a ha (by omega); omega)) (Lib.grownBy_setCell _ _ _ _) (fun a ha hh => by injection hh with hh; have := HA2.out a ha (by omega); omega))
                      have BBa := Lib.hid ((B9.out.setCell (p := ⟨g7, 0, none⟩) (by show w.heap.size ≤ g7; omega) (.int .i64 (St s0 a1 z).next)).setCell (p := ⟨g7, 1, none⟩) (by show w.heap.size ≤ g7; omega) (.slice A5 n5 c5))
                      have haa : (a1 != a1) = false := by simp
                      have hlzz := hlz.out
                      go_wp2
                      go_roundw
                      case rel => exact ⟨j + 1, z, A5, n5, c5, by omega, by omega, rfl, by go_num, hLb, NBa.out, HBa.out, IBa.out, BBa.out⟩
                      case measure => simp [intOf]; omega
                    · have NB5 := Lib.hid (NB4.out.below HB5.out)
                      have I5 := Lib.hid (RowsOf.below I4.out HB5.out)
                      have B5 := Lib.hid (then_ B4.out HB5.out)
                      obtain ⟨W9, hW9⟩ : ∃ W9, W9 = (w5.setCell ⟨wr.heap.size, 0, none⟩ (.int .i64 (St s0 a1 z).next)).setCell ⟨wr.heap.size, 1, none⟩ (.slice A5 n5 c5) := ⟨_, rfl⟩
                      have N9 : Hid (Own W9 wr.heap.size 24 #[.int .i64 (St s0 a1 z).next, .slice A5 n5 c5]) := Lib.hid (by rw [hW9]; exact (N5.out.set 0 _).set 1 _)
                      have NB9 : Hid (Own W9 g7 24 #[.int .i64 (St s0 a1 L).next, .slice A n c]) := Lib.hid (by rw [hW9]; exact (NB5.out.other _ _ _ (by have := NB.out.lt; omega)).other _ _ _ (by have := NB.out.lt; omega))
                      have H9 : Hid (LsAt W9 (St s0 a1 z) A5 n5 c5) := Lib.hid (by rw [hW9]; exact ls_box (ls_box H5.out N5.out 0 _) (N5.out.set 0 _) 1 _)
                      have hgw : w.heap.size < wr.heap.size := by have := hGW.out; omega
                      have I9 : Hid (Is W9 (some a2) n2 c2 l2) := Lib.hid (by rw [hW9]; exact RowsOf.keep (RowsOf.keep I5.out (Lib.grownBy_setCell _ _ _ _) (fun a ha hh => by injection hh with hh; have := HA2.out a ha (by omega); omega)) (Lib.grownBy_setCell _ _ _ _) (fun a ha hh => by injection hh with hh; have := HA2.out a ha (by omega); omega))
                      have B9 : Hid (Below w.heap.size w W9) := Lib.hid (by rw [hW9]; exact (B5.out.setCell (p := ⟨wr.heap.size, 0, none⟩) (by show w.heap.size ≤ wr.heap.size; omega) _).setCell (p := ⟨wr.heap.size, 1, none⟩) (by show w.heap.size ≤ wr.heap.size; omega) _)
                      have hgNB : g7 < wr.heap.size := by have := NB.out.lt; omega
                      rw [← hW9]
                      obtain ⟨g9, hg9⟩ : ∃ g, g = wr.heap.size := ⟨_, rfl⟩
                      rw [← hg9] at N9 ⊢
                      rw [← hg9] at hgNB
                      clear hW9 hg9 sNB0 uNB0 dNB0 sNB1 uNB1 dNB1 dz CF CE e50 e51 e5f
                      have n90 := N9.out.cell 0 _ rfl
                      have n91 := N9.out.cell 1 _ rfl
                      have m90 := NB9.out.cell 0 _ rfl
                      have m91 := NB9.out.cell 1 _ rfl
                      have m9f := NB9.out.frozen
                      have cz9 : W9.cell? (a2.add j) = some (.int .i64 z) := by
                        obtain ⟨a', z', e, hz', hc⟩ := Is.at_ I9.out hlt
                        obtain rfl := Option.some.inj e
                        obtain rfl : z = z' := Option.some.inj (HZJ.out.symm.trans hz')
                        exact hc
                      have hLb : Said (0 ≤ z ∧ z ≤ 1099511627775) := ⟨by have := LB.out; omega⟩
                      have NBa := Lib.hid ((NB9.out.set 0 (.int .i64 (St s0 a1 z).next)).set 1 (.slice A5 n5 c5))
                      have HBa := Lib.hid (ls_box (ls_box H9.out NB9.out 0 (.int .i64 (St s0 a1 z).next)) (NB9.out.set 0 _) 1 (.slice A5 n5 c5))
                      have IBa : Hid (Is ((W9.setCell ⟨g7, 0, none⟩ (.int .i64 (St s0 a1 z).next)).setCell ⟨g7, 1, none⟩ (.slice A5 n5 c5)) (some a2) n2 c2 l2) := Lib.hid (RowsOf.keep (RowsOf.keep I9.out (Lib.grownBy_setCell _ _ _ _) (fun a ha hh => by injection hh with hh; have := HA2.out a ha (by omega); omega)) (Lib.grownBy_setCell _ _ _ _) (fun a ha hh => by injection hh with hh; have := HA2.out a ha (by omega); omega))
                      have BBa := Lib.hid ((B9.out.setCell (p := ⟨g7, 0, none⟩) (by show w.heap.size ≤ g7; omega) (.int .i64 (St s0 a1 z).next)).setCell (p := ⟨g7, 1, none⟩) (by show w.heap.size ≤ g7; omega) (.slice A5 n5 c5))
                      have haa : (a1 != a1) = false := by simp
                      have hlzz := hlz.out
                      go_wp2
                      go_roundw
                      case rel => exact ⟨j + 1, z, A5, n5, c5, by omega, by omega, rfl, by go_num, hLb, NBa.out, HBa.out, IBa.out, BBa.out⟩
                      case measure => simp [intOf]; omega
                  · have hlz : Said (z ≤ L) := ⟨hlz0⟩
                    clear hlz0
                    go_wp2
                    clear n60 n61
                    have b4 := new1 wr (.cells zLs 24)
                    have NB4 := Lib.hid (NB.out.below b4)
                    have sNB0 : wr.cell? ⟨g7, 0, none⟩ = some (.int .i64 (St s0 a1 L).next) := NB.out.cell 0 _ rfl
                    have uNB0 : (wr.alloc (.cells zLs 24)).cell? ⟨g7, 0, none⟩ = some (.int .i64 (St s0 a1 L).next) := NB4.out.cell 0 _ rfl
                    have sNB1 : wr.cell? ⟨g7, 1, none⟩ = some (.slice A n c) := NB.out.cell 1 _ rfl
                    have uNB1 : (wr.alloc (.cells zLs 24)).cell? ⟨g7, 1, none⟩ = some (.slice A n c) := NB4.out.cell 1 _ rfl
                    have I4 := Lib.hid (RowsOf.below IB.out b4)
                    have B4 := Lib.hid (then_ BB.out b4)
                    have N4 := Lib.hid (own_new wr zLs 24)
                    have c2z4 : (wr.alloc (.cells zLs 24)).cell? (a2.add j) = some (.int .i64 z) := (b4.cell (World.block_lt_of_cell? _ _ c2z)).trans c2z
                    have CF := Lib.hid ((by have k := keep_fine (L := L) (z := z) MS.out HTT.out HZ.out A n c (wr.drew) (HB.out.keep (new_drew _)); rw [if_neg (Int.not_lt.2 hlz.out)] at k; exact k))
                    have CE := Lib.hid ((by have k := keep_fine (L := L) (z := z) MS.out HTT.out HZ.out A n c ((wr.alloc (.cells zLs 24)).drew) ((HB.out.keep (new1 _ _)).keep (new_drew _)); rw [if_neg (Int.not_lt.2 hlz.out)] at k; exact k))
                    have hnNB : ¬ (wr.heap.size = g7) := by have := NB.out.lt; omega
                    have hnz : ¬ (wr.heap.size = ((a2.add j)).block) := by have := World.block_lt_of_cell? _ _ c2z; omega
                    clear b4
                    go_region_held3 (fun w' => w'.cell? ⟨g7, 0, none⟩ = some (.int .i64 (St s0 a1 L).next) ∧ w'.cell? ⟨g7, 1, none⟩ = some (.slice A n c) ∧ w'.cell? (a2.add j) = some (.int .i64 z)) (go_keep) (first
                      | (go_at_call 19; refine CF.out.mono ?_; rintro e w5 ⟨A5, n5, c5, rfl, h5, hb5⟩; have HB5 := Lib.hid (then_ (new_drew _) hb5); have H5 := Lib.hid h5; have dNB0 := (NB.out.below HB5.out).cell 0 _ rfl; have dNB1 := (NB.out.below HB5.out).cell 1 _ rfl; have dz := (HB5.out.cell (World.block_lt_of_cell? _ _ c2z)).trans c2z; clear hb5 h5)
                      | (go_at_call 19; refine CE.out.mono ?_; rintro e w5 ⟨A5, n5, c5, rfl, h5, hb5⟩; have HB5 := Lib.hid (then_ (new_drew _) hb5); have H5 := Lib.hid h5; have dNB0 := (NB4.out.below HB5.out).cell 0 _ rfl; have dNB1 := (NB4.out.below HB5.out).cell 1 _ rfl; have dz := (HB5.out.cell (World.block_lt_of_cell? _ _ c2z4)).trans c2z4; have N5 := Lib.hid (N4.out.below HB5.out); have e50 := N5.out.cell 0 _ rfl; have e51 := N5.out.cell 1 _ rfl; have e5f := N5.out.frozen; clear hb5 h5))
                    · have NB5 := Lib.hid (NB.out.below HB5.out)
                      have I5 := Lib.hid (RowsOf.below IB.out HB5.out)
                      have B5 := Lib.hid (then_ BB.out HB5.out)
                      obtain ⟨W9, hW9⟩ : ∃ W9, W9 = w5.alloc (.cells #[.int .i64 (St s0 a1 L).next, .slice A5 n5 c5] 24) := ⟨_, rfl⟩
                      obtain ⟨g9, hg9⟩ : ∃ g, g = w5.heap.size := ⟨_, rfl⟩
                      have N9 : Hid (Own W9 g9 24 #[.int .i64 (St s0 a1 L).next, .slice A5 n5 c5]) := Lib.hid (by rw [hW9, hg9]; exact own_new _ _ _)
                      have NB9 : Hid (Own W9 g7 24 #[.int .i64 (St s0 a1 L).next, .slice A n c]) := Lib.hid (by rw [hW9]; exact NB5.out.alloc _)
                      have H9 : Hid (LsAt W9 (St s0 a1 L) A5 n5 c5) := Lib.hid (by rw [hW9]; exact H5.out.keep (new1 _ _))
                      have I9 : Hid (Is W9 (some a2) n2 c2 l2) := Lib.hid (by rw [hW9]; exact RowsOf.below I5.out (new1 _ _))
                      have B9 : Hid (Below w.heap.size w W9) := Lib.hid (by rw [hW9]; exact then_ B5.out (new1 _ _))
                      have hgNB : g7 < g9 := by rw [hg9]; exact NB5.out.lt
                      rw [← hW9, ← hg9]
                      clear hW9 hg9 sNB0 uNB0 dNB0 sNB1 uNB1 dNB1 dz CF CE
                      have n90 := N9.out.cell 0 _ rfl
                      have n91 := N9.out.cell 1 _ rfl
                      have m90 := NB9.out.cell 0 _ rfl
                      have m91 := NB9.out.cell 1 _ rfl
                      have m9f := NB9.out.frozen
                      have cz9 : W9.cell? (a2.add j) = some (.int .i64 z) := by
                        obtain ⟨a', z', e, hz', hc⟩ := Is.at_ I9.out hlt
                        obtain rfl := Option.some.inj e
                        obtain rfl : z = z' := Option.some.inj (HZJ.out.symm.trans hz')
                        exact hc
                      have hLb : Said (0 ≤ L ∧ L ≤ 1099511627775) := ⟨by have := LB.out; omega⟩
                      have NBa := Lib.hid ((NB9.out.set 0 (.int .i64 (St s0 a1 L).next)).set 1 (.slice A5 n5 c5))
                      have HBa := Lib.hid (ls_box (ls_box H9.out NB9.out 0 (.int .i64 (St s0 a1 L).next)) (NB9.out.set 0 _) 1 (.slice A5 n5 c5))
                      have IBa : Hid (Is ((W9.setCell ⟨g7, 0, none⟩ (.int .i64 (St s0 a1 L).next)).setCell ⟨g7, 1, none⟩ (.slice A5 n5 c5)) (some a2) n2 c2 l2) := Lib.hid (RowsOf.keep (RowsOf.keep I9.out (Lib.grownBy_setCell _ _ _ _) (fun a ha hh => by injection hh with hh; have := HA2.out a ha (by omega); omega)) (Lib.grownBy_setCell _ _ _ _) (fun a ha hh => by injection hh with hh; have := HA2.out a ha (by omega); omega))
                      have BBa := Lib.hid ((B9.out.setCell (p := ⟨g7, 0, none⟩) (by show w.heap.size ≤ g7; omega) (.int .i64 (St s0 a1 L).next)).setCell (p := ⟨g7, 1, none⟩) (by show w.heap.size ≤ g7; omega) (.slice A5 n5 c5))
                      have haa : (a1 != a1) = false := by simp
                      have hlzz := hlz.out
                      go_wp2
                      go_roundw
                      case rel => exact ⟨j + 1, L, A5, n5, c5, by omega, by omega, rfl, by go_num, hLb, NBa.out, HBa.out, IBa.out, BBa.out⟩
                      case measure => simp [intOf]; omega
                    · have NB5 := Lib.hid (NB4.out.below HB5.out)
                      have I5 := Lib.hid (RowsOf.below I4.out HB5.out)
                      have B5 := Lib.hid (then_ B4.out HB5.out)
                      obtain ⟨W9, hW9⟩ : ∃ W9, W9 = (w5.setCell ⟨wr.heap.size, 0, none⟩ (.int .i64 (St s0 a1 L).next)).setCell ⟨wr.heap.size, 1, none⟩ (.slice A5 n5 c5) := ⟨_, rfl⟩
                      have N9 : Hid (Own W9 wr.heap.size 24 #[.int .i64 (St s0 a1 L).next, .slice A5 n5 c5]) := Lib.hid (by rw [hW9]; exact (N5.out.set 0 _).set 1 _)
                      have NB9 : Hid (Own W9 g7 24 #[.int .i64 (St s0 a1 L).next, .slice A n c]) := Lib.hid (by rw [hW9]; exact (NB5.out.other _ _ _ (by have := NB.out.lt; omega)).other _ _ _ (by have := NB.out.lt; omega))
                      have H9 : Hid (LsAt W9 (St s0 a1 L) A5 n5 c5) := Lib.hid (by rw [hW9]; exact ls_box (ls_box H5.out N5.out 0 _) (N5.out.set 0 _) 1 _)
                      have hgw : w.heap.size < wr.heap.size := by have := hGW.out; omega
                      have I9 : Hid (Is W9 (some a2) n2 c2 l2) := Lib.hid (by rw [hW9]; exact RowsOf.keep (RowsOf.keep I5.out (Lib.grownBy_setCell _ _ _ _) (fun a ha hh => by injection hh with hh; have := HA2.out a ha (by omega); omega)) (Lib.grownBy_setCell _ _ _ _) (fun a ha hh => by injection hh with hh; have := HA2.out a ha (by omega); omega))
                      have B9 : Hid (Below w.heap.size w W9) := Lib.hid (by rw [hW9]; exact (B5.out.setCell (p := ⟨wr.heap.size, 0, none⟩) (by show w.heap.size ≤ wr.heap.size; omega) _).setCell (p := ⟨wr.heap.size, 1, none⟩) (by show w.heap.size ≤ wr.heap.size; omega) _)
                      have hgNB : g7 < wr.heap.size := by have := NB.out.lt; omega
                      rw [← hW9]
                      obtain ⟨g9, hg9⟩ : ∃ g, g = wr.heap.size := ⟨_, rfl⟩
                      rw [← hg9] at N9 ⊢
                      rw [← hg9] at hgNB
                      clear hW9 hg9 sNB0 uNB0 dNB0 sNB1 uNB1 dNB1 dz CF CE e50 e51 e5f
                      have n90 := N9.out.cell 0 _ rfl
                      have n91 := N9.out.cell 1 _ rfl
                      have m90 := NB9.out.cell 0 _ rfl
                      have m91 := NB9.out.cell 1 _ rfl
                      have m9f := NB9.out.frozen
                      have cz9 : W9.cell? (a2.add j) = some (.int .i64 z) := by
                        obtain ⟨a', z', e, hz', hc⟩ := Is.at_ I9.out hlt
                        obtain rfl := Option.some.inj e
                        obtain rfl : z = z' := Option.some.inj (HZJ.out.symm.trans hz')
                        exact hc
                      have hLb : Said (0 ≤ L ∧ L ≤ 1099511627775) := ⟨by have := LB.out; omega⟩
                      have NBa := Lib.hid ((NB9.out.set 0 (.int .i64 (St s0 a1 L).next)).set 1 (.slice A5 n5 c5))
                      have HBa := Lib.hid (ls_box (ls_box H9.out NB9.out 0 (.int .i64 (St s0 a1 L).next)) (NB9.out.set 0 _) 1 (.slice A5 n5 c5))
                      have IBa : Hid (Is ((W9.setCell ⟨g7, 0, none⟩ (.int .i64 (St s0 a1 L).next)).setCell ⟨g7, 1, none⟩ (.slice A5 n5 c5)) (some a2) n2 c2 l2) := Lib.hid (RowsOf.keep (RowsOf.keep I9.out (Lib.grownBy_setCell _ _ _ _) (fun a ha hh => by injection hh with hh; have := HA2.out a ha (by omega); omega)) (Lib.grownBy_setCell _ _ _ _) (fun a ha hh => by injection hh with hh; have := HA2.out a ha (by omega); omega))
                      have BBa := Lib.hid ((B9.out.setCell (p := ⟨g7, 0, none⟩) (by show w.heap.size ≤ g7; omega) (.int .i64 (St s0 a1 L).next)).setCell (p := ⟨g7, 1, none⟩) (by show w.heap.size ≤ g7; omega) (.slice A5 n5 c5))
                      have haa : (a1 != a1) = false := by simp
                      have hlzz := hlz.out
                      go_wp2
                      go_roundw
                      case rel => exact ⟨j + 1, L, A5, n5, c5, by omega, by omega, rfl, by go_num, hLb, NBa.out, HBa.out, IBa.out, BBa.out⟩
                      case measure => simp [intOf]; omega
                | false =>
                  have HZ := Lib.hid hzb
                  clear hzb
                  go_wp2
                  clear n60 n61
                  have b4 := new1 wr (.cells zLs 24)
                  have NB4 := Lib.hid (NB.out.below b4)
                  have sNB0 : wr.cell? ⟨g7, 0, none⟩ = some (.int .i64 (St s0 a1 L).next) := NB.out.cell 0 _ rfl
                  have uNB0 : (wr.alloc (.cells zLs 24)).cell? ⟨g7, 0, none⟩ = some (.int .i64 (St s0 a1 L).next) := NB4.out.cell 0 _ rfl
                  have sNB1 : wr.cell? ⟨g7, 1, none⟩ = some (.slice A n c) := NB.out.cell 1 _ rfl
                  have uNB1 : (wr.alloc (.cells zLs 24)).cell? ⟨g7, 1, none⟩ = some (.slice A n c) := NB4.out.cell 1 _ rfl
                  have I4 := Lib.hid (RowsOf.below IB.out b4)
                  have B4 := Lib.hid (then_ BB.out b4)
                  have N4 := Lib.hid (own_new wr zLs 24)
                  have c2z4 : (wr.alloc (.cells zLs 24)).cell? (a2.add j) = some (.int .i64 z) := (b4.cell (World.block_lt_of_cell? _ _ c2z)).trans c2z
                  have CF := Lib.hid (keep_late MS.out HTT.out HZ.out A n c (wr.drew) (HB.out.keep (new_drew _)))
                  have CE := Lib.hid (keep_late MS.out HTT.out HZ.out A n c ((wr.alloc (.cells zLs 24)).drew) ((HB.out.keep (new1 _ _)).keep (new_drew _)))
                  have hnNB : ¬ (wr.heap.size = g7) := by have := NB.out.lt; omega
                  have hnz : ¬ (wr.heap.size = ((a2.add j)).block) := by have := World.block_lt_of_cell? _ _ c2z; omega
                  clear b4
                  go_region_held3 (fun w' => w'.cell? ⟨g7, 0, none⟩ = some (.int .i64 (St s0 a1 L).next) ∧ w'.cell? ⟨g7, 1, none⟩ = some (.slice A n c) ∧ w'.cell? (a2.add j) = some (.int .i64 z)) (go_keep) (first
                    | (go_at_call 19; refine CF.out.mono ?_; rintro e w5 ⟨A5, n5, c5, rfl, h5, hb5⟩; have HB5 := Lib.hid (then_ (new_drew _) hb5); have H5 := Lib.hid h5; have dNB0 := (NB.out.below HB5.out).cell 0 _ rfl; have dNB1 := (NB.out.below HB5.out).cell 1 _ rfl; have dz := (HB5.out.cell (World.block_lt_of_cell? _ _ c2z)).trans c2z; clear hb5 h5)
                    | (go_at_call 19; refine CE.out.mono ?_; rintro e w5 ⟨A5, n5, c5, rfl, h5, hb5⟩; have HB5 := Lib.hid (then_ (new_drew _) hb5); have H5 := Lib.hid h5; have dNB0 := (NB4.out.below HB5.out).cell 0 _ rfl; have dNB1 := (NB4.out.below HB5.out).cell 1 _ rfl; have dz := (HB5.out.cell (World.block_lt_of_cell? _ _ c2z4)).trans c2z4; have N5 := Lib.hid (N4.out.below HB5.out); have e50 := N5.out.cell 0 _ rfl; have e51 := N5.out.cell 1 _ rfl; have e5f := N5.out.frozen; clear hb5 h5))
                  · have NB5 := Lib.hid (NB.out.below HB5.out)
                    have I5 := Lib.hid (RowsOf.below IB.out HB5.out)
                    have B5 := Lib.hid (then_ BB.out HB5.out)
                    obtain ⟨W9, hW9⟩ : ∃ W9, W9 = w5.alloc (.cells #[.int .i64 (St s0 a1 L).next, .slice A5 n5 c5] 24) := ⟨_, rfl⟩
                    obtain ⟨g9, hg9⟩ : ∃ g, g = w5.heap.size := ⟨_, rfl⟩
                    have N9 : Hid (Own W9 g9 24 #[.int .i64 (St s0 a1 L).next, .slice A5 n5 c5]) := Lib.hid (by rw [hW9, hg9]; exact own_new _ _ _)
                    have NB9 : Hid (Own W9 g7 24 #[.int .i64 (St s0 a1 L).next, .slice A n c]) := Lib.hid (by rw [hW9]; exact NB5.out.alloc _)
                    have H9 : Hid (LsAt W9 (St s0 a1 L) A5 n5 c5) := Lib.hid (by rw [hW9]; exact H5.out.keep (new1 _ _))
                    have I9 : Hid (Is W9 (some a2) n2 c2 l2) := Lib.hid (by rw [hW9]; exact RowsOf.below I5.out (new1 _ _))
                    have B9 : Hid (Below w.heap.size w W9) := Lib.hid (by rw [hW9]; exact then_ B5.out (new1 _ _))
                    have hgNB : g7 < g9 := by rw [hg9]; exact NB5.out.lt
                    rw [← hW9, ← hg9]
                    clear hW9 hg9 sNB0 uNB0 dNB0 sNB1 uNB1 dNB1 dz CF CE
                    go_wp2_with fail
                    refine (live_any _).mono ?_; rintro e w9 ⟨rfl, hb⟩
                    have BBa := Lib.hid (then_ B9.out hb); clear hb
                    go_wp2
                    go_ret
                    exact ⟨rfl, BBa.out⟩
                  · have NB5 := Lib.hid (NB4.out.below HB5.out)
                    have I5 := Lib.hid (RowsOf.below I4.out HB5.out)
                    have B5 := Lib.hid (then_ B4.out HB5.out)
                    obtain ⟨W9, hW9⟩ : ∃ W9, W9 = (w5.setCell ⟨wr.heap.size, 0, none⟩ (.int .i64 (St s0 a1 L).next)).setCell ⟨wr.heap.size, 1, none⟩ (.slice A5 n5 c5) := ⟨_, rfl⟩
                    have N9 : Hid (Own W9 wr.heap.size 24 #[.int .i64 (St s0 a1 L).next, .slice A5 n5 c5]) := Lib.hid (by rw [hW9]; exact (N5.out.set 0 _).set 1 _)
                    have NB9 : Hid (Own W9 g7 24 #[.int .i64 (St s0 a1 L).next, .slice A n c]) := Lib.hid (by rw [hW9]; exact (NB5.out.other _ _ _ (by have := NB.out.lt; omega)).other _ _ _ (by have := NB.out.lt; omega))
                    have H9 : Hid (LsAt W9 (St s0 a1 L) A5 n5 c5) := Lib.hid (by rw [hW9]; exact ls_box (ls_box H5.out N5.out 0 _) (N5.out.set 0 _) 1 _)
                    have hgw : w.heap.size < wr.heap.size := by have := hGW.out; omega
                    have I9 : Hid (Is W9 (some a2) n2 c2 l2) := Lib.hid (by rw [hW9]; exact RowsOf.keep (RowsOf.keep I5.out (Lib.grownBy_setCell _ _ _ _) (fun a ha hh => by injection hh with hh; have := HA2.out a ha (by omega); omega)) (Lib.grownBy_setCell _ _ _ _) (fun a ha hh => by injection hh with hh; have := HA2.out a ha (by omega); omega))
                    have B9 : Hid (Below w.heap.size w W9) := Lib.hid (by rw [hW9]; exact (B5.out.setCell (p := ⟨wr.heap.size, 0, none⟩) (by show w.heap.size ≤ wr.heap.size; omega) _).setCell (p := ⟨wr.heap.size, 1, none⟩) (by show w.heap.size ≤ wr.heap.size; omega) _)
                    have hgNB : g7 < wr.heap.size := by have := NB.out.lt; omega
                    rw [← hW9]
                    obtain ⟨g9, hg9⟩ : ∃ g, g = wr.heap.size := ⟨_, rfl⟩
                    rw [← hg9] at N9 ⊢
                    rw [← hg9] at hgNB
                    clear hW9 hg9 sNB0 uNB0 dNB0 sNB1 uNB1 dNB1 dz CF CE e50 e51 e5f
                    go_wp2_with fail
                    refine (live_any _).mono ?_; rintro e w9 ⟨rfl, hb⟩
                    have BBa := Lib.hid (then_ B9.out hb); clear hb
                    go_wp2
                    go_ret
                    exact ⟨rfl, BBa.out⟩
              · obtain rfl : j = n2 := by omega
                have F1 := Lib.hid (st_due (a1 := a1) (L := L) MS.out)
                have hwr1 : IntKind.i64.wrap (L + a1) = L + a1 := by rw [IntKind.wrap_i64]; omega
                go_wp2_with fail
                refine (due_any (St s0 a1 L) A n c (L + a1 - 1) _ HB.out (by rw [NN.out]; omega)).mono ?_; rintro e v1 ⟨P1, p1, q1, rfl, h1, hb⟩
                have NB1 := Lib.hid (NB.out.below hb); have HB1 := Lib.hid (HB.out.keep hb); have BB1 := Lib.hid (then_ BB.out hb); have D1 := Lib.hid h1
                clear hb h1 n60 n61
                have n60 := NB1.out.cell 0 _ rfl
                have n61 := NB1.out.cell 1 _ rfl
                go_wp2_with fail
                refine (in_any P1 p1 q1 _ (s0.next + 1) _ D1.out (by rw [← D1.out.len]; have := due_le2 (St s0 a1 L).l (L + a1 - 1); rw [st_len] at this; omega)).mono ?_; rintro e w' ⟨rfl, rfl⟩
                rw [F1.out.1]
                go_wp2_with fail
                refine (due_any (St s0 a1 L) A n c (L + a1) _ HB1.out (by rw [NN.out]; omega)).mono ?_; rintro e v2 ⟨P2, p2, q2, rfl, h2, hb⟩
                have BB2 := Lib.hid (then_ BB1.out hb); have D2 := Lib.hid h2
                clear hb h2 n60 n61
                go_wp2_with fail
                refine (in_any P2 p2 q2 _ (s0.next + 1) _ D2.out (by rw [← D2.out.len]; have := due_le2 (St s0 a1 L).l (L + a1); rw [st_len] at this; omega)).mono ?_; rintro e w' ⟨rfl, rfl⟩
                rw [F1.out.2]
                go_wp2_with fail
                refine (live_any _).mono ?_; rintro e v3 ⟨rfl, hb⟩
                have BB3 := Lib.hid (then_ BB2.out hb); clear hb
                go_wp2
                go_ret
                exact ⟨rfl, BB3.out⟩
          · have X_15 := Lib.hid (X_14.out.below HB5.out)
            have K_15 := Lib.hid (K_14.out.keep HB5.out)
            have I5 := Lib.hid (RowsOf.below I4.out HB5.out)
            have B5 := Lib.hid (then_ B4.out HB5.out)
            obtain ⟨W6, hW6⟩ : ∃ W6, W6 = (w5.setCell ⟨w1.heap.size, 0, none⟩ (.int .i64 (St s0 a1 z).next)).setCell ⟨w1.heap.size, 1, none⟩ (.slice A5 n5 c5) := ⟨_, rfl⟩
            have N6 : Hid (Own W6 w1.heap.size 24 #[.int .i64 (St s0 a1 z).next, .slice A5 n5 c5]) := Lib.hid (by rw [hW6]; exact (N5.out.set 0 _).set 1 _)
            have X_16 : Hid (Own W6 w.heap.size 24 #[.int .i64 s0.next, .slice A0 n0 c0]) := Lib.hid (by rw [hW6]; exact (X_15.out.other _ _ _ (by have := X_1.out.lt; omega)).other _ _ _ (by have := X_1.out.lt; omega))
            have K_16 : Hid (LsAt W6 s0 A0 n0 c0) := Lib.hid (by rw [hW6]; exact ls_box (ls_box K_15.out N5.out 0 _) (N5.out.set 0 _) 1 _)
            have H6 : Hid (LsAt W6 (St s0 a1 z) A5 n5 c5) := Lib.hid (by rw [hW6]; exact ls_box (ls_box H5.out N5.out 0 _) (N5.out.set 0 _) 1 _)
            have hgw : w.heap.size < w1.heap.size := by have := hGW.out; omega
            have I6 : Hid (Is W6 (some a2) n2 c2 l2) := Lib.hid (by rw [hW6]; exact RowsOf.keep (RowsOf.keep I5.out (Lib.grownBy_setCell _ _ _ _) (fun a ha hh => by injection hh with hh; have := HA2.out a ha (by omega); omega)) (Lib.grownBy_setCell _ _ _ _) (fun a ha hh => by injection hh with hh; have := HA2.out a ha (by omega); omega))
            have B6 : Hid (Below w.heap.size w W6) := Lib.hid (by rw [hW6]; exact (B5.out.setCell (p := ⟨w1.heap.size, 0, none⟩) (by show w.heap.size ≤ w1.heap.size; omega) _).setCell (p := ⟨w1.heap.size, 1, none⟩) (by show w.heap.size ≤ w1.heap.size; omega) _)
            have hgX_1 : w.heap.size < w1.heap.size := by have := X_1.out.lt; omega
            rw [← hW6]
            obtain ⟨g7, hg7⟩ : ∃ g, g = w1.heap.size := ⟨_, rfl⟩
            rw [← hg7] at N6 ⊢
            rw [← hg7] at hgX_1
            clear hW6 hg7 sX_10 uX_10 dX_10 sX_11 uX_11 dX_11 dz CF CE e50 e51 e5f
            have n60 := N6.out.cell 0 _ rfl
            have n61 := N6.out.cell 1 _ rfl
            have cz6 : W6.cell? a2 = some (.int .i64 z) := by
              obtain ⟨a', z', e, hz', hc⟩ := Is.at_ I6.out (show 0 < n2 by omega)
              obtain rfl := Option.some.inj e
              rw [Addr.add_zero'] at hc
              obtain rfl : z = z' := Option.some.inj (HZ0.out.symm.trans hz')
              exact hc
            go_wp2
            go_loopw [10, 11] (fun lv iv wr => ∃ (j : Nat) (L : Int) (A : Option Addr) (n c : Nat), 1 ≤ j ∧ j ≤ n2 ∧ lv = .int .i64 L ∧ iv = .int .i64 j ∧ Said (0 ≤ L ∧ L ≤ 1099511627775) ∧ Own wr g7 24 #[.int .i64 (St s0 a1 L).next, .slice A n c] ∧ LsAt wr (St s0 a1 L) A n c ∧ Is wr (some a2) n2 c2 l2 ∧ Below w.heap.size w wr) (fun _ iv _ => n2 - (intOf iv).toNat)
            case atStart => exact ⟨1, z, A5, n5, c5, by omega, by omega, rfl, rfl, ⟨⟨hz1, hz2⟩⟩, N6.out, H6.out, I6.out, B6.out⟩
            case round =>
              obtain ⟨j, L, A, n, c, hj1, hj, rfl, rfl, LB, nb, hbb, ib, bb⟩ := hrel
              have NB := Lib.hid nb; have HB := Lib.hid hbb; have IB := Lib.hid ib; have BB := Lib.hid bb
              have hltN := nb.lt
              have hGW : Hid (w.heap.size < wr.heap.size) := Lib.hid (by omega)
              have hnn : n = s0.l.length + 1 := by rw [← st_len s0 a1 L]; exact hbb.row.row.len.symm
              have NN : Said (n = s0.l.length + 1) := ⟨hnn⟩
              obtain ⟨hL1, hL2⟩ := LB.out
              clear nb hbb ib bb n60 n61 cz6 hnn
              have n60 := NB.out.cell 0 _ rfl
              have n61 := NB.out.cell 1 _ rfl
              by_cases hlt : j < n2
              · clear c2z
                clear HZ0 hz1 hz2 hin HD
                obtain ⟨z, hy⟩ : ∃ z, l2[j]? = some z := ⟨l2[j]'(by omega), List.getElem?_eq_getElem (by omega)⟩
                obtain ⟨a', y', e, hy', c2z⟩ := Is.at_ IB.out hlt
                obtain rfl := Option.some.inj e
                obtain rfl : z = y' := Option.some.inj (hy.symm.trans hy')
                have HZJ := Lib.hid hy
                have hin2 := HI2.out z (List.mem_of_getElem? hy)
                have hlti : (j : Int) < (n2 : Int) := by omega
                clear hy hy' hn2i hq0
                have hlti2 : ((j : Nat) : Int) < (n2 : Int) := hlti
                cases hzb : atB z with
                | true =>
                  have HZ := Lib.hid hzb
                  have hzb' := atB_iff.1 hzb
                  clear hzb
                  rcases Int.lt_or_le L z with hlz0 | hlz0
                  · have hlz : Said (L < z) := ⟨hlz0⟩
                    clear hlz0
                    go_wp2
                    clear n60 n61
                    have b4 := new1 wr (.cells zLs 24)
                    have NB4 := Lib.hid (NB.out.below b4)
                    have sNB0 : wr.cell? ⟨g7, 0, none⟩ = some (.int .i64 (St s0 a1 L).next) := NB.out.cell 0 _ rfl
                    have uNB0 : (wr.alloc (.cells zLs 24)).cell? ⟨g7, 0, none⟩ = some (.int .i64 (St s0 a1 L).next) := NB4.out.cell 0 _ rfl
                    have sNB1 : wr.cell? ⟨g7, 1, none⟩ = some (.slice A n c) := NB.out.cell 1 _ rfl
                    have uNB1 : (wr.alloc (.cells zLs 24)).cell? ⟨g7, 1, none⟩ = some (.slice A n c) := NB4.out.cell 1 _ rfl
                    have I4 := Lib.hid (RowsOf.below IB.out b4)
                    have B4 := Lib.hid (then_ BB.out b4)
                    have N4 := Lib.hid (own_new wr zLs 24)
                    have c2z4 : (wr.alloc (.cells zLs 24)).cell? (a2.add j) = some (.int .i64 z) := (b4.cell (World.block_lt_of_cell? _ _ c2z)).trans c2z
                    have CF := Lib.hid ((by have k := keep_fine (L := L) (z := z) MS.out HTT.out HZ.out A n c (wr.drew) (HB.out.keep (new_drew _)); rw [if_pos hlz.out] at k; exact k))
                    have CE := Lib.hid ((by have k := keep_fine (L := L) (z := z) MS.out HTT.out HZ.out A n c ((wr.alloc (.cells zLs 24)).drew) ((HB.out.keep (new1 _ _)).keep (new_drew _)); rw [if_pos hlz.out] at k; exact k))
                    have hnNB : ¬ (wr.heap.size = g7) := by have := NB.out.lt; omega
                    have hnz : ¬ (wr.heap.size = ((a2.add j)).block) := by have := World.block_lt_of_cell? _ _ c2z; omega
                    clear b4
                    go_region_held3 (fun w' => w'.cell? ⟨g7, 0, none⟩ = some (.int .i64 (St s0 a1 L).next) ∧ w'.cell? ⟨g7, 1, none⟩ = some (.slice A n c) ∧ w'.cell? (a2.add j) = some (.int .i64 z)) (go_keep) (first
                      | (go_at_call 19; refine CF.out.mono ?_; rintro e w5 ⟨A5, n5, c5, rfl, h5, hb5⟩; have HB5 := Lib.hid (then_ (new_drew _) hb5); have H5 := Lib.hid h5; have dNB0 := (NB.out.below HB5.out).cell 0 _ rfl; have dNB1 := (NB.out.below HB5.out).cell 1 _ rfl; have dz := (HB5.out.cell (World.block_lt_of_cell? _ _ c2z)).trans c2z; clear hb5 h5)
                      | (go_at_call 19; refine CE.out.mono ?_; rintro e w5 ⟨A5, n5, c5, rfl, h5, hb5⟩; have HB5 := Lib.hid (then_ (new_drew _) hb5); have H5 := Lib.hid h5; have dNB0 := (NB4.out.below HB5.out).cell 0 _ rfl; have dNB1 := (NB4.out.below HB5.out).cell 1 _ rfl; have dz := (HB5.out.cell (World.block_lt_of_cell? _ _ c2z4)).trans c2z4; have N5 := Lib.hid (N4.out.below HB5.out); have e50 := N5.out.cell 0 _ rfl; have e51 := N5.out.cell 1 _ rfl; have e5f := N5.out.frozen; clear hb5 h5))
                    · have NB5 := Lib.hid (NB.out.below HB5.out)
                      have I5 := Lib.hid (RowsOf.below IB.out HB5.out)
                      have B5 := Lib.hid (then_ BB.out HB5.out)
                      obtain ⟨W9, hW9⟩ : ∃ W9, W9 = w5.alloc (.cells #[.int .i64 (St s0 a1 z).next, .slice A5 n5 c5] 24) := ⟨_, rfl⟩
                      obtain ⟨g9, hg9⟩ : ∃ g, g = w5.heap.size := ⟨_, rfl⟩
                      have N9 : Hid (Own W9 g9 24 #[.int .i64 (St s0 a1 z).next, .slice A5 n5 c5]) := Lib.hid (by rw [hW9, hg9]; exact own_new _ _ _)
                      have NB9 : Hid (Own W9 g7 24 #[.int .i64 (St s0 a1 L).next, .slice A n c]) := Lib.hid (by rw [hW9]; exact NB5.out.alloc _)
                      have H9 : Hid (LsAt W9 (St s0 a1 z) A5 n5 c5) := Lib.hid (by rw [hW9]; exact H5.out.keep (new1 _ _))
                      have I9 : Hid (Is W9 (some a2) n2 c2 l2) := Lib.hid (by rw [hW9]; exact RowsOf.below I5.out (new1 _ _))
                      have B9 : Hid (Below w.heap.size w W9) := Lib.hid (by rw [hW9]; exact then_ B5.out (new1 _ _))
                      have hgNB : g7 < g9 := by rw [hg9]; exact NB5.out.lt
                      rw [← hW9, ← hg9]
                      clear hW9 hg9 sNB0 uNB0 dNB0 sNB1 uNB1 dNB1 dz CF CE
                      have n90 := N9.out.cell 0 _ rfl
                      have n91 := N9.out.cell 1 _ rfl
                      have m90 := NB9.out.cell 0 _ rfl
                      have m91 := NB9.out.cell 1 _ rfl
                      have m9f := NB9.out.frozen
                      have cz9 : W9.cell? (a2.add j) = some (.int .i64 z) := by
                        obtain ⟨a', z', e, hz', hc⟩ := Is.at_ I9.out hlt
                        obtain rfl := Option.some.inj e
                        obtain rfl : z = z' := Option.some.inj (HZJ.out.symm.trans hz')
                        exact hc
                      have hLb : Said (0 ≤ z ∧ z ≤ 1099511627775) := ⟨by have := LB.out; omega⟩
                      have NBa := Lib.hid ((NB9.out.set 0 (.int .i64 (St s0 a1 z).next)).set 1 (.slice A5 n5 c5))
                      have HBa := Lib.hid (ls_box (ls_box H9.out NB9.out 0 (.int .i64 (St s0 a1 z).next)) (NB9.out.set 0 _) 1 (.slice A5 n5 c5))
                      have IBa : Hid (Is ((W9.setCell ⟨g7, 0, none⟩ (.int .i64 (St s0 a1 z).next)).setCell ⟨g7, 1, none⟩ (.slice A5 n5 c5)) (some a2) n2 c2 l2) := Lib.hid (RowsOf.keep (RowsOf.keep I9.out (Lib.grownBy_setCell _ _ _ _) (fun a ha hh => by injection hh with hh; have := HA2.out a ha (by omega); omega)) (Lib.grownBy_setCell _ _ _ _) (fun a ha hh => by injection hh with hh; have := HA2.out a ha (by omega); omega))
                      have BBa := Lib.hid ((B9.out.setCell (p := ⟨g7, 0, none⟩) (by show w.heap.size ≤ g7; omega) (.int .i64 (St s0 a1 z).next)).setCell (p := ⟨g7, 1, none⟩) (by show w.heap.size ≤ g7; omega) (.slice A5 n5 c5))
                      have haa : (a1 != a1) = false := by simp
                      have hlzz := hlz.out
                      go_wp2
                      go_roundw
                      case rel => exact ⟨j + 1, z, A5, n5, c5, by omega, by omega, rfl, by go_num, hLb, NBa.out, HBa.out, IBa.out, BBa.out⟩
                      case measure => simp [intOf]; omega
                    · have NB5 := Lib.hid (NB4.out.below HB5.out)
                      have I5 := Lib.hid (RowsOf.below I4.out HB5.out)
                      have B5 := Lib.hid (then_ B4.out HB5.out)
                      obtain ⟨W9, hW9⟩ : ∃ W9, W9 = (w5.setCell ⟨wr.heap.size, 0, none⟩ (.int .i64 (St s0 a1 z).next)).setCell ⟨wr.heap.size, 1, none⟩ (.slice A5 n5 c5) := ⟨_, rfl⟩
                      have N9 : Hid (Own W9 wr.heap.size 24 #[.int .i64 (St s0 a1 z).next, .slice A5 n5 c5]) := Lib.hid (by rw [hW9]; exact (N5.out.set 0 _).set 1 _)
                      have NB9 : Hid (Own W9 g7 24 #[.int .i64 (St s0 a1 L).next, .slice A n c]) := Lib.hid (by rw [hW9]; exact (NB5.out.other _ _ _ (by have := NB.out.lt; omega)).other _ _ _ (by have := NB.out.lt; omega))
                      have H9 : Hid (LsAt W9 (St s0 a1 z) A5 n5 c5) := Lib.hid (by rw [hW9]; exact ls_box (ls_box H5.out N5.out 0 _) (N5.out.set 0 _) 1 _)
                      have hgw : w.heap.size < wr.heap.size := by have := hGW.out; omega
                      have I9 : Hid (Is W9 (some a2) n2 c2 l2) := Lib.hid (by rw [hW9]; exact RowsOf.keep (RowsOf.keep I5.out (Lib.grownBy_setCell _ _ _ _) (fun a ha hh => by injection hh with hh; have := HA2.out a ha (by omega); omega)) (Lib.grownBy_setCell _ _ _ _) (fun a ha hh => by injection hh with hh; have := HA2.out a ha (by omega); omega))
                      have B9 : Hid (Below w.heap.size w W9) := Lib.hid (by rw [hW9]; exact (B5.out.setCell (p := ⟨wr.heap.size, 0, none⟩) (by show w.heap.size ≤ wr.heap.size; omega) _).setCell (p := ⟨wr.heap.size, 1, none⟩) (by show w.heap.size ≤ wr.heap.size; omega) _)
                      have hgNB : g7 < wr.heap.size := by have := NB.out.lt; omega
                      rw [← hW9]
                      obtain ⟨g9, hg9⟩ : ∃ g, g = wr.heap.size := ⟨_, rfl⟩
                      rw [← hg9] at N9 ⊢
                      rw [← hg9] at hgNB
                      clear hW9 hg9 sNB0 uNB0 dNB0 sNB1 uNB1 dNB1 dz CF CE e50 e51 e5f
                      have n90 := N9.out.cell 0 _ rfl
                      have n91 := N9.out.cell 1 _ rfl
                      have m90 := NB9.out.cell 0 _ rfl
                      have m91 := NB9.out.cell 1 _ rfl
                      have m9f := NB9.out.frozen
                      have cz9 : W9.cell? (a2.add j) = some (.int .i64 z) := by
                        obtain ⟨a', z', e, hz', hc⟩ := Is.at_ I9.out hlt
                        obtain rfl := Option.some.inj e
                        obtain rfl : z = z' := Option.some.inj (HZJ.out.symm.trans hz')
                        exact hc
                      have hLb : Said (0 ≤ z ∧ z ≤ 1099511627775) := ⟨by have := LB.out; omega⟩
                      have NBa := Lib.hid ((NB9.out.set 0 (.int .i64 (St s0 a1 z).next)).set 1 (.slice A5 n5 c5))
                      have HBa := Lib.hid (ls_box (ls_box H9.out NB9.out 0 (.int .i64 (St s0 a1 z).next)) (NB9.out.set 0 _) 1 (.slice A5 n5 c5))
                      have IBa : Hid (Is ((W9.setCell ⟨g7, 0, none⟩ (.int .i64 (St s0 a1 z).next)).setCell ⟨g7, 1, none⟩ (.slice A5 n5 c5)) (some a2) n2 c2 l2) := Lib.hid (RowsOf.keep (RowsOf.keep I9.out (Lib.grownBy_setCell _ _ _ _) (fun a ha hh => by injection hh with hh; have := HA2.out a ha (by omega); omega)) (Lib.grownBy_setCell _ _ _ _) (fun a ha hh => by injection hh with hh; have := HA2.out a ha (by omega); omega))
                      have BBa := Lib.hid ((B9.out.setCell (p := ⟨g7, 0, none⟩) (by show w.heap.size ≤ g7; omega) (.int .i64 (St s0 a1 z).next)).setCell (p := ⟨g7, 1, none⟩) (by show w.heap.size ≤ g7; omega) (.slice A5 n5 c5))
                      have haa : (a1 != a1) = false := by simp
                      have hlzz := hlz.out
                      go_wp2
                      go_roundw
                      case rel => exact ⟨j + 1, z, A5, n5, c5, by omega, by omega, rfl, by go_num, hLb, NBa.out, HBa.out, IBa.out, BBa.out⟩
                      case measure => simp [intOf]; omega
                  · have hlz : Said (z ≤ L) := ⟨hlz0⟩
                    clear hlz0
                    go_wp2
                    clear n60 n61
                    have b4 := new1 wr (.cells zLs 24)
                    have NB4 := Lib.hid (NB.out.below b4)
                    have sNB0 : wr.cell? ⟨g7, 0, none⟩ = some (.int .i64 (St s0 a1 L).next) := NB.out.cell 0 _ rfl
                    have uNB0 : (wr.alloc (.cells zLs 24)).cell? ⟨g7, 0, none⟩ = some (.int .i64 (St s0 a1 L).next) := NB4.out.cell 0 _ rfl
                    have sNB1 : wr.cell? ⟨g7, 1, none⟩ = some (.slice A n c) := NB.out.cell 1 _ rfl
                    have uNB1 : (wr.alloc (.cells zLs 24)).cell? ⟨g7, 1, none⟩ = some (.slice A n c) := NB4.out.cell 1 _ rfl
                    have I4 := Lib.hid (RowsOf.below IB.out b4)
                    have B4 := Lib.hid (then_ BB.out b4)
                    have N4 := Lib.hid (own_new wr zLs 24)
                    have c2z4 : (wr.alloc (.cells zLs 24)).cell? (a2.add j) = some (.int .i64 z) := (b4.cell (World.block_lt_of_cell? _ _ c2z)).trans c2z
                    have CF := Lib.hid ((by have k := keep_fine (L := L) (z := z) MS.out HTT.out HZ.out A n c (wr.drew) (HB.out.keep (new_drew _)); rw [if_neg (Int.not_lt.2 hlz.out)] at k; exact k))
                    have CE := Lib.hid ((by have k := keep_fine (L := L) (z := z) MS.out HTT.out HZ.out A n c ((wr.alloc (.cells zLs 24)).drew) ((HB.out.keep (new1 _ _)).keep (new_drew _)); rw [if_neg (Int.not_lt.2 hlz.out)] at k; exact k))
                    have hnNB : ¬ (wr.heap.size = g7) := by have := NB.out.lt; omega
                    have hnz : ¬ (wr.heap.size = ((a2.add j)).block) := by have := World.block_lt_of_cell? _ _ c2z; omega
                    clear b4
                    go_region_held3 (fun w' => w'.cell? ⟨g7, 0, none⟩ = some (.int .i64 (St s0 a1 L).next) ∧ w'.cell? ⟨g7, 1, none⟩ = some (.slice A n c) ∧ w'.cell? (a2.add j) = some (.int .i64 z)) (go_keep) (first
                      | (go_at_call 19; refine CF.out.mono ?_; rintro e w5 ⟨A5, n5, c5, rfl, h5, hb5⟩; have HB5 := Lib.hid (then_ (new_drew _) hb5); have H5 := Lib.hid h5; have dNB0 := (NB.out.below HB5.out).cell 0 _ rfl; have dNB1 := (NB.out.below HB5.out).cell 1 _ rfl; have dz := (HB5.out.cell (World.block_lt_of_cell? _ _ c2z)).trans c2z; clear hb5 h5)
                      | (go_at_call 19; refine CE.out.mono ?_; rintro e w5 ⟨A5, n5, c5, rfl, h5, hb5⟩; have HB5 := Lib.hid (then_ (new_drew _) hb5); have H5 := Lib.hid h5; have dNB0 := (NB4.out.below HB5.out).cell 0 _ rfl; have dNB1 := (NB4.out.below HB5.out).cell 1 _ rfl; have dz := (HB5.out.cell (World.block_lt_of_cell? _ _ c2z4)).trans c2z4; have N5 := Lib.hid (N4.out.below HB5.out); have e50 := N5.out.cell 0 _ rfl; have e51 := N5.out.cell 1 _ rfl; have e5f := N5.out.frozen; clear hb5 h5))
                    · have NB5 := Lib.hid (NB.out.below HB5.out)
                      have I5 := Lib.hid (RowsOf.below IB.out HB5.out)
                      have B5 := Lib.hid (then_ BB.out HB5.out)
                      obtain ⟨W9, hW9⟩ : ∃ W9, W9 = w5.alloc (.cells #[.int .i64 (St s0 a1 L).next, .slice A5 n5 c5] 24) := ⟨_, rfl⟩
                      obtain ⟨g9, hg9⟩ : ∃ g, g = w5.heap.size := ⟨_, rfl⟩
                      have N9 : Hid (Own W9 g9 24 #[.int .i64 (St s0 a1 L).next, .slice A5 n5 c5]) := Lib.hid (by rw [hW9, hg9]; exact own_new _ _ _)
                      have NB9 : Hid (Own W9 g7 24 #[.int .i64 (St s0 a1 L).next, .slice A n c]) := Lib.hid (by rw [hW9]; exact NB5.out.alloc _)
                      have H9 : Hid (LsAt W9 (St s0 a1 L) A5 n5 c5) := Lib.hid (by rw [hW9]; exact H5.out.keep (new1 _ _))
                      have I9 : Hid (Is W9 (some a2) n2 c2 l2) := Lib.hid (by rw [hW9]; exact RowsOf.below I5.out (new1 _ _))
                      have B9 : Hid (Below w.heap.size w W9) := Lib.hid (by rw [hW9]; exact then_ B5.out (new1 _ _))
                      have hgNB : g7 < g9 := by rw [hg9]; exact NB5.out.lt
                      rw [← hW9, ← hg9]
                      clear hW9 hg9 sNB0 uNB0 dNB0 sNB1 uNB1 dNB1 dz CF CE
                      have n90 := N9.out.cell 0 _ rfl
                      have n91 := N9.out.cell 1 _ rfl
                      have m90 := NB9.out.cell 0 _ rfl
                      have m91 := NB9.out.cell 1 _ rfl
                      have m9f := NB9.out.frozen
                      have cz9 : W9.cell? (a2.add j) = some (.int .i64 z) := by
                        obtain ⟨a', z', e, hz', hc⟩ := Is.at_ I9.out hlt
                        obtain rfl := Option.some.inj e
                        obtain rfl : z = z' := Option.some.inj (HZJ.out.symm.trans hz')
                        exact hc
                      have hLb : Said (0 ≤ L ∧ L ≤ 1099511627775) := ⟨by have := LB.out; omega⟩
                      have NBa := Lib.hid ((NB9.out.set 0 (.int .i64 (St s0 a1 L).next)).set 1 (.slice A5 n5 c5))
                      have HBa := Lib.hid (ls_box (ls_box H9.out NB9.out 0 (.int .i64 (St s0 a1 L).next)) (NB9.out.set 0 _) 1 (.slice A5 n5 c5))
                      have IBa : Hid (Is ((W9.setCell ⟨g7, 0, none⟩ (.int .i64 (St s0 a1 L).next)).setCell ⟨g7, 1, none⟩ (.slice A5 n5 c5)) (some a2) n2 c2 l2) := Lib.hid (RowsOf.keep (RowsOf.keep I9.out (Lib.grownBy_setCell _ _ _ _) (fun a ha hh => by injection hh with hh; have := HA2.out a ha (by omega); omega)) (Lib.grownBy_setCell _ _ _ _) (fun a ha hh => by injection hh with hh; have := HA2.out a ha (by omega); omega))
                      have BBa := Lib.hid ((B9.out.setCell (p := ⟨g7, 0, none⟩) (by show w.heap.size ≤ g7; omega) (.int .i64 (St s0 a1 L).next)).setCell (p := ⟨g7, 1, none⟩) (by show w.heap.size ≤ g7; omega) (.slice A5 n5 c5))
                      have haa : (a1 != a1) = false := by simp
                      have hlzz := hlz.out
                      go_wp2
                      go_roundw
                      case rel => exact ⟨j + 1, L, A5, n5, c5, by omega, by omega, rfl, by go_num, hLb, NBa.out, HBa.out, IBa.out, BBa.out⟩
                      case measure => simp [intOf]; omega
                    · have NB5 := Lib.hid (NB4.out.below HB5.out)
                      have I5 := Lib.hid (RowsOf.below I4.out HB5.out)
                      have B5 := Lib.hid (then_ B4.out HB5.out)
                      obtain ⟨W9, hW9⟩ : ∃ W9, W9 = (w5.setCell ⟨wr.heap.size, 0, none⟩ (.int .i64 (St s0 a1 L).next)).setCell ⟨wr.heap.size, 1, none⟩ (.slice A5 n5 c5) := ⟨_, rfl⟩
                      have N9 : Hid (Own W9 wr.heap.size 24 #[.int .i64 (St s0 a1 L).next, .slice A5 n5 c5]) := Lib.hid (by rw [hW9]; exact (N5.out.set 0 _).set 1 _)
                      have NB9 : Hid (Own W9 g7 24 #[.int .i64 (St s0 a1 L).next, .slice A n c]) := Lib.hid (by rw [hW9]; exact (NB5.out.other _ _ _ (by have := NB.out.lt; omega)).other _ _ _ (by have := NB.out.lt; omega))
                      have H9 : Hid (LsAt W9 (St s0 a1 L) A5 n5 c5) := Lib.hid (by rw [hW9]; exact ls_box (ls_box H5.out N5.out 0 _) (N5.out.set 0 _) 1 _)
                      have hgw : w.heap.size < wr.heap.size := by have := hGW.out; omega
                      have I9 : Hid (Is W9 (some a2) n2 c2 l2) := Lib.hid (by rw [hW9]; exact RowsOf.keep (RowsOf.keep I5.out (Lib.grownBy_setCell _ _ _ _) (fun a ha hh => by injection hh with hh; have := HA2.out a ha (by omega); omega)) (Lib.grownBy_setCell _ _ _ _) (fun a ha hh => by injection hh with hh; have := HA2.out a ha (by omega); omega))
                      have B9 : Hid (Below w.heap.size w W9) := Lib.hid (by rw [hW9]; exact (B5.out.setCell (p := ⟨wr.heap.size, 0, none⟩) (by show w.heap.size ≤ wr.heap.size; omega) _).setCell (p := ⟨wr.heap.size, 1, none⟩) (by show w.heap.size ≤ wr.heap.size; omega) _)
                      have hgNB : g7 < wr.heap.size := by have := NB.out.lt; omega
                      rw [← hW9]
                      obtain ⟨g9, hg9⟩ : ∃ g, g = wr.heap.size := ⟨_, rfl⟩
                      rw [← hg9] at N9 ⊢
                      rw [← hg9] at hgNB
                      clear hW9 hg9 sNB0 uNB0 dNB0 sNB1 uNB1 dNB1 dz CF CE e50 e51 e5f
                      have n90 := N9.out.cell 0 _ rfl
                      have n91 := N9.out.cell 1 _ rfl
                      have m90 := NB9.out.cell 0 _ rfl
                      have m91 := NB9.out.cell 1 _ rfl
                      have m9f := NB9.out.frozen
                      have cz9 : W9.cell? (a2.add j) = some (.int .i64 z) := by
                        obtain ⟨a', z', e, hz', hc⟩ := Is.at_ I9.out hlt
                        obtain rfl := Option.some.inj e
                        obtain rfl : z = z' := Option.some.inj (HZJ.out.symm.trans hz')
                        exact hc
                      have hLb : Said (0 ≤ L ∧ L ≤ 1099511627775) := ⟨by have := LB.out; omega⟩
                      have NBa := Lib.hid ((NB9.out.set 0 (.int .i64 (St s0 a1 L).next)).set 1 (.slice A5 n5 c5))
                      have HBa := Lib.hid (ls_box (ls_box H9.out NB9.out 0 (.int .i64 (St s0 a1 L).next)) (NB9.out.set 0 _) 1 (.slice A5 n5 c5))
                      have IBa : Hid (Is ((W9.setCell ⟨g7, 0, none⟩ (.int .i64 (St s0 a1 L).next)).setCell ⟨g7, 1, none⟩ (.slice A5 n5 c5)) (some a2) n2 c2 l2) := Lib.hid (RowsOf.keep (RowsOf.keep I9.out (Lib.grownBy_setCell _ _ _ _) (fun a ha hh => by injection hh with hh; have := HA2.out a ha (by omega); omega)) (Lib.grownBy_setCell _ _ _ _) (fun a ha hh => by injection hh with hh; have := HA2.out a ha (by omega); omega))
                      have BBa := Lib.hid ((B9.out.setCell (p := ⟨g7, 0, none⟩) (by show w.heap.size ≤ g7; omega) (.int .i64 (St s0 a1 L).next)).setCell (p := ⟨g7, 1, none⟩) (by show w.heap.size ≤ g7; omega) (.slice A5 n5 c5))
                      have haa : (a1 != a1) = false := by simp
                      have hlzz := hlz.out
                      go_wp2
                      go_roundw
                      case rel => exact ⟨j + 1, L, A5, n5, c5, by omega, by omega, rfl, by go_num, hLb, NBa.out, HBa.out, IBa.out, BBa.out⟩
                      case measure => simp [intOf]; omega
                | false =>
                  have HZ := Lib.hid hzb
                  clear hzb
                  go_wp2
                  clear n60 n61
                  have b4 := new1 wr (.cells zLs 24)
                  have NB4 := Lib.hid (NB.out.below b4)
                  have sNB0 : wr.cell? ⟨g7, 0, none⟩ = some (.int .i64 (St s0 a1 L).next) := NB.out.cell 0 _ rfl
                  have uNB0 : (wr.alloc (.cells zLs 24)).cell? ⟨g7, 0, none⟩ = some (.int .i64 (St s0 a1 L).next) := NB4.out.cell 0 _ rfl
                  have sNB1 : wr.cell? ⟨g7, 1, none⟩ = some (.slice A n c) := NB.out.cell 1 _ rfl
                  have uNB1 : (wr.alloc (.cells zLs 24)).cell? ⟨g7, 1, none⟩ = some (.slice A n c) := NB4.out.cell 1 _ rfl
                  have I4 := Lib.hid (RowsOf.below IB.out b4)
                  have B4 := Lib.hid (then_ BB.out b4)
                  have N4 := Lib.hid (own_new wr zLs 24)
                  have c2z4 : (wr.alloc (.cells zLs 24)).cell? (a2.add j) = some (.int .i64 z) := (b4.cell (World.block_lt_of_cell? _ _ c2z)).trans c2z
                  have CF := Lib.hid (keep_late MS.out HTT.out HZ.out A n c (wr.drew) (HB.out.keep (new_drew _)))
                  have CE := Lib.hid (keep_late MS.out HTT.out HZ.out A n c ((wr.alloc (.cells zLs 24)).drew) ((HB.out.keep (new1 _ _)).keep (new_drew _)))
                  have hnNB : ¬ (wr.heap.size = g7) := by have := NB.out.lt; omega
                  have hnz : ¬ (wr.heap.size = ((a2.add j)).block) := by have := World.block_lt_of_cell? _ _ c2z; omega
                  clear b4
                  go_region_held3 (fun w' => w'.cell? ⟨g7, 0, none⟩ = some (.int .i64 (St s0 a1 L).next) ∧ w'.cell? ⟨g7, 1, none⟩ = some (.slice A n c) ∧ w'.cell? (a2.add j) = some (.int .i64 z)) (go_keep) (first
                    | (go_at_call 19; refine CF.out.mono ?_; rintro e w5 ⟨A5, n5, c5, rfl, h5, hb5⟩; have HB5 := Lib.hid (then_ (new_drew _) hb5); have H5 := Lib.hid h5; have dNB0 := (NB.out.below HB5.out).cell 0 _ rfl; have dNB1 := (NB.out.below HB5.out).cell 1 _ rfl; have dz := (HB5.out.cell (World.block_lt_of_cell? _ _ c2z)).trans c2z; clear hb5 h5)
                    | (go_at_call 19; refine CE.out.mono ?_; rintro e w5 ⟨A5, n5, c5, rfl, h5, hb5⟩; have HB5 := Lib.hid (then_ (new_drew _) hb5); have H5 := Lib.hid h5; have dNB0 := (NB4.out.below HB5.out).cell 0 _ rfl; have dNB1 := (NB4.out.below HB5.out).cell 1 _ rfl; have dz := (HB5.out.cell (World.block_lt_of_cell? _ _ c2z4)).trans c2z4; have N5 := Lib.hid (N4.out.below HB5.out); have e50 := N5.out.cell 0 _ rfl; have e51 := N5.out.cell 1 _ rfl; have e5f := N5.out.frozen; clear hb5 h5))
                  · have NB5 := Lib.hid (NB.out.below HB5.out)
                    have I5 := Lib.hid (RowsOf.below IB.out HB5.out)
                    have B5 := Lib.hid (then_ BB.out HB5.out)
                    obtain ⟨W9, hW9⟩ : ∃ W9, W9 = w5.alloc (.cells #[.int .i64 (St s0 a1 L).next, .slice A5 n5 c5] 24) := ⟨_, rfl⟩
                    obtain ⟨g9, hg9⟩ : ∃ g, g = w5.heap.size := ⟨_, rfl⟩
                    have N9 : Hid (Own W9 g9 24 #[.int .i64 (St s0 a1 L).next, .slice A5 n5 c5]) := Lib.hid (by rw [hW9, hg9]; exact own_new _ _ _)
                    have NB9 : Hid (Own W9 g7 24 #[.int .i64 (St s0 a1 L).next, .slice A n c]) := Lib.hid (by rw [hW9]; exact NB5.out.alloc _)
                    have H9 : Hid (LsAt W9 (St s0 a1 L) A5 n5 c5) := Lib.hid (by rw [hW9]; exact H5.out.keep (new1 _ _))
                    have I9 : Hid (Is W9 (some a2) n2 c2 l2) := Lib.hid (by rw [hW9]; exact RowsOf.below I5.out (new1 _ _))
                    have B9 : Hid (Below w.heap.size w W9) := Lib.hid (by rw [hW9]; exact then_ B5.out (new1 _ _))
                    have hgNB : g7 < g9 := by rw [hg9]; exact NB5.out.lt
                    rw [← hW9, ← hg9]
                    clear hW9 hg9 sNB0 uNB0 dNB0 sNB1 uNB1 dNB1 dz CF CE
                    go_wp2_with fail
                    refine (live_any _).mono ?_; rintro e w9 ⟨rfl, hb⟩
                    have BBa := Lib.hid (then_ B9.out hb); clear hb
                    go_wp2
                    go_ret
                    exact ⟨rfl, BBa.out⟩
                  · have NB5 := Lib.hid (NB4.out.below HB5.out)
                    have I5 := Lib.hid (RowsOf.below I4.out HB5.out)
                    have B5 := Lib.hid (then_ B4.out HB5.out)
                    obtain ⟨W9, hW9⟩ : ∃ W9, W9 = (w5.setCell ⟨wr.heap.size, 0, none⟩ (.int .i64 (St s0 a1 L).next)).setCell ⟨wr.heap.size, 1, none⟩ (.slice A5 n5 c5) := ⟨_, rfl⟩
                    have N9 : Hid (Own W9 wr.heap.size 24 #[.int .i64 (St s0 a1 L).next, .slice A5 n5 c5]) := Lib.hid (by rw [hW9]; exact (N5.out.set 0 _).set 1 _)
                    have NB9 : Hid (Own W9 g7 24 #[.int .i64 (St s0 a1 L).next, .slice A n c]) := Lib.hid (by rw [hW9]; exact (NB5.out.other _ _ _ (by have := NB.out.lt; omega)).other _ _ _ (by have := NB.out.lt; omega))
                    have H9 : Hid (LsAt W9 (St s0 a1 L) A5 n5 c5) := Lib.hid (by rw [hW9]; exact ls_box (ls_box H5.out N5.out 0 _) (N5.out.set 0 _) 1 _)
                    have hgw : w.heap.size < wr.heap.size := by have := hGW.out; omega
                    have I9 : Hid (Is W9 (some a2) n2 c2 l2) := Lib.hid (by rw [hW9]; exact RowsOf.keep (RowsOf.keep I5.out (Lib.grownBy_setCell _ _ _ _) (fun a ha hh => by injection hh with hh; have := HA2.out a ha (by omega); omega)) (Lib.grownBy_setCell _ _ _ _) (fun a ha hh => by injection hh with hh; have := HA2.out a ha (by omega); omega))
                    have B9 : Hid (Below w.heap.size w W9) := Lib.hid (by rw [hW9]; exact (B5.out.setCell (p := ⟨wr.heap.size, 0, none⟩) (by show w.heap.size ≤ wr.heap.size; omega) _).setCell (p := ⟨wr.heap.size, 1, none⟩) (by show w.heap.size ≤ wr.heap.size; omega) _)
                    have hgNB : g7 < wr.heap.size := by have := NB.out.lt; omega
                    rw [← hW9]
                    obtain ⟨g9, hg9⟩ : ∃ g, g = wr.heap.size := ⟨_, rfl⟩
                    rw [← hg9] at N9 ⊢
                    rw [← hg9] at hgNB
                    clear hW9 hg9 sNB0 uNB0 dNB0 sNB1 uNB1 dNB1 dz CF CE e50 e51 e5f
                    go_wp2_with fail
                    refine (live_any _).mono ?_; rintro e w9 ⟨rfl, hb⟩
                    have BBa := Lib.hid (then_ B9.out hb); clear hb
                    go_wp2
                    go_ret
                    exact ⟨rfl, BBa.out⟩
              · obtain rfl : j = n2 := by omega
                have F1 := Lib.hid (st_due (a1 := a1) (L := L) MS.out)
                have hwr1 : IntKind.i64.wrap (L + a1) = L + a1 := by rw [IntKind.wrap_i64]; omega
                go_wp2_with fail
                refine (due_any (St s0 a1 L) A n c (L + a1 - 1) _ HB.out (by rw [NN.out]; omega)).mono ?_; rintro e v1 ⟨P1, p1, q1, rfl, h1, hb⟩
                have NB1 := Lib.hid (NB.out.below hb); have HB1 := Lib.hid (HB.out.keep hb); have BB1 := Lib.hid (then_ BB.out hb); have D1 := Lib.hid h1
                clear hb h1 n60 n61
                have n60 := NB1.out.cell 0 _ rfl
                have n61 := NB1.out.cell 1 _ rfl
                go_wp2_with fail
                refine (in_any P1 p1 q1 _ (s0.next + 1) _ D1.out (by rw [← D1.out.len]; have := due_le2 (St s0 a1 L).l (L + a1 - 1); rw [st_len] at this; omega)).mono ?_; rintro e w' ⟨rfl, rfl⟩
                rw [F1.out.1]
                go_wp2_with fail
                refine (due_any (St s0 a1 L) A n c (L + a1) _ HB1.out (by rw [NN.out]; omega)).mono ?_; rintro e v2 ⟨P2, p2, q2, rfl, h2, hb⟩
                have BB2 := Lib.hid (then_ BB1.out hb); have D2 := Lib.hid h2
                clear hb h2 n60 n61
                go_wp2_with fail
                refine (in_any P2 p2 q2 _ (s0.next + 1) _ D2.out (by rw [← D2.out.len]; have := due_le2 (St s0 a1 L).l (L + a1); rw [st_len] at this; omega)).mono ?_; rintro e w' ⟨rfl, rfl⟩
                rw [F1.out.2]
                go_wp2_with fail
                refine (live_any _).mono ?_; rintro e v3 ⟨rfl, hb⟩
                have BB3 := Lib.hid (then_ BB2.out hb); clear hb
                go_wp2
                go_ret
                exact ⟨rfl, BB3.out⟩
        · have HD : Said (grantE s0 a1 z ≠ 0) := ⟨hd⟩
          have hd1 : (grantE s0 a1 z != 0) = true := by simp [hd]
          clear hd
          have b4 := new1 w1 (.cells zLs 24)
          have X_14 := Lib.hid (X_1.out.below b4)
          have sX_10 : w1.cell? ⟨w.heap.size, 0, none⟩ = some (.int .i64 s0.next) := X_1.out.cell 0 _ rfl
          have uX_10 : (w1.alloc (.cells zLs 24)).cell? ⟨w.heap.size, 0, none⟩ = some (.int .i64 s0.next) := X_14.out.cell 0 _ rfl
          have sX_11 : w1.cell? ⟨w.heap.size, 1, none⟩ = some (.slice A0 n0 c0) := X_1.out.cell 1 _ rfl
          have uX_11 : (w1.alloc (.cells zLs 24)).cell? ⟨w.heap.size, 1, none⟩ = some (.slice A0 n0 c0) := X_14.out.cell 1 _ rfl
          have K_14 := Lib.hid (K_1.out.keep b4)
          have I4 := Lib.hid (RowsOf.below I_1.out b4)
          have B4 := Lib.hid (then_ B_1.out b4)
          have N4 := Lib.hid (own_new w1 zLs 24)
          have c2z4 : (w1.alloc (.cells zLs 24)).cell? a2 = some (.int .i64 z) := (b4.cell (World.block_lt_of_cell? _ _ c2z)).trans c2z
          have CF := Lib.hid (grant_err HD.out A0 n0 c0 (w1.drew) (K_1.out.keep (new_drew _)) (by omega))
          have CE := Lib.hid (grant_err HD.out A0 n0 c0 ((w1.alloc (.cells zLs 24)).drew) (K_14.out.keep (new_drew _)) (by omega))
          have hnX_1 : ¬ (w1.heap.size = w.heap.size) := by have := X_1.out.lt; omega
          have hnz : ¬ (w1.heap.size = (a2).block) := by have := World.block_lt_of_cell? _ _ c2z; omega
          clear b4
          go_region_held3 (fun w' => w'.cell? ⟨w.heap.size, 0, none⟩ = some (.int .i64 s0.next) ∧ w'.cell? ⟨w.heap.size, 1, none⟩ = some (.slice A0 n0 c0) ∧ w'.cell? a2 = some (.int .i64 z)) (go_keep) (first
            | (go_at_call 17; refine CF.out.mono ?_; rintro e w5 ⟨A5, n5, c5, rfl, h5, hb5⟩; have HB5 := Lib.hid (then_ (new_drew _) hb5); have H5 := Lib.hid h5; have dX_10 := (X_1.out.below HB5.out).cell 0 _ rfl; have dX_11 := (X_1.out.below HB5.out).cell 1 _ rfl; have dz := (HB5.out.cell (World.block_lt_of_cell? _ _ c2z)).trans c2z; clear hb5 h5)
            | (go_at_call 17; refine CE.out.mono ?_; rintro e w5 ⟨A5, n5, c5, rfl, h5, hb5⟩; have HB5 := Lib.hid (then_ (new_drew _) hb5); have H5 := Lib.hid h5; have dX_10 := (X_14.out.below HB5.out).cell 0 _ rfl; have dX_11 := (X_14.out.below HB5.out).cell 1 _ rfl; have dz := (HB5.out.cell (World.block_lt_of_cell? _ _ c2z4)).trans c2z4; have N5 := Lib.hid (N4.out.below HB5.out); have e50 := N5.out.cell 0 _ rfl; have e51 := N5.out.cell 1 _ rfl; have e5f := N5.out.frozen; clear hb5 h5))
          · have X_15 := Lib.hid (X_1.out.below HB5.out)
            have K_15 := Lib.hid (K_1.out.keep HB5.out)
            have I5 := Lib.hid (RowsOf.below I_1.out HB5.out)
            have B5 := Lib.hid (then_ B_1.out HB5.out)
            obtain ⟨W6, hW6⟩ : ∃ W6, W6 = w5.alloc (.cells #[.int .i64 s0.next, .slice A5 n5 c5] 24) := ⟨_, rfl⟩
            obtain ⟨g7, hg7⟩ : ∃ g, g = w5.heap.size := ⟨_, rfl⟩
            have N6 : Hid (Own W6 g7 24 #[.int .i64 s0.next, .slice A5 n5 c5]) := Lib.hid (by rw [hW6, hg7]; exact own_new _ _ _)
            have X_16 : Hid (Own W6 w.heap.size 24 #[.int .i64 s0.next, .slice A0 n0 c0]) := Lib.hid (by rw [hW6]; exact X_15.out.alloc _)
            have K_16 : Hid (LsAt W6 s0 A0 n0 c0) := Lib.hid (by rw [hW6]; exact K_15.out.keep (new1 _ _))
            have H6 : Hid (LsAt W6 s0 A5 n5 c5) := Lib.hid (by rw [hW6]; exact H5.out.keep (new1 _ _))
            have I6 : Hid (Is W6 (some a2) n2 c2 l2) := Lib.hid (by rw [hW6]; exact RowsOf.below I5.out (new1 _ _))
            have B6 : Hid (Below w.heap.size w W6) := Lib.hid (by rw [hW6]; exact then_ B5.out (new1 _ _))
            have hgX_1 : w.heap.size < g7 := by rw [hg7]; exact X_15.out.lt
            rw [← hW6, ← hg7]
            clear hW6 hg7 sX_10 uX_10 dX_10 sX_11 uX_11 dX_11 dz CF CE
            have n60 := N6.out.cell 0 _ rfl
            have n61 := N6.out.cell 1 _ rfl
            have x60 := X_16.out.cell 0 _ rfl
            have x61 := X_16.out.cell 1 _ rfl
            have hnn : n5 = n0 := H6.out.row.row.len.symm.trans hn0
            have SM := Lib.hid (ls_same s0 A5 A0 n0 c5 c0 W6 (hnn ▸ H6.out) K_16.out (by omega))
            obtain rfl : n0 = n5 := hnn.symm
            go_wp2_with fail
            refine SM.out.mono ?_; rintro e v1 ⟨rfl, hb⟩
            have BB1 := Lib.hid (then_ B6.out hb); clear hb n60 n61 x60 x61
            go_wp2_with fail
            refine (live_any _).mono ?_; rintro e v3 ⟨rfl, hb⟩
            have BB3 := Lib.hid (then_ BB1.out hb); clear hb
            go_wp2
            go_ret
            exact ⟨rfl, BB3.out⟩
          · have X_15 := Lib.hid (X_14.out.below HB5.out)
            have K_15 := Lib.hid (K_14.out.keep HB5.out)
            have I5 := Lib.hid (RowsOf.below I4.out HB5.out)
            have B5 := Lib.hid (then_ B4.out HB5.out)
            obtain ⟨W6, hW6⟩ : ∃ W6, W6 = (w5.setCell ⟨w1.heap.size, 0, none⟩ (.int .i64 s0.next)).setCell ⟨w1.heap.size, 1, none⟩ (.slice A5 n5 c5) := ⟨_, rfl⟩
            have N6 : Hid (Own W6 w1.heap.size 24 #[.int .i64 s0.next, .slice A5 n5 c5]) := Lib.hid (by rw [hW6]; exact (N5.out.set 0 _).set 1 _)
            have X_16 : Hid (Own W6 w.heap.size 24 #[.int .i64 s0.next, .slice A0 n0 c0]) := Lib.hid (by rw [hW6]; exact (X_15.out.other _ _ _ (by have := X_1.out.lt; omega)).other _ _ _ (by have := X_1.out.lt; omega))
            have K_16 : Hid (LsAt W6 s0 A0 n0 c0) := Lib.hid (by rw [hW6]; exact ls_box (ls_box K_15.out N5.out 0 _) (N5.out.set 0 _) 1 _)
            have H6 : Hid (LsAt W6 s0 A5 n5 c5) := Lib.hid (by rw [hW6]; exact ls_box (ls_box H5.out N5.out 0 _) (N5.out.set 0 _) 1 _)
            have hgw : w.heap.size < w1.heap.size := by have := hGW.out; omega
            have I6 : Hid (Is W6 (some a2) n2 c2 l2) := Lib.hid (by rw [hW6]; exact RowsOf.keep (RowsOf.keep I5.out (Lib.grownBy_setCell _ _ _ _) (fun a ha hh => by injection hh with hh; have := HA2.out a ha (by omega); omega)) (Lib.grownBy_setCell _ _ _ _) (fun a ha hh => by injection hh with hh; have := HA2.out a ha (by omega); omega))
            have B6 : Hid (Below w.heap.size w W6) := Lib.hid (by rw [hW6]; exact (B5.out.setCell (p := ⟨w1.heap.size, 0, none⟩) (by show w.heap.size ≤ w1.heap.size; omega) _).setCell (p := ⟨w1.heap.size, 1, none⟩) (by show w.heap.size ≤ w1.heap.size; omega) _)
            have hgX_1 : w.heap.size < w1.heap.size := by have := X_1.out.lt; omega
            rw [← hW6]
            obtain ⟨g7, hg7⟩ : ∃ g, g = w1.heap.size := ⟨_, rfl⟩
            rw [← hg7] at N6 ⊢
            rw [← hg7] at hgX_1
            clear hW6 hg7 sX_10 uX_10 dX_10 sX_11 uX_11 dX_11 dz CF CE e50 e51 e5f
            have n60 := N6.out.cell 0 _ rfl
            have n61 := N6.out.cell 1 _ rfl
            have x60 := X_16.out.cell 0 _ rfl
            have x61 := X_16.out.cell 1 _ rfl
            have hnn : n5 = n0 := H6.out.row.row.len.symm.trans hn0
            have SM := Lib.hid (ls_same s0 A5 A0 n0 c5 c0 W6 (hnn ▸ H6.out) K_16.out (by omega))
            obtain rfl : n0 = n5 := hnn.symm
            go_wp2_with fail
            refine SM.out.mono ?_; rintro e v1 ⟨rfl, hb⟩
            have BB1 := Lib.hid (then_ B6.out hb); clear hb n60 n61 x60 x61
            go_wp2_with fail
            refine (live_any _).mono ?_; rintro e v3 ⟨rfl, hb⟩
            have BB3 := Lib.hid (then_ BB1.out hb); clear hb
            go_wp2
            go_ret
            exact ⟨rfl, BB3.out⟩

theorem own : ownKnob Try.prog.godebug = none := by kernel_rfl
theorem laidOut : laidOutB Try.prog = true := by kernel_rfl

set_option maxRecDepth 100000 in
theorem lifted (os : Os) (started : os.Started) (H : Type) (enc : TypeId × Value → H) :
    ReturnsInHanded {} Try.checked os 6 .any (Rows.leaseStaysSpec.pre6 enc Try.prog Try.f6 Rows.leaseStaysRow.domain false) (Rows.leaseStaysSpec.post enc Try.prog Try.f6 false true false false) := by
  refine returnsInHanded_of_change (C := Try.checked) own started (by kernel_rfl) Try.func6
    (ChangeSpec.witness6 (enc := enc) (C := Try.checked) false ⟨#[], #[.agg #[.int .i64 0, .slice none 0 0], (.int .i64 0), .slice none 0 0], []⟩ 8 (by kernel_rfl) (by kernel_rfl) (by kernel_rfl) (by kernel_rfl)) ?_
  intro W base args ds gs before hval0 hW hcnd _
  have hval : ∀ (j : Nat) t v, Try.f6.params[j]? = some t → args[j]? = some v → Value.okWide Try.prog W .any base t v := hval0
  have hW' := hW
  obtain ⟨p, q, hA0, hV, rfl, hfz, hnd⟩ := hW
  have hA : DataW.TrodAll enc Try.prog W 0 (fun _ => true) true Try.f6.params.toList args.toList ds p := hA0
  rw [Try.params6] at hA hval
  obtain ⟨v0, vs0, d0, ds0, p0, q0, hargs, rfl, rfl, h0, r0⟩ := trodAll_cons hA
  obtain ⟨v1, vs1, d1, ds1, p1, q1, rfl, rfl, rfl, h1, r1⟩ := trodAll_cons r0
  obtain ⟨v2, vs2, d2, ds2, p2, q2, rfl, rfl, rfl, h2, r2⟩ := trodAll_cons r1
  obtain ⟨rfl, rfl, rfl⟩ := trodAll_nil r2
  obtain rfl : args = #[v0, v1, v2] := by cases args; simp_all
  obtain ⟨rfl, rfl⟩ := trodVars_none hV
  obtain ⟨s0, A0, n0, c0, rfl, k0⟩ := open_ls (hval 0 24 v0 rfl rfl) h0
  obtain ⟨a1, rfl, rfl, rfl, w1⟩ := open_int Try.underlying3 (hval 1 3 v1 rfl rfl) h1
  obtain ⟨A2, n2, c2, l2, rfl, k2⟩ := open_is (hval 2 39 v2 rfl rfl) h2
  clear hA0 hval0
  refine (walk W s0 A0 n0 c0 a1 A2 n2 c2 l2 k0 w1 k2).mono fun e W' ⟨he, bel⟩ => ?_
  subst he
  exact ⟨_, rfl, _, _, _, [], _, [], hW', trodAll_mk1 (shut_bool Try.underlying4 _), (trodAll_cons_mk (Below.trod laidOut (by kernel_rfl) (of_decide_eq_true (by kernel_rfl)) h0 bel (fun x hx => hW'.lt x (by simp [hx]))) (trodAll_cons_mk (shut_int Try.underlying3 w1) (trodAll_cons_mk (Below.trod laidOut (by kernel_rfl) (of_decide_eq_true (by kernel_rfl)) h2 bel (fun x hx => hW'.lt x (by simp [hx]))) trodAll_mk0))), rfl, bel.frame _, fun h => by cases h⟩

theorem over : Rows.leaseStaysRow.holds Try.pinned (OpenSpec.ofChange Rows.leaseStaysSpec) :=
  OpenClaim.holds_of_wide 6 Try.f6 rfl rfl rfl rfl rfl rfl rfl ⟨rfl, rfl, rfl, rfl, rfl⟩ rfl rfl rfl rfl rfl (by kernel_rfl) Try.func6 (by kernel_rfl)
    (of_decide_eq_true (by kernel_rfl)) (by unfold Func.isWrapper; first | (rw [if_pos (by decide +kernel)]; kernel_rfl) | (rw [if_neg (by decide +kernel)]; exact ⟨rfl, rfl⟩))
    (fun os started H enc _ => lifted os started H enc)

theorem proved : Rows.LeaseStaysSaid := over
#print axioms proved
end Go.Proofs.Ytelepkofhdjagab.leaseStays
