/- For all leases, every TTL and every list of Ids that end the law LeaseOnce answers true: no Id is told twice. No condition. -/
import Derived.Test.YtelepkofhdjagabLsOpen
import Derived.Test.YtelepkofhdjagabLsLive
import Derived.Test.YtelepkofhdjagabLsMayR
import Derived.Test.YtelepkofhdjagabLsGrantR
import Derived.Test.YtelepkofhdjagabLsStopR
import Derived.Test.YtelepkofhdjagabRows
import Derived.Deep.RegionHeld3
namespace Go.Proofs.Ytelepkofhdjagab.leaseOnce
open Go.ChangeShapes Go.WideShapes Go.ChangeAt Go.RowKit Go.Proofs.Ytelepkofhdjagab.P
open Go.ChangeMaps (open_string shut_string)
set_option linter.unusedVariables false
set_option linter.unusedSimpArgs false
set_option maxHeartbeats 4000000
set_option maxRecDepth 100000

/-- A fact that the walk's own steps do not see. -/
structure Said (p : Prop) : Prop where
  out : p
/-- A row of leases does not lie in a block of two cells. -/
theorem apart2 {w : World} {g : Nat} {t : TypeId} {v0 v1 : Value} {A : Option Addr} {n c : Nat} {l : List Le} (ho : Own w g t #[v0, v1]) (h : RowsOf Le.cells 3 w A n c l) (hn : 0 < n) : ∀ a, A = some a → a.block ≠ g := by
  intro a ha hg
  obtain ⟨a', x, e, _, _, hl⟩ := h.at_ hn
  obtain rfl : a = a' := Option.some.inj (ha.symm.trans e)
  have h2 := hl 2 (.int .i64 x.til) rfl
  rw [Nat.zero_mul] at h2
  have hb : subA (a.add 0) 2 = ⟨g, a.off + 2, none⟩ := by
    unfold subA Addr.add
    rw [if_neg (by omega), if_pos rfl, hg]
  rw [hb] at h2
  simp [World.cell?, ho.ex] at h2
theorem ls_box {w : World} {s : Ls} {A : Option Addr} {n c g : Nat} {t : TypeId} {v0 v1 : Value} (h : LsAt w s A n c) (ho : Own w g t #[v0, v1]) (i : Nat) (v : Value) : LsAt (w.setCell ⟨g, i, none⟩ v) s A n c := by
  refine ⟨⟨?_, h.row.ok⟩, h.next⟩
  have hr := h.row.row
  by_cases hn : 0 < n
  · exact hr.keep (Lib.grownBy_setCell w g i v) (fun a ha hh => by injection hh with hh; exact apart2 ho hr hn a ha hh)
  · exact ⟨hr.len, hr.le, hr.max, fun h0 => absurd h0 hn, hr.nil⟩
theorem end_next (s : Ls) (id : Int) : (endS s id).next = s.next := by unfold endS; split <;> rfl
theorem walk (w : World) (s0 : Ls) (A0 : Option Addr) (n0 c0 : Nat) (a1 : Int) (A2 : Option Addr) (n2 c2 : Nat) (l2 : List Int) (k0 : LsAt w s0 A0 n0 c0) (z1 : (Lit.int .i64 a1).wf = true) (k2 : Is w A2 n2 c2 l2 ∧ ∀ z ∈ l2, inI z) :
    Calls Try.prog 7 #[s0.agg A0 n0 c0, .int .i64 a1, .slice A2 n2 c2] w fun e w' => e = .returned (.bool true) ∧ Below w.heap.size w w' := by
  have K_0 := Lib.hid (k0.keep (new1 w (.cells #[.int .i64 s0.next, .slice A0 n0 c0] 24)))
  have I_0 := Lib.hid (RowsOf.below k2.1 (new1 w (.cells #[.int .i64 s0.next, .slice A0 n0 c0] 24)))
  have X_0 := Lib.hid (own_new w #[.int .i64 s0.next, .slice A0 n0 c0] 24)
  have B_0 := Lib.hid (new1 w (.cells #[.int .i64 s0.next, .slice A0 n0 c0] 24))
  have hm2 := Nat.le_trans k2.1.le k2.1.max
  unfold maxLen at hm2
  have hlen2 := k2.1.len
  have HA2 : Hid (∀ a, A2 = some a → 0 < n2 → a.block < w.heap.size) := Lib.hid (fun a ha h0 => by obtain ⟨a', e, hlt, _⟩ := k2.1.rd h0; rw [ha] at e; injection e with e; rw [e]; exact hlt)
  clear k0 k2
  cases hm : mayL s0 with
  | false =>
    have HM := Lib.hid hm; clear hm
    have x0 := X_0.out.cell 0 _ rfl
    have x1 := X_0.out.cell 1 _ rfl
    go_enter Try.func7, Try.ntmps7
    go_wp2_with fail
    refine (lmay_ref s0 A0 n0 c0 _ K_0.out).mono ?_; rintro e w1 ⟨rfl, hb⟩
    rw [HM.out]
    have B_1 := Lib.hid (then_ B_0.out hb); clear hb x0 x1
    go_wp2_with fail
    refine (live_any _).mono ?_; rintro e w2 ⟨rfl, hb⟩
    have B_2 := Lib.hid (then_ B_1.out hb); clear hb
    go_wp2
    go_ret
    exact ⟨rfl, B_2.out⟩
  | true =>
    have HM := Lib.hid hm
    have MS : Said (MayL s0) := ⟨(mayL_iff s0).1 hm⟩
    clear hm
    by_cases h20 : 20 < n2
    · have x0 := X_0.out.cell 0 _ rfl
      have x1 := X_0.out.cell 1 _ rfl
      go_enter Try.func7, Try.ntmps7
      go_wp2_with fail
      refine (lmay_ref s0 A0 n0 c0 _ K_0.out).mono ?_; rintro e w1 ⟨rfl, hb⟩
      rw [HM.out]
      have B_1 := Lib.hid (then_ B_0.out hb); clear hb x0 x1
      go_wp2_with fail
      refine (live_any _).mono ?_; rintro e w2 ⟨rfl, hb⟩
      have B_2 := Lib.hid (then_ B_1.out hb); clear hb
      go_wp2
      go_ret
      exact ⟨rfl, B_2.out⟩
    · have x0 := X_0.out.cell 0 _ rfl
      have x1 := X_0.out.cell 1 _ rfl
      go_enter Try.func7, Try.ntmps7
      go_wp2_with fail
      refine (lmay_ref s0 A0 n0 c0 _ K_0.out).mono ?_; rintro e w1 ⟨rfl, hb⟩
      rw [HM.out]
      have B_1 := Lib.hid (then_ B_0.out hb)
      have K_1 := Lib.hid (K_0.out.keep hb)
      have I_1 := Lib.hid (RowsOf.below I_0.out hb)
      have X_1 := Lib.hid (X_0.out.below hb)
      have hlt0 := X_1.out.lt
      clear hb x0 x1
      have x0 := X_1.out.cell 0 _ rfl
      have x1 := X_1.out.cell 1 _ rfl
      go_wp2
      go_loopw [7, 8] (fun lv iv wr => ∃ (j : Nat) (s : Ls) (A : Option Addr) (n c : Nat), j ≤ n2 ∧ lv = .int .i64 s.next ∧ iv = .int .i64 j ∧ Said (MayL s) ∧ Own wr w.heap.size 24 #[.int .i64 s.next, .slice A n c] ∧ LsAt wr s A n c ∧ Is wr A2 n2 c2 l2 ∧ Below w.heap.size w wr) (fun _ iv _ => n2 - (intOf iv).toNat)
      case atStart => exact ⟨0, s0, A0, n0, c0, Nat.zero_le _, rfl, rfl, MS, X_1.out, K_1.out, I_1.out, B_1.out⟩
      case round =>
        obtain ⟨j, s, A, n, c, hj, rfl, rfl, ms, xo, ko, io, bo⟩ := hrel
        have X2 := Lib.hid xo; have K2 := Lib.hid ko; have I2 := Lib.hid io; have B2 := Lib.hid bo
        have hlo := ms.out.lo; have hhi := ms.out.hi; have hl8 := ms.out.len
        have hltb := xo.lt
        clear xo ko io bo x0 x1
        have x0 := X2.out.cell 0 _ rfl
        have x1 := X2.out.cell 1 _ rfl
        by_cases hlt : j < n2
        · have GN : Said ((grantS s a1 (j : Int)).next = if grantE s a1 (j : Int) = 0 then grantI s a1 (j : Int) else s.next) := ⟨by
            unfold grantS grantI
            by_cases h : grantE s a1 (j : Int) = 0
            · rw [if_pos h, if_pos h, if_pos h]
            · rw [if_neg h, if_neg h]⟩
          have GM : Said (MayL (grantS s a1 (j : Int))) := ⟨ms.out.grant _ _⟩
          have GL : (grantS s a1 (j : Int)).l.length ≤ 8 := GM.out.len
          go_wp2_with fail
          refine (grant_any s A n c a1 (j : Int) _ K2.out (by omega)).mono ?_; rintro e w3 ⟨A3, n3, c3, rfl, h3, hb⟩
          have o3 := own_new w3 #[.int .i64 (grantS s a1 (j : Int)).next, .slice A3 n3 c3] 24
          have b3 := new1 w3 (.cells #[.int .i64 (grantS s a1 (j : Int)).next, .slice A3 n3 c3] 24)
          have K3 := Lib.hid (h3.keep b3)
          have O3 := Lib.hid o3
          have X3 := Lib.hid ((X2.out.below hb).below b3)
          have I3 := Lib.hid (RowsOf.below (RowsOf.below I2.out hb) b3)
          have B3 := Lib.hid (then_ (then_ B2.out hb) b3)
          have hsz3 : w.heap.size < w3.heap.size := Nat.lt_of_lt_of_le hltb hb.size
          clear h3 hb o3 b3 x0 x1
          have ne : ∃ z, l2[j]? = some z := ⟨l2[j]'(by omega), List.getElem?_eq_getElem (by omega)⟩
          obtain ⟨z, hz⟩ := ne
          have HZ := Lib.hid hz
          obtain ⟨a2, z', rfl, hz', c2z⟩ := Is.at_ I3.out hlt
          obtain rfl : z = z' := Option.some.inj (hz.symm.trans hz')
          clear hz hz'
          have hlti : (j : Int) < (n2 : Int) := by omega
          have b4 := new1 (w3.alloc (.cells #[.int .i64 (grantS s a1 (j : Int)).next, .slice A3 n3 c3] 24)) (.cells zLs 24)
          have K4 := Lib.hid (K3.out.keep b4)
          have O4 := Lib.hid (O3.out.below b4)
          have X4 := Lib.hid (X3.out.below b4)
          have I4 := Lib.hid (RowsOf.below I3.out b4)
          have B4 := Lib.hid (then_ B3.out b4)
          have N4 := Lib.hid (own_new2 w3 (.cells #[.int .i64 (grantS s a1 (j : Int)).next, .slice A3 n3 c3] 24) zLs 24)
          have c2z4 : ((w3.alloc (.cells #[.int .i64 (grantS s a1 (j : Int)).next, .slice A3 n3 c3] 24)).alloc (.cells zLs 24)).cell? (a2.add j) = some (.int .i64 z) := (b4.cell (World.block_lt_of_cell? _ _ c2z)).trans c2z
          have ha2 : (a2.add j).block < w.heap.size := by rw [P.block_add]; exact HA2.out a2 rfl (by omega)
          have o30 : ((w3.alloc (.cells #[.int .i64 (grantS s a1 (j : Int)).next, .slice A3 n3 c3] 24)).alloc (.cells zLs 24)).cell? ⟨w3.heap.size, 0, none⟩ = some (.int .i64 (grantS s a1 (j : Int)).next) := O4.out.cell 0 _ rfl
          have o31 : ((w3.alloc (.cells #[.int .i64 (grantS s a1 (j : Int)).next, .slice A3 n3 c3] 24)).alloc (.cells zLs 24)).cell? ⟨w3.heap.size, 1, none⟩ = some (.slice A3 n3 c3) := O4.out.cell 1 _ rfl
          have CE := Lib.hid (end_any (grantS s a1 (j : Int)) A3 n3 c3 z (((w3.alloc (.cells #[.int .i64 (grantS s a1 (j : Int)).next, .slice A3 n3 c3] 24)).alloc (.cells zLs 24)).drew) (K4.out.keep (new_drew _)) (by omega))
          have CF := Lib.hid (end_any (grantS s a1 (j : Int)) A3 n3 c3 z ((w3.alloc (.cells #[.int .i64 (grantS s a1 (j : Int)).next, .slice A3 n3 c3] 24)).drew) (K3.out.keep (new_drew _)) (by omega))
          have hne1 : ¬ (w3.heap.size + 1 = w3.heap.size) := by omega
          have hne2 : ¬ (w3.heap.size + 1 = (a2.add j).block) := by omega
          have s30 : (w3.alloc (.cells #[.int .i64 (grantS s a1 (j : Int)).next, .slice A3 n3 c3] 24)).cell? ⟨w3.heap.size, 0, none⟩ = some (.int .i64 (grantS s a1 (j : Int)).next) := O3.out.cell 0 _ rfl
          have s31 : (w3.alloc (.cells #[.int .i64 (grantS s a1 (j : Int)).next, .slice A3 n3 c3] 24)).cell? ⟨w3.heap.size, 1, none⟩ = some (.slice A3 n3 c3) := O3.out.cell 1 _ rfl
          clear b4
          by_cases hd : grantE s a1 (j : Int) = 0
          · have GI := (grant_is hd).2
            have hd1 : (grantE s a1 (j : Int) == 0) = true := by simp [hd]
            have hd2 : decide (grantI s a1 (j : Int) ≤ s.next) = false := decide_eq_false (by omega)
            have GN2 : Said (grantI s a1 (j : Int) = (endS (grantS s a1 (j : Int)) z).next) := ⟨by rw [end_next, GN.out, if_pos hd]⟩
            clear hd GI
            go_wp2
            go_region_held3 (fun w' => w'.cell? ⟨w3.heap.size, 0, none⟩ = some (.int .i64 (grantS s a1 (j : Int)).next) ∧ w'.cell? ⟨w3.heap.size, 1, none⟩ = some (.slice A3 n3 c3) ∧ w'.cell? (a2.add j) = some (.int .i64 z)) (go_keep) (first
              | (go_at_call 27; refine CF.out.mono ?_; rintro e w5 ⟨A5, n5, c5, rfl, h5, hb5⟩; have HB5 := Lib.hid (then_ (new_drew _) hb5); have H5 := Lib.hid h5; have d30 := (O3.out.below HB5.out).cell 0 _ rfl; have d31 := (O3.out.below HB5.out).cell 1 _ rfl; have dz := (HB5.out.cell (World.block_lt_of_cell? _ _ c2z)).trans c2z; have hsz5 : w3.heap.size < w5.heap.size := (by have := HB5.out.size; simp at this; omega); clear hb5 h5)
              | (go_at_call 27; refine CE.out.mono ?_; rintro e w5 ⟨A5, n5, c5, rfl, h5, hb5⟩; have HB5 := Lib.hid (then_ (new_drew _) hb5); have H5 := Lib.hid h5; have d30 := (O4.out.below HB5.out).cell 0 _ rfl; have d31 := (O4.out.below HB5.out).cell 1 _ rfl; have dz := (HB5.out.cell (World.block_lt_of_cell? _ _ c2z4)).trans c2z4; have N5 := Lib.hid (N4.out.below HB5.out); have e50 := N5.out.cell 0 _ rfl; have e51 := N5.out.cell 1 _ rfl; have e5f := N5.out.frozen; clear hb5 h5))
            · have X5 := Lib.hid (X3.out.below HB5.out)
              have I5 := Lib.hid (RowsOf.below I3.out HB5.out)
              have B5 := Lib.hid (then_ B3.out HB5.out)
              obtain ⟨W6, hW6⟩ : ∃ W6, W6 = w5.alloc (.cells #[.int .i64 (endS (grantS s a1 (j : Int)) z).next, .slice A5 n5 c5] 24) := ⟨_, rfl⟩
              have N6 : Hid (Own W6 w5.heap.size 24 #[.int .i64 (endS (grantS s a1 (j : Int)) z).next, .slice A5 n5 c5]) := Lib.hid (by rw [hW6]; exact own_new _ _ _)
              have X6 : Hid (Own W6 w.heap.size 24 #[.int .i64 s.next, .slice A n c]) := Lib.hid (by rw [hW6]; exact X5.out.alloc _)
              have K6 : Hid (LsAt W6 (endS (grantS s a1 (j : Int)) z) A5 n5 c5) := Lib.hid (by rw [hW6]; exact H5.out.keep (new1 _ _))
              have I6 : Hid (Is W6 (some a2) n2 c2 l2) := Lib.hid (by rw [hW6]; exact RowsOf.below I5.out (new1 _ _))
              have B6 : Hid (Below w.heap.size w W6) := Lib.hid (by rw [hW6]; exact then_ B5.out (new1 _ _))
              rw [← hW6]
              clear hW6 d30 d31 dz o30 o31 c2z4 s30 s31 c2z
              have n60 := N6.out.cell 0 _ rfl
              have n61 := N6.out.cell 1 _ rfl
              have x60 := X6.out.cell 0 _ rfl
              have x61 := X6.out.cell 1 _ rfl
              have xf := X6.out.frozen
              have X7 := Lib.hid ((X6.out.set 0 (.int .i64 (endS (grantS s a1 (j : Int)) z).next)).set 1 (.slice A5 n5 c5))
              have K7 := Lib.hid (ls_box (ls_box K6.out X6.out 0 (.int .i64 (endS (grantS s a1 (j : Int)) z).next)) (X6.out.set 0 _) 1 (.slice A5 n5 c5))
              have I7 : Hid (Is ((W6.setCell ⟨w.heap.size, 0, none⟩ (.int .i64 (endS (grantS s a1 (j : Int)) z).next)).setCell ⟨w.heap.size, 1, none⟩ (.slice A5 n5 c5)) (some a2) n2 c2 l2) := Lib.hid (RowsOf.keep (RowsOf.keep I6.out (Lib.grownBy_setCell _ _ _ _) (fun a ha hh => by injection hh with hh; have := HA2.out a ha (by omega); omega)) (Lib.grownBy_setCell _ _ _ _) (fun a ha hh => by injection hh with hh; have := HA2.out a ha (by omega); omega))
              have B7 := Lib.hid ((B6.out.setCell (p := ⟨w.heap.size, 0, none⟩) (Nat.le_refl _) (.int .i64 (endS (grantS s a1 (j : Int)) z).next)).setCell (p := ⟨w.heap.size, 1, none⟩) (Nat.le_refl _) (.slice A5 n5 c5))
              have ME : Said (MayL (endS (grantS s a1 (j : Int)) z)) := ⟨GM.out.drop _⟩
              go_wp2
              go_roundw
              case rel => exact ⟨j + 1, endS (grantS s a1 (j : Int)) z, A5, n5, c5, by omega, by rw [GN2.out], by go_num, ME, X7.out, K7.out, I7.out, B7.out⟩
              case measure => simp [intOf]; omega
            · have X5 := Lib.hid (X4.out.below HB5.out)
              have I5 := Lib.hid (RowsOf.below I4.out HB5.out)
              have B5 := Lib.hid (then_ B4.out HB5.out)
              obtain ⟨W6, hW6⟩ : ∃ W6, W6 = (w5.setCell ⟨w3.heap.size + 1, 0, none⟩ (.int .i64 (endS (grantS s a1 (j : Int)) z).next)).setCell ⟨w3.heap.size + 1, 1, none⟩ (.slice A5 n5 c5) := ⟨_, rfl⟩
              have N6 : Hid (Own W6 (w3.heap.size + 1) 24 #[.int .i64 (endS (grantS s a1 (j : Int)) z).next, .slice A5 n5 c5]) := Lib.hid (by rw [hW6]; exact (N5.out.set 0 _).set 1 _)
              have X6 : Hid (Own W6 w.heap.size 24 #[.int .i64 s.next, .slice A n c]) := Lib.hid (by rw [hW6]; exact (X5.out.other _ _ _ (by omega)).other _ _ _ (by omega))
              have K6 : Hid (LsAt W6 (endS (grantS s a1 (j : Int)) z) A5 n5 c5) := Lib.hid (by rw [hW6]; exact ls_box (ls_box H5.out N5.out 0 _) (N5.out.set 0 _) 1 _)
              have I6 : Hid (Is W6 (some a2) n2 c2 l2) := Lib.hid (by rw [hW6]; exact RowsOf.keep (RowsOf.keep I5.out (Lib.grownBy_setCell _ _ _ _) (fun a ha hh => by injection hh with hh; have := HA2.out a ha (by omega); omega)) (Lib.grownBy_setCell _ _ _ _) (fun a ha hh => by injection hh with hh; have := HA2.out a ha (by omega); omega))
              have B6 : Hid (Below w.heap.size w W6) := Lib.hid (by rw [hW6]; exact (B5.out.setCell (p := ⟨w3.heap.size + 1, 0, none⟩) (by show w.heap.size ≤ w3.heap.size + 1; omega) _).setCell (p := ⟨w3.heap.size + 1, 1, none⟩) (by show w.heap.size ≤ w3.heap.size + 1; omega) _)
              rw [← hW6]
              clear hW6 d30 d31 dz e50 e51 e5f o30 o31 c2z4 s30 s31 c2z
              have n60 := N6.out.cell 0 _ rfl
              have n61 := N6.out.cell 1 _ rfl
              have x60 := X6.out.cell 0 _ rfl
              have x61 := X6.out.cell 1 _ rfl
              have xf := X6.out.frozen
              have X7 := Lib.hid ((X6.out.set 0 (.int .i64 (endS (grantS s a1 (j : Int)) z).next)).set 1 (.slice A5 n5 c5))
              have K7 := Lib.hid (ls_box (ls_box K6.out X6.out 0 (.int .i64 (endS (grantS s a1 (j : Int)) z).next)) (X6.out.set 0 _) 1 (.slice A5 n5 c5))
              have I7 : Hid (Is ((W6.setCell ⟨w.heap.size, 0, none⟩ (.int .i64 (endS (grantS s a1 (j : Int)) z).next)).setCell ⟨w.heap.size, 1, none⟩ (.slice A5 n5 c5)) (some a2) n2 c2 l2) := Lib.hid (RowsOf.keep (RowsOf.keep I6.out (Lib.grownBy_setCell _ _ _ _) (fun a ha hh => by injection hh with hh; have := HA2.out a ha (by omega); omega)) (Lib.grownBy_setCell _ _ _ _) (fun a ha hh => by injection hh with hh; have := HA2.out a ha (by omega); omega))
              have B7 := Lib.hid ((B6.out.setCell (p := ⟨w.heap.size, 0, none⟩) (Nat.le_refl _) (.int .i64 (endS (grantS s a1 (j : Int)) z).next)).setCell (p := ⟨w.heap.size, 1, none⟩) (Nat.le_refl _) (.slice A5 n5 c5))
              have ME : Said (MayL (endS (grantS s a1 (j : Int)) z)) := ⟨GM.out.drop _⟩
              go_wp2
              go_roundw
              case rel => exact ⟨j + 1, endS (grantS s a1 (j : Int)) z, A5, n5, c5, by omega, by rw [GN2.out], by go_num, ME, X7.out, K7.out, I7.out, B7.out⟩
              case measure => simp [intOf]; omega
          · have hd1 : (grantE s a1 (j : Int) == 0) = false := by simp [hd]
            have GN2 : Said (s.next = (endS (grantS s a1 (j : Int)) z).next) := ⟨by rw [end_next, GN.out, if_neg hd]⟩
            clear hd
            go_wp2
            go_region_held3 (fun w' => w'.cell? ⟨w3.heap.size, 0, none⟩ = some (.int .i64 (grantS s a1 (j : Int)).next) ∧ w'.cell? ⟨w3.heap.size, 1, none⟩ = some (.slice A3 n3 c3) ∧ w'.cell? (a2.add j) = some (.int .i64 z)) (go_keep) (first
              | (go_at_call 27; refine CF.out.mono ?_; rintro e w5 ⟨A5, n5, c5, rfl, h5, hb5⟩; have HB5 := Lib.hid (then_ (new_drew _) hb5); have H5 := Lib.hid h5; have d30 := (O3.out.below HB5.out).cell 0 _ rfl; have d31 := (O3.out.below HB5.out).cell 1 _ rfl; have dz := (HB5.out.cell (World.block_lt_of_cell? _ _ c2z)).trans c2z; have hsz5 : w3.heap.size < w5.heap.size := (by have := HB5.out.size; simp at this; omega); clear hb5 h5)
              | (go_at_call 27; refine CE.out.mono ?_; rintro e w5 ⟨A5, n5, c5, rfl, h5, hb5⟩; have HB5 := Lib.hid (then_ (new_drew _) hb5); have H5 := Lib.hid h5; have d30 := (O4.out.below HB5.out).cell 0 _ rfl; have d31 := (O4.out.below HB5.out).cell 1 _ rfl; have dz := (HB5.out.cell (World.block_lt_of_cell? _ _ c2z4)).trans c2z4; have N5 := Lib.hid (N4.out.below HB5.out); have e50 := N5.out.cell 0 _ rfl; have e51 := N5.out.cell 1 _ rfl; have e5f := N5.out.frozen; clear hb5 h5))
            · have X5 := Lib.hid (X3.out.below HB5.out)
              have I5 := Lib.hid (RowsOf.below I3.out HB5.out)
              have B5 := Lib.hid (then_ B3.out HB5.out)
              obtain ⟨W6, hW6⟩ : ∃ W6, W6 = w5.alloc (.cells #[.int .i64 (endS (grantS s a1 (j : Int)) z).next, .slice A5 n5 c5] 24) := ⟨_, rfl⟩
              have N6 : Hid (Own W6 w5.heap.size 24 #[.int .i64 (endS (grantS s a1 (j : Int)) z).next, .slice A5 n5 c5]) := Lib.hid (by rw [hW6]; exact own_new _ _ _)
              have X6 : Hid (Own W6 w.heap.size 24 #[.int .i64 s.next, .slice A n c]) := Lib.hid (by rw [hW6]; exact X5.out.alloc _)
              have K6 : Hid (LsAt W6 (endS (grantS s a1 (j : Int)) z) A5 n5 c5) := Lib.hid (by rw [hW6]; exact H5.out.keep (new1 _ _))
              have I6 : Hid (Is W6 (some a2) n2 c2 l2) := Lib.hid (by rw [hW6]; exact RowsOf.below I5.out (new1 _ _))
              have B6 : Hid (Below w.heap.size w W6) := Lib.hid (by rw [hW6]; exact then_ B5.out (new1 _ _))
              rw [← hW6]
              clear hW6 d30 d31 dz o30 o31 c2z4 s30 s31 c2z
              have n60 := N6.out.cell 0 _ rfl
              have n61 := N6.out.cell 1 _ rfl
              have x60 := X6.out.cell 0 _ rfl
              have x61 := X6.out.cell 1 _ rfl
              have xf := X6.out.frozen
              have X7 := Lib.hid ((X6.out.set 0 (.int .i64 (endS (grantS s a1 (j : Int)) z).next)).set 1 (.slice A5 n5 c5))
              have K7 := Lib.hid (ls_box (ls_box K6.out X6.out 0 (.int .i64 (endS (grantS s a1 (j : Int)) z).next)) (X6.out.set 0 _) 1 (.slice A5 n5 c5))
              have I7 : Hid (Is ((W6.setCell ⟨w.heap.size, 0, none⟩ (.int .i64 (endS (grantS s a1 (j : Int)) z).next)).setCell ⟨w.heap.size, 1, none⟩ (.slice A5 n5 c5)) (some a2) n2 c2 l2) := Lib.hid (RowsOf.keep (RowsOf.keep I6.out (Lib.grownBy_setCell _ _ _ _) (fun a ha hh => by injection hh with hh; have := HA2.out a ha (by omega); omega)) (Lib.grownBy_setCell _ _ _ _) (fun a ha hh => by injection hh with hh; have := HA2.out a ha (by omega); omega))
              have B7 := Lib.hid ((B6.out.setCell (p := ⟨w.heap.size, 0, none⟩) (Nat.le_refl _) (.int .i64 (endS (grantS s a1 (j : Int)) z).next)).setCell (p := ⟨w.heap.size, 1, none⟩) (Nat.le_refl _) (.slice A5 n5 c5))
              have ME : Said (MayL (endS (grantS s a1 (j : Int)) z)) := ⟨GM.out.drop _⟩
              go_wp2
              go_roundw
              case rel => exact ⟨j + 1, endS (grantS s a1 (j : Int)) z, A5, n5, c5, by omega, by rw [GN2.out], by go_num, ME, X7.out, K7.out, I7.out, B7.out⟩
              case measure => simp [intOf]; omega
            · have X5 := Lib.hid (X4.out.below HB5.out)
              have I5 := Lib.hid (RowsOf.below I4.out HB5.out)
              have B5 := Lib.hid (then_ B4.out HB5.out)
              obtain ⟨W6, hW6⟩ : ∃ W6, W6 = (w5.setCell ⟨w3.heap.size + 1, 0, none⟩ (.int .i64 (endS (grantS s a1 (j : Int)) z).next)).setCell ⟨w3.heap.size + 1, 1, none⟩ (.slice A5 n5 c5) := ⟨_, rfl⟩
              have N6 : Hid (Own W6 (w3.heap.size + 1) 24 #[.int .i64 (endS (grantS s a1 (j : Int)) z).next, .slice A5 n5 c5]) := Lib.hid (by rw [hW6]; exact (N5.out.set 0 _).set 1 _)
              have X6 : Hid (Own W6 w.heap.size 24 #[.int .i64 s.next, .slice A n c]) := Lib.hid (by rw [hW6]; exact (X5.out.other _ _ _ (by omega)).other _ _ _ (by omega))
              have K6 : Hid (LsAt W6 (endS (grantS s a1 (j : Int)) z) A5 n5 c5) := Lib.hid (by rw [hW6]; exact ls_box (ls_box H5.out N5.out 0 _) (N5.out.set 0 _) 1 _)
              have I6 : Hid (Is W6 (some a2) n2 c2 l2) := Lib.hid (by rw [hW6]; exact RowsOf.keep (RowsOf.keep I5.out (Lib.grownBy_setCell _ _ _ _) (fun a ha hh => by injection hh with hh; have := HA2.out a ha (by omega); omega)) (Lib.grownBy_setCell _ _ _ _) (fun a ha hh => by injection hh with hh; have := HA2.out a ha (by omega); omega))
              have B6 : Hid (Below w.heap.size w W6) := Lib.hid (by rw [hW6]; exact (B5.out.setCell (p := ⟨w3.heap.size + 1, 0, none⟩) (by show w.heap.size ≤ w3.heap.size + 1; omega) _).setCell (p := ⟨w3.heap.size + 1, 1, none⟩) (by show w.heap.size ≤ w3.heap.size + 1; omega) _)
              rw [← hW6]
              clear hW6 d30 d31 dz e50 e51 e5f o30 o31 c2z4 s30 s31 c2z
              have n60 := N6.out.cell 0 _ rfl
              have n61 := N6.out.cell 1 _ rfl
              have x60 := X6.out.cell 0 _ rfl
              have x61 := X6.out.cell 1 _ rfl
              have xf := X6.out.frozen
              have X7 := Lib.hid ((X6.out.set 0 (.int .i64 (endS (grantS s a1 (j : Int)) z).next)).set 1 (.slice A5 n5 c5))
              have K7 := Lib.hid (ls_box (ls_box K6.out X6.out 0 (.int .i64 (endS (grantS s a1 (j : Int)) z).next)) (X6.out.set 0 _) 1 (.slice A5 n5 c5))
              have I7 : Hid (Is ((W6.setCell ⟨w.heap.size, 0, none⟩ (.int .i64 (endS (grantS s a1 (j : Int)) z).next)).setCell ⟨w.heap.size, 1, none⟩ (.slice A5 n5 c5)) (some a2) n2 c2 l2) := Lib.hid (RowsOf.keep (RowsOf.keep I6.out (Lib.grownBy_setCell _ _ _ _) (fun a ha hh => by injection hh with hh; have := HA2.out a ha (by omega); omega)) (Lib.grownBy_setCell _ _ _ _) (fun a ha hh => by injection hh with hh; have := HA2.out a ha (by omega); omega))
              have B7 := Lib.hid ((B6.out.setCell (p := ⟨w.heap.size, 0, none⟩) (Nat.le_refl _) (.int .i64 (endS (grantS s a1 (j : Int)) z).next)).setCell (p := ⟨w.heap.size, 1, none⟩) (Nat.le_refl _) (.slice A5 n5 c5))
              have ME : Said (MayL (endS (grantS s a1 (j : Int)) z)) := ⟨GM.out.drop _⟩
              go_wp2
              go_roundw
              case rel => exact ⟨j + 1, endS (grantS s a1 (j : Int)) z, A5, n5, c5, by omega, by rw [GN2.out], by go_num, ME, X7.out, K7.out, I7.out, B7.out⟩
              case measure => simp [intOf]; omega
        · obtain rfl : j = n2 := by omega
          have hq : (s.next == s.next) = true := by simp
          go_wp2_with fail
          refine (live_any _).mono ?_; rintro e w5 ⟨rfl, hb⟩
          have B3 := Lib.hid (then_ B2.out hb); clear hb
          go_wp2
          go_ret
          exact ⟨rfl, B3.out⟩

theorem own : ownKnob Try.prog.godebug = none := by kernel_rfl
theorem laidOut : laidOutB Try.prog = true := by kernel_rfl

set_option maxRecDepth 100000 in
theorem lifted (os : Os) (started : os.Started) (H : Type) (enc : TypeId × Value → H) :
    ReturnsInHanded {} Try.checked os 7 .any (Rows.leaseOnceSpec.pre6 enc Try.prog Try.f7 Rows.leaseOnceRow.domain false) (Rows.leaseOnceSpec.post enc Try.prog Try.f7 false true false false) := by
  refine returnsInHanded_of_change (C := Try.checked) own started (by kernel_rfl) Try.func7
    (ChangeSpec.witness6 (enc := enc) (C := Try.checked) false ⟨#[], #[.agg #[.int .i64 0, .slice none 0 0], (.int .i64 0), .slice none 0 0], []⟩ 8 (by kernel_rfl) (by kernel_rfl) (by kernel_rfl) (by kernel_rfl)) ?_
  intro W base args ds gs before hval0 hW hcnd _
  have hval : ∀ (j : Nat) t v, Try.f7.params[j]? = some t → args[j]? = some v → Value.okWide Try.prog W .any base t v := hval0
  have hW' := hW
  obtain ⟨p, q, hA0, hV, rfl, hfz, hnd⟩ := hW
  have hA : DataW.TrodAll enc Try.prog W 0 (fun _ => true) true Try.f7.params.toList args.toList ds p := hA0
  rw [Try.params7] at hA hval
  obtain ⟨v0, vs0, d0, ds0, p0, q0, hargs, rfl, rfl, h0, r0⟩ := trodAll_cons hA
  obtain ⟨v1, vs1, d1, ds1, p1, q1, rfl, rfl, rfl, h1, r1⟩ := trodAll_cons r0
  obtain ⟨v2, vs2, d2, ds2, p2, q2, rfl, rfl, rfl, h2, r2⟩ := trodAll_cons r1
  obtain ⟨rfl, rfl, rfl⟩ := trodAll_nil r2
  obtain rfl : args = #[v0, v1, v2] := by cases args; simp_all
  obtain ⟨rfl, rfl⟩ := trodVars_none hV
  obtain ⟨s0, A0, n0, c0, rfl, k0⟩ := open_ls (hval 0 24 v0 rfl rfl) h0
  obtain ⟨a1, rfl, rfl, rfl, w1⟩ := open_int Try.underlying3 (hval 1 3 v1 rfl rfl) h1
  obtain ⟨A2, n2, c2, l2, rfl, k2⟩ := open_is (hval 2 39 v2 rfl rfl) h2
  clear hA0 hval0
  refine (walk W s0 A0 n0 c0 a1 A2 n2 c2 l2 k0 w1 k2).mono fun e W' ⟨he, bel⟩ => ?_
  subst he
  exact ⟨_, rfl, _, _, _, [], _, [], hW', trodAll_mk1 (shut_bool Try.underlying4 _), (trodAll_cons_mk (Below.trod laidOut (by kernel_rfl) (of_decide_eq_true (by kernel_rfl)) h0 bel (fun x hx => hW'.lt x (by simp [hx]))) (trodAll_cons_mk (shut_int Try.underlying3 w1) (trodAll_cons_mk (Below.trod laidOut (by kernel_rfl) (of_decide_eq_true (by kernel_rfl)) h2 bel (fun x hx => hW'.lt x (by simp [hx]))) trodAll_mk0))), rfl, bel.frame _, fun h => by cases h⟩

theorem over : Rows.leaseOnceRow.holds Try.pinned (OpenSpec.ofChange Rows.leaseOnceSpec) :=
  OpenClaim.holds_of_wide 7 Try.f7 rfl rfl rfl rfl rfl rfl rfl ⟨rfl, rfl, rfl, rfl, rfl⟩ rfl rfl rfl rfl rfl (by kernel_rfl) Try.func7 (by kernel_rfl)
    (of_decide_eq_true (by kernel_rfl)) (by unfold Func.isWrapper; first | (rw [if_pos (by decide +kernel)]; kernel_rfl) | (rw [if_neg (by decide +kernel)]; exact ⟨rfl, rfl⟩))
    (fun os started H enc _ => lifted os started H enc)

theorem proved : Rows.LeaseOnceSaid := over
#print axioms proved
end Go.Proofs.Ytelepkofhdjagab.leaseOnce
