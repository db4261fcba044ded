/- For every kind, every list of things and every further list the law TicketStays answers true: who is ready stays so, whichever others go, and whichever come of a greater Create than all. No condition. -/
import Derived.Test.YtefldchhopgliaaKvOpen
import Derived.Test.YtefldchhopgliaaKeyTwo
import Derived.Test.YtefldchhopgliaaTkSub
import Derived.Test.YtefldchhopgliaaRows
namespace Go.Proofs.Ytefldchhopgliaa.ticketStays
open Go.ChangeShapes Go.WideShapes Go.ChangeAt Go.RowKit Go.Sort Go.Proofs.Ytefldchhopgliaa.P
open Go.ChangeMaps (open_string shut_string)
set_option linter.unusedVariables false
set_option linter.unusedSimpArgs false
set_option maxHeartbeats 4000000
set_option maxRecDepth 100000

def fI (i gone : Nat) : Nat → KV → Bool := fun k _ => decide (k = i) || decide (gone < k)
def gI (most : Int) (key : ByteArray) : Nat → KV → Bool := fun _ y => decide (most < y.cre) && !teq y.key key
structure Most (l : List KV) (j : Nat) (m : Int) : Prop where
  all : ∀ z ∈ l.take j, z.cre ≤ m
theorem most_next {l : List KV} {j : Nat} {m : Int} (h : Most l j m) (x : KV) (hx : l[j]? = some x) : Most l (j + 1) (max m x.cre) := ⟨fun z hz => by
  rw [take_succ l j x hx] at hz
  rcases List.mem_append.1 hz with hz | hz
  · have := h.all z hz; omega
  · rw [List.mem_singleton] at hz; subst hz; omega⟩
theorem pick_oks (f : Nat → KV → Bool) (l : List KV) (ok : ∀ x ∈ l, x.ok) (j : Nat) : ∀ x ∈ pick f l j, x.ok := fun x hx => ok x (List.mem_of_mem_take ((pick_sub f l j).subset hx))
theorem main (w : World) (x y : Int) (A1 : Option Addr) (n1 c1 : Nat) (l1 : List KV) (A2 : Option Addr) (n2 c2 : Nat) (l2 : List KV) (k1 : KVs w A1 n1 c1 l1) (k2 : KVs w A2 n2 c2 l2)
    (hf : fewB 40 l1 = true) (hf2 : fewB 20 l2 = true) (hu : unB l1 = true) (hn1 : n1 ≠ 0) :
    Calls Try.prog 6 #[.agg #[.int .i64 x, .int .i64 y], .slice A1 n1 c1, .slice A2 n2 c2] w fun e w' => e = .returned (.bool true) ∧ Below w.heap.size w w' := by
  have B0 := Lib.hid (new1 w (.cells #[.int .i64 x, .int .i64 y] 30))
  have K := Lib.hid (k1.keep B0.out)
  have M := Lib.hid (k2.keep B0.out)
  have HF := Lib.hid hf
  have HF2 := Lib.hid hf2
  have HU := Lib.hid hu
  have hn : n1 ≤ 40 := by
    have := k1.len
    unfold fewB at hf
    simp at hf
    omega
  have hm : n2 ≤ 20 := by
    have := k2.len
    unfold fewB at hf2
    simp at hf2
    omega
  have HL := Lib.hid k1.len
  have HL2 := Lib.hid k2.len
  have HOK := Lib.hid k1.ok
  have HOK2 := Lib.hid k2.ok
  have hz : ((n1 : Int) == 0) = false := by simp; omega
  have hz1 : (0 : Int) < n1 := by omega
  have OW := Lib.hid (own_new w #[.int .i64 x, .int .i64 y] 30)
  have hx0 : w.heap.size < (w.alloc (.cells #[.int .i64 x, .int .i64 y] 30)).heap.size := by simp
  obtain ⟨a, x0, rfl, _, hx, _, hc⟩ := K.out.at_ (show 0 < n1 by omega)
  have HX0 := Lib.hid hx
  have c2' := hc.c2
  rw [Nat.zero_mul, Addr.add_zero'] at c2'
  have HC2 := Lib.hid c2'
  have HAB := Lib.hid (World.block_lt_of_cell? _ _ c2')
  clear hf hf2 hu k1 k2 hc hx c2' hn1
  go_enter Try.func6, Try.ntmps6
  go_wp2_with fail
  refine (few_any (some a) n1 c1 l1 40 _ K.out (by omega)).mono ?_; rintro e w' ⟨rfl, rfl⟩
  rw [HF.out]
  go_wp2_with fail
  refine (few_any A2 n2 c2 l2 20 _ M.out (by omega)).mono ?_; rintro e w' ⟨rfl, rfl⟩
  rw [HF2.out]
  generalize hv0 : w.alloc (.cells #[.int .i64 x, .int .i64 y] 30) = v0 at *
  clear hv0
  go_wp2_with fail
  refine (unlike_any (some a) n1 c1 l1 _ K.out (by omega)).mono ?_; rintro e w1 ⟨rfl, hb⟩
  rw [HU.out]
  have B1 := Lib.hid hb
  have d2 : w1.cell? ⟨a.block, a.off + 2, none⟩ = some (.int .i64 x0.cre) := (hb.cell (p := ⟨a.block, a.off + 2, none⟩) HAB.out).trans HC2.out
  clear hb
  go_wp2
  go_loopw [7, 8] (fun v i wr => ∃ (j : Nat) (m : Int), j ≤ n1 ∧ i = .int .i64 j ∧ v = .int .i64 m ∧ Most l1 j m ∧ Below w1.heap.size w1 wr) (fun _ i _ => n1 - (intOf i).toNat)
  case atStart => exact ⟨0, x0.cre, Nat.zero_le _, rfl, rfl, ⟨fun z hz => by simp at hz⟩, Below.refl _ _⟩
  case round =>
    clear d2
    rename World => wr
    obtain ⟨j, m, hj, rfl, rfl, hmo, hbr⟩ := hrel
    have MO := Lib.hid hmo
    have BR := Lib.hid (then_ B1.out hbr)
    have BQ := Lib.hid hbr
    clear hbr hmo
    by_cases hjn : j < n1
    · have hjn1 : (j : Int) < n1 := by omega
      obtain ⟨a', z, ea, _, hz2, _, hc⟩ := (K.out.keep BR.out).at_ hjn
      obtain rfl := Option.some.inj ea
      have HZ := Lib.hid hz2
      have z2 := hc.c2
      clear ea hz2 hc
      go_wp2
      go_roundw
      case rel => exact ⟨j + 1, max m z.cre, by omega, by go_num, rfl, most_next MO.out z HZ.out, BQ.out⟩
      case measure => simp [intOf]; omega
    · obtain rfl : j = n1 := by omega
      have hmost : ∀ z ∈ l1, z.cre ≤ m := fun z hz => MO.out.all z (by rw [List.take_of_length_le (by rw [HL.out]; omega)]; exact hz)
      have MOS := Lib.hid hmost
      clear hmost MO BQ
      go_wp2
      go_loopw [9] (fun i wq => ∃ i1 : Nat, i1 ≤ j ∧ i = .int .i64 i1 ∧ Below v0.heap.size v0 wq) (fun i _ => j - (intOf i).toNat)
      case atStart => exact ⟨0, Nat.zero_le _, rfl, BR.out⟩
      case round =>
        clear BR
        rename World => wq
        obtain ⟨i, hi, rfl, hbq⟩ := hrel
        have BQ := Lib.hid hbq
        clear hbq
        by_cases hin : i < j
        · have hin1 : (i : Int) < j := by omega
          obtain ⟨a', z, ea, _, hz2, _, hc⟩ := (K.out.keep BQ.out).at_ hin
          obtain rfl := Option.some.inj ea
          have HZ := Lib.hid hz2
          have AZ := Lib.hid hc
          have z0 := hc.c0
          have OQ := Lib.hid (OW.out.below BQ.out)
          have e0 := OQ.out.cell 0 _ rfl
          have e1 := OQ.out.cell 1 _ rfl
          have KQ := Lib.hid (K.out.keep BQ.out)
          have CR := fun w' (h : KVs w' (some a) j c1 l1) => ready_any x y (some a) j c1 l1 z.key w' h (by omega)
          clear ea hz2 hc
          cases hr : readyB x y l1 z.key with
          | false =>
            rw [hr] at CR
            clear hr
            go_wp2
            go_region_held3 (fun w' => w'.cell? ⟨w.heap.size, 0, none⟩ = some (.int .i64 x) ∧ w'.cell? ⟨w.heap.size, 1, none⟩ = some (.int .i64 y) ∧ w'.cell? (a.add (i * 6)) = some (.string z.key)) (go_keep) (first
              | (go_at_call 18; refine (CR _ (KQ.out.keep (Below.drew (Below.refl _ _)))).mono ?_; rintro e w5 ⟨rfl, hb⟩; have B5 : Hid (Below wq.heap.size wq w5) := Lib.hid (Below.trans (Below.drew (Below.refl _ _)) hb); clear hb; have z5 := (AZ.out.on B5.out).c0; have f0 := (OQ.out.below B5.out).cell 0 _ rfl; have f1 := (OQ.out.below B5.out).cell 1 _ rfl))
            go_wp2
            go_roundw
            case rel => exact ⟨i + 1, by omega, by go_num, then_ BQ.out B5.out⟩
            case measure => simp [intOf]; omega
          | true =>
            have HR := Lib.hid hr
            rw [hr] at CR
            clear hr
            go_wp2
            go_region_held3 (fun w' => w'.cell? ⟨w.heap.size, 0, none⟩ = some (.int .i64 x) ∧ w'.cell? ⟨w.heap.size, 1, none⟩ = some (.int .i64 y) ∧ w'.cell? (a.add (i * 6)) = some (.string z.key)) (go_keep) (first
              | (go_at_call 18; refine (CR _ (KQ.out.keep (Below.drew (Below.refl _ _)))).mono ?_; rintro e w5 ⟨rfl, hb⟩; have B5 : Hid (Below wq.heap.size wq w5) := Lib.hid (Below.trans (Below.drew (Below.refl _ _)) hb); clear hb; have z5 := (AZ.out.on B5.out).c0; have f0 := (OQ.out.below B5.out).cell 0 _ rfl; have f1 := (OQ.out.below B5.out).cell 1 _ rfl))
            have B6 := Lib.hid (then_ BQ.out B5.out)
            clear z0 z5 e0 e1 f0 f1 CR
            go_wp2
            go_loopw [10] (fun i wg => ∃ g : Nat, g ≤ j ∧ i = .int .i64 g ∧ Below v0.heap.size v0 wg) (fun i _ => j - (intOf i).toNat)
            case atStart => exact ⟨0, Nat.zero_le _, rfl, B6.out⟩
            case round =>
              clear B6 KQ OQ AZ B5 BQ
              rename World => wg
              obtain ⟨gone, hg, rfl, hbg⟩ := hrel
              have BG := Lib.hid hbg
              clear hbg
              by_cases hgn : gone < j
              · have hgn1 : (gone : Int) < j := by omega
                go_wp2
                go_loopw [11, 12] (fun v q wm => ∃ (k : Nat) (B : Option Addr) (d : Nat), k ≤ j ∧ q = .int .i64 k ∧ v = .slice B (pick (fI i gone) l1 k).length d ∧ ownG KV.cells 6 39 wm wg.heap.size B (pick (fI i gone) l1 k).length d (pick (fI i gone) l1 k) ∧ Below wg.heap.size wg wm) (fun _ i _ => j - (intOf i).toNat)
                case atStart => exact ⟨0, none, 0, Nat.zero_le _, rfl, rfl, ownG_nil _ _ _ _ _, Below.refl _ _⟩
                case round =>
                  rename World => wm
                  obtain ⟨k, B, d, hk, rfl, rfl, hO, hB⟩ := hrel
                  have O := Lib.hid hO
                  have BM := Lib.hid (then_ BG.out hB)
                  have BN := Lib.hid hB
                  clear hO hB
                  have hlen := pick_len (fI i gone) l1 k
                  by_cases hkn : k < j
                  · have hkn1 : (k : Int) < j := by omega
                    obtain ⟨a', u, ea, _, hu, _, hc⟩ := (K.out.keep BM.out).at_ hkn
                    obtain rfl := Option.some.inj ea
                    obtain ⟨u0, u1, u2, u3, u4, u5⟩ := hc
                    have PY := Lib.hid (pick_yes (fI i gone) l1 k u hu)
                    have PN := Lib.hid (pick_no (fI i gone) l1 k u hu)
                    have BX := Lib.hid (BN.out.trans ((new1 wm (u.obj 39)).mono BN.out.size))
                    generalize pick (fI i gone) l1 k = o at *
                    clear ea hu
                    by_cases hki : k = i ∨ gone < k
                    · have HT := Lib.hid (PY.out (by unfold fI; simpa using hki))
                      obtain ⟨B', d', w4, hr4, ho4, hb4, -⟩ := app_kv wg.heap.size B o.length d o _ (ownG_keep O.out (new1 wm (u.obj 39))) (some ⟨wm.heap.size, 0, none⟩) 1 1 [u] (rows_new KV.cells_len wm u _ rfl) (by omega) BX.out.size
                      have O4 := Lib.hid ho4
                      have B4 := Lib.hid (BX.out.trans hb4)
                      clear ho4 hb4
                      by_cases hk1 : k = i
                      · have hke : ((k : Int) == (i : Int)) = true := by simp [hk1]
                        clear hki hk1
                        go_wp2_with (at_builtin; refine wpList_append_eq _ rfl (.tmp 88) (.tmp 93) _ _ rfl _ _ rfl rfl hr4 ?_)
                        go_roundw
                        case rel => exact ⟨k + 1, B', d', by omega, by go_num, by rw [HT.out]; simp, by rw [HT.out, List.length_append]; exact O4.out, B4.out⟩
                        case measure => simp [intOf]; omega
                      · have hke : ((k : Int) == (i : Int)) = false := by simp; omega
                        have hkg : (gone : Int) < k := by omega
                        have hkg1 : decide ((gone : Int) < k) = true := decide_eq_true hkg
                        have hkg2 : decide (gone < k) = true := decide_eq_true (by omega)
                        clear hki hk1
                        go_wp2_with (at_builtin; refine wpList_append_eq _ rfl (.tmp 88) (.tmp 93) _ _ rfl _ _ rfl rfl hr4 ?_)
                        go_roundw
                        case rel => exact ⟨k + 1, B', d', by omega, by go_num, by rw [HT.out]; simp, by rw [HT.out, List.length_append]; exact O4.out, B4.out⟩
                        case measure => simp [intOf]; omega
                    · have HT := Lib.hid (PN.out (by unfold fI; simpa using hki))
                      have hke : ((k : Int) == (i : Int)) = false := by simp; omega
                      have hkg1 : decide ((gone : Int) < k) = false := decide_eq_false (by omega)
                      have hkg2 : decide (gone < k) = false := decide_eq_false (by omega)
                      clear hki
                      go_wp2
                      go_roundw
                      case rel => exact ⟨k + 1, B, d, by omega, by go_num, by rw [HT.out], by rw [HT.out]; exact O.out, BN.out⟩
                      case measure => simp [intOf]; omega
                  · obtain rfl : k = j := by omega
                    have hlen2 := hlen
                    have OP := Lib.hid O.out
                    have OK1 := Lib.hid (pick_oks (fI i gone) l1 HOK.out k)
                    have ST := Lib.hid (fun q => stays x y l1 l2 HU.out i gone z HZ.out m MOS.out (fI i gone) (gI m z.key) (by simp [fI]) (fun k y h => by
                      unfold gI at h
                      rw [Bool.and_eq_true] at h
                      exact ⟨of_decide_eq_true h.1, by simpa using h.2⟩) HR.out k q (by omega))
                    generalize pick (fI i gone) l1 k = o at *
                    have hoj : o.length ≤ k := hlen
                    clear hlen hlen2 O
                    go_wp2
                    go_loopw [11, 13] (fun v q wz => ∃ (h : Nat) (B : Option Addr) (d : Nat), h ≤ n2 ∧ q = .int .i64 h ∧ v = .slice B (o ++ pick (gI m z.key) l2 h).length d ∧ ownG KV.cells 6 39 wz wg.heap.size B (o ++ pick (gI m z.key) l2 h).length d (o ++ pick (gI m z.key) l2 h) ∧ Below wg.heap.size wg wz) (fun _ i _ => n2 - (intOf i).toNat)
                    case atStart => exact ⟨0, B, d, Nat.zero_le _, rfl, by simp [pick], by simpa [pick] using OP.out, BN.out⟩
                    case round =>
                      clear OP BN BM
                      rename World => wz
                      obtain ⟨h, B, d, hh, rfl, rfl, hO, hB⟩ := hrel
                      have O := Lib.hid hO
                      have BM := Lib.hid (then_ BG.out hB)
                      have BN := Lib.hid hB
                      clear hO hB
                      have hlen := pick_len (gI m z.key) l2 h
                      by_cases hhn : h < n2
                      · have hhn1 : (h : Int) < n2 := by omega
                        obtain ⟨a2, u, rfl, _, hu, _, hc⟩ := (M.out.keep BM.out).at_ hhn
                        have AU := Lib.hid hc
                        have HUU := Lib.hid hu
                        obtain ⟨a', z', ea, _, hz', _, hc'⟩ := (K.out.keep BM.out).at_ hin
                        obtain rfl := Option.some.inj ea
                        obtain rfl := Option.some.inj (HZ.out.symm.trans hz')
                        have u0 := hc.c0
                        have u2 := hc.c2
                        have z0 := hc'.c0
                        have qu0 := fun d os => cell_regrown u0 d os
                        have qu2 := fun d os => cell_regrown u2 d os
                        have qz0 := fun d os => cell_regrown z0 d os
                        have PY := Lib.hid (pick_yes (gI m z.key) l2 h u hu)
                        have PN := Lib.hid (pick_no (gI m z.key) l2 h u hu)
                        generalize pick (gI m z.key) l2 h = o2 at *
                        have hol : (o ++ o2).length ≤ 60 := by rw [List.length_append]; omega
                        have HAS := Lib.hid (List.append_assoc o o2 [u])
                        have OA : Hid (ownG KV.cells 6 39 wz wg.heap.size B (o ++ o2).length d (o ++ o2)) := O
                        have HOO : Hid ((o ++ o2) = (o ++ o2)) := Lib.hid rfl
                        clear ea hu hc hz' hc' u0 u2 z0 O HOO
                        by_cases hcr : m < u.cre
                        · have hcr1 : decide (m < u.cre) = true := decide_eq_true hcr
                          cases ht : teq u.key z.key with
                          | true =>
                            have HT := Lib.hid (PN.out (by unfold gI; rw [hcr1, ht]; rfl))
                            have ht' : (u.key.toList == z.key.toList) = true := ht
                            clear ht PY PN
                            generalize hoo : o ++ o2 = oo at *
                            go_wp2
                            refine wp_region_quiet_below (by kernel_rfl) (by kernel_rfl) ?_
                            repeat (go_big_quiet_step (fail))
                            refine wpQuiet_nil ?_
                            intro v1 hw'
                            have hb' : Below wz.heap.size wz v1 := by
                              obtain ⟨⟨d', os⟩, rfl⟩ := hw'
                              exact below_grow (Below.refl _ _) (Nat.le_refl _) _ _
                            have BV := Lib.hid hb'
                            clear hw' hb'
                            have HOO := Lib.hid hoo
                            clear hoo
                            go_wp2
                            go_roundw
                            case rel => exact ⟨h + 1, B, d, by omega, by go_num, by rw [HT.out, HOO.out], by rw [HT.out, HOO.out]; exact ownG_keep OA.out BV.out, BN.out.trans (BV.out.mono BN.out.size)⟩
                            case measure => simp [intOf]; omega
                          | false =>
                            have HT := Lib.hid (PY.out (by unfold gI; rw [hcr1, ht]; rfl))
                            have ht' : (u.key.toList == z.key.toList) = false := ht
                            clear ht PY PN
                            generalize hoo : o ++ o2 = oo at *
                            have HOO := Lib.hid hoo
                            clear hoo
                            go_wp2
                            refine wp_region_quiet_below (by kernel_rfl) (by kernel_rfl) ?_
                            repeat (go_big_quiet_step (fail))
                            refine wpQuiet_nil ?_
                            intro v1 hw'
                            have hb' : Below wz.heap.size wz v1 := by
                              obtain ⟨⟨d', os⟩, rfl⟩ := hw'
                              exact below_grow (Below.refl _ _) (Nat.le_refl _) _ _
                            have BV := Lib.hid hb'
                            obtain ⟨u0, u1, u2, u3, u4, u5⟩ := AU.out.on hb'
                            have BW := Lib.hid (BN.out.trans (hb'.mono BN.out.size))
                            have BX := Lib.hid (BW.out.trans ((new1 v1 (u.obj 39)).mono BW.out.size))
                            obtain ⟨B', d', w4, hr4, ho4, hb4, -⟩ := app_kv wg.heap.size B oo.length d oo _ (ownG_keep (ownG_keep OA.out hb') (new1 v1 (u.obj 39))) (some ⟨v1.heap.size, 0, none⟩) 1 1 [u] (rows_new KV.cells_len v1 u _ rfl) (by omega) BX.out.size
                            have O4 := Lib.hid ho4
                            have B4 := Lib.hid (BX.out.trans hb4)
                            clear hw' hb' ho4 hb4 qu0 qu2 qz0
                            go_wp2_with (at_builtin; refine wpList_append_eq _ rfl (.tmp 121) (.tmp 126) _ _ rfl _ _ rfl rfl hr4 ?_)
                            go_roundw
                            case rel => exact ⟨h + 1, B', d', by omega, by go_num, by rw [HT.out, ← HAS.out, List.length_append]; rfl, by rw [HT.out, ← HAS.out, List.length_append]; exact O4.out, B4.out⟩
                            case measure => simp [intOf]; omega
                        · have hcr1 : decide (m < u.cre) = false := decide_eq_false hcr
                          have HT := Lib.hid (PN.out (by unfold gI; rw [hcr1]; rfl))
                          clear PY PN hcr
                          generalize hoo : o ++ o2 = oo at *
                          have HOO := Lib.hid hoo
                          clear hoo
                          go_wp2
                          refine wp_region_quiet_below (by kernel_rfl) (by kernel_rfl) ?_
                          repeat (go_big_quiet_step (fail))
                          refine wpQuiet_nil ?_
                          intro v1 hw'
                          have hb' : Below wz.heap.size wz v1 := by
                            obtain ⟨⟨d', os⟩, rfl⟩ := hw'
                            exact below_grow (Below.refl _ _) (Nat.le_refl _) _ _
                          have BV := Lib.hid hb'
                          clear hw' hb'
                          go_wp2
                          go_roundw
                          case rel => exact ⟨h + 1, B, d, by omega, by go_num, by rw [HT.out, HOO.out], by rw [HT.out, HOO.out]; exact ownG_keep OA.out BV.out, BN.out.trans (BV.out.mono BN.out.size)⟩
                          case measure => simp [intOf]; omega
                      · obtain rfl : h = n2 := by omega
                        have SR := ST.out h
                        have OK2 := Lib.hid (pick_oks (gI m z.key) l2 HOK2.out h)
                        generalize pick (gI m z.key) l2 h = o2 at *
                        have KM := Lib.hid (kvs_own O.out (fun z hz => by
                          rcases List.mem_append.1 hz with hz | hz
                          · exact OK1.out z hz
                          · exact OK2.out z hz))
                        have hol : (o ++ o2).length ≤ 60 := by rw [List.length_append]; omega
                        generalize o ++ o2 = oo at *
                        obtain ⟨a', z', ea, _, hz', _, hc'⟩ := (K.out.keep BM.out).at_ hin
                        obtain rfl := Option.some.inj ea
                        obtain rfl := Option.some.inj (HZ.out.symm.trans hz')
                        have AZ := Lib.hid hc'
                        have z0 := hc'.c0
                        have OQ := Lib.hid (OW.out.below BM.out)
                        have e0 := OQ.out.cell 0 _ rfl
                        have e1 := OQ.out.cell 1 _ rfl
                        have CR := fun w' (h : KVs w' B oo.length d oo) => ready_any x y B oo.length d oo z.key w' h (by omega)
                        rw [SR] at CR
                        clear ea hz' hc' SR O
                        go_wp2
                        go_region_held3 (fun w' => w'.cell? ⟨w.heap.size, 0, none⟩ = some (.int .i64 x) ∧ w'.cell? ⟨w.heap.size, 1, none⟩ = some (.int .i64 y) ∧ w'.cell? (a.add (i * 6)) = some (.string z.key)) (go_keep) (first
                          | (go_at_call 18; refine (CR _ (KM.out.keep (Below.drew (Below.refl _ _)))).mono ?_; rintro e w5 ⟨rfl, hb⟩; have B5 : Hid (Below wz.heap.size wz w5) := Lib.hid (Below.trans (Below.drew (Below.refl _ _)) hb); clear hb; have z5 := (AZ.out.on B5.out).c0; have f0 := (OQ.out.below B5.out).cell 0 _ rfl; have f1 := (OQ.out.below B5.out).cell 1 _ rfl))
                        go_wp2
                        go_roundw
                        case rel => exact ⟨gone + 1, by omega, by go_num, then_ BM.out B5.out⟩
                        case measure => simp [intOf]; omega
              · obtain rfl : gone = j := by omega
                go_wp2
                go_roundw
                case rel => exact ⟨i + 1, by omega, by go_num, BG.out⟩
                case measure => simp [intOf]; omega
        · obtain rfl : i = j := by omega
          go_wp2_with fail
          refine (tklive_any _).mono ?_; rintro e w9 ⟨rfl, hb⟩
          have B9 := Lib.hid (then_ BQ.out hb)
          clear hb
          go_wp2
          go_ret
          exact ⟨rfl, then_ B0.out B9.out⟩
theorem no1 (w : World) (x y : Int) (A1 : Option Addr) (n1 c1 : Nat) (l1 : List KV) (A2 : Option Addr) (n2 c2 : Nat) (l2 : List KV) (k1 : KVs w A1 n1 c1 l1) (k2 : KVs w A2 n2 c2 l2) (hf : fewB 40 l1 = false) :
    Calls Try.prog 6 #[.agg #[.int .i64 x, .int .i64 y], .slice A1 n1 c1, .slice A2 n2 c2] w fun e w' => e = .returned (.bool true) ∧ Below w.heap.size w w' := by
  have B0 := Lib.hid (new1 w (.cells #[.int .i64 x, .int .i64 y] 30))
  have K := Lib.hid (k1.keep B0.out)
  have M := Lib.hid (k2.keep B0.out)
  have HF := Lib.hid hf
  clear hf
  clear k1 k2
  go_enter Try.func6, Try.ntmps6
  go_wp2_with fail
  refine (few_any A1 n1 c1 l1 40 _ K.out (by omega)).mono ?_; rintro e w' ⟨rfl, rfl⟩
  rw [HF.out]
  go_wp2_with fail
  refine (tklive_any _).mono ?_; rintro e w9 ⟨rfl, hb⟩
  have B9 := Lib.hid (then_ B0.out hb)
  clear hb
  go_wp2
  go_ret
  exact ⟨rfl, B9.out⟩
theorem no2 (w : World) (x y : Int) (A1 : Option Addr) (n1 c1 : Nat) (l1 : List KV) (A2 : Option Addr) (n2 c2 : Nat) (l2 : List KV) (k1 : KVs w A1 n1 c1 l1) (k2 : KVs w A2 n2 c2 l2) (hf : fewB 40 l1 = true) (hf2 : fewB 20 l2 = false) :
    Calls Try.prog 6 #[.agg #[.int .i64 x, .int .i64 y], .slice A1 n1 c1, .slice A2 n2 c2] w fun e w' => e = .returned (.bool true) ∧ Below w.heap.size w w' := by
  have B0 := Lib.hid (new1 w (.cells #[.int .i64 x, .int .i64 y] 30))
  have K := Lib.hid (k1.keep B0.out)
  have M := Lib.hid (k2.keep B0.out)
  have HF := Lib.hid hf
  have HF2 := Lib.hid hf2
  clear hf hf2
  clear k1 k2
  go_enter Try.func6, Try.ntmps6
  go_wp2_with fail
  refine (few_any A1 n1 c1 l1 40 _ K.out (by omega)).mono ?_; rintro e w' ⟨rfl, rfl⟩
  rw [HF.out]
  go_wp2_with fail
  refine (few_any A2 n2 c2 l2 20 _ M.out (by omega)).mono ?_; rintro e w' ⟨rfl, rfl⟩
  rw [HF2.out]
  go_wp2_with fail
  refine (tklive_any _).mono ?_; rintro e w9 ⟨rfl, hb⟩
  have B9 := Lib.hid (then_ B0.out hb)
  clear hb
  go_wp2
  go_ret
  exact ⟨rfl, B9.out⟩
theorem no3 (w : World) (x y : Int) (A1 : Option Addr) (n1 c1 : Nat) (l1 : List KV) (A2 : Option Addr) (n2 c2 : Nat) (l2 : List KV) (k1 : KVs w A1 n1 c1 l1) (k2 : KVs w A2 n2 c2 l2) (hf : fewB 40 l1 = true) (hf2 : fewB 20 l2 = true) (hu : unB l1 = false) :
    Calls Try.prog 6 #[.agg #[.int .i64 x, .int .i64 y], .slice A1 n1 c1, .slice A2 n2 c2] w fun e w' => e = .returned (.bool true) ∧ Below w.heap.size w w' := by
  have B0 := Lib.hid (new1 w (.cells #[.int .i64 x, .int .i64 y] 30))
  have K := Lib.hid (k1.keep B0.out)
  have M := Lib.hid (k2.keep B0.out)
  have hn : n1 ≤ 40 := by
    have := k1.len
    unfold fewB at hf
    simp at hf
    omega
  have HF := Lib.hid hf
  have HF2 := Lib.hid hf2
  have HU := Lib.hid hu
  clear hf hf2 hu
  clear k1 k2
  go_enter Try.func6, Try.ntmps6
  go_wp2_with fail
  refine (few_any A1 n1 c1 l1 40 _ K.out (by omega)).mono ?_; rintro e w' ⟨rfl, rfl⟩
  rw [HF.out]
  go_wp2_with fail
  refine (few_any A2 n2 c2 l2 20 _ M.out (by omega)).mono ?_; rintro e w' ⟨rfl, rfl⟩
  rw [HF2.out]
  go_wp2_with fail
  refine (unlike_any A1 n1 c1 l1 _ K.out (by omega)).mono ?_; rintro e w1 ⟨rfl, hb⟩
  rw [HU.out]
  have B1 := Lib.hid (then_ B0.out hb)
  clear hb
  go_wp2_with fail
  refine (tklive_any _).mono ?_; rintro e w9 ⟨rfl, hb⟩
  have B9 := Lib.hid (then_ B1.out hb)
  clear hb
  go_wp2
  go_ret
  exact ⟨rfl, B9.out⟩
theorem no4 (w : World) (x y : Int) (A1 : Option Addr) (n1 c1 : Nat) (l1 : List KV) (A2 : Option Addr) (n2 c2 : Nat) (l2 : List KV) (k1 : KVs w A1 n1 c1 l1) (k2 : KVs w A2 n2 c2 l2) (hf : fewB 40 l1 = true) (hf2 : fewB 20 l2 = true) (hu : unB l1 = true) (hz : n1 = 0) :
    Calls Try.prog 6 #[.agg #[.int .i64 x, .int .i64 y], .slice A1 n1 c1, .slice A2 n2 c2] w fun e w' => e = .returned (.bool true) ∧ Below w.heap.size w w' := by
  have B0 := Lib.hid (new1 w (.cells #[.int .i64 x, .int .i64 y] 30))
  have K := Lib.hid (k1.keep B0.out)
  have M := Lib.hid (k2.keep B0.out)
  have HF := Lib.hid hf
  have HF2 := Lib.hid hf2
  have HU := Lib.hid hu
  subst hz
  clear hf hf2 hu
  clear k1 k2
  go_enter Try.func6, Try.ntmps6
  go_wp2_with fail
  refine (few_any A1 _ c1 l1 40 _ K.out (by omega)).mono ?_; rintro e w' ⟨rfl, rfl⟩
  rw [HF.out]
  go_wp2_with fail
  refine (few_any A2 n2 c2 l2 20 _ M.out (by omega)).mono ?_; rintro e w' ⟨rfl, rfl⟩
  rw [HF2.out]
  go_wp2_with fail
  refine (unlike_any A1 _ c1 l1 _ K.out (by omega)).mono ?_; rintro e w1 ⟨rfl, hb⟩
  rw [HU.out]
  have B1 := Lib.hid (then_ B0.out hb)
  clear hb
  go_wp2_with fail
  refine (tklive_any _).mono ?_; rintro e w9 ⟨rfl, hb⟩
  have B9 := Lib.hid (then_ B1.out hb)
  clear hb
  go_wp2
  go_ret
  exact ⟨rfl, B9.out⟩
theorem walk (w : World) (x y : Int) (A1 : Option Addr) (n1 c1 : Nat) (l1 : List KV) (A2 : Option Addr) (n2 c2 : Nat) (l2 : List KV) (wx : (Lit.int .i64 x).wf = true) (wy : (Lit.int .i64 y).wf = true) (k1 : KVs w A1 n1 c1 l1) (k2 : KVs w A2 n2 c2 l2) :
    Calls Try.prog 6 #[.agg #[.int .i64 x, .int .i64 y], .slice A1 n1 c1, .slice A2 n2 c2] w fun e w' => e = .returned (.bool true) ∧ Below w.heap.size w w' := by
  cases hf : fewB 40 l1 with
  | false => exact no1 w x y A1 n1 c1 l1 A2 n2 c2 l2 k1 k2 hf
  | true =>
    cases hf2 : fewB 20 l2 with
    | false => exact no2 w x y A1 n1 c1 l1 A2 n2 c2 l2 k1 k2 hf hf2
    | true =>
      cases hu : unB l1 with
      | false => exact no3 w x y A1 n1 c1 l1 A2 n2 c2 l2 k1 k2 hf hf2 hu
      | true =>
        by_cases hz : n1 = 0
        · exact no4 w x y A1 n1 c1 l1 A2 n2 c2 l2 k1 k2 hf hf2 hu hz
        · exact main w x y A1 n1 c1 l1 A2 n2 c2 l2 k1 k2 hf hf2 hu hz

theorem own : ownKnob Try.prog.godebug = none := by kernel_rfl
theorem laidOut : laidOutB Try.prog = true := by kernel_rfl

set_option maxRecDepth 100000 in
theorem lifted (os : Os) (started : os.Started) (H : Type) (enc : TypeId × Value → H) :
    ReturnsInHanded {} Try.checked os 6 .any (Rows.ticketStaysSpec.pre6 enc Try.prog Try.f6 Rows.ticketStaysRow.domain false) (Rows.ticketStaysSpec.post enc Try.prog Try.f6 false true false false) := by
  refine returnsInHanded_of_change (C := Try.checked) own started (by kernel_rfl) Try.func6
    (ChangeSpec.witness6 (enc := enc) (C := Try.checked) false ⟨#[], #[.agg #[.int .i64 0, .int .i64 0], .slice none 0 0, .slice none 0 0], []⟩ 8 (by kernel_rfl) (by kernel_rfl) (by kernel_rfl) (by kernel_rfl)) ?_
  intro W base args ds gs before hval0 hW hcnd _
  have hval : ∀ (j : Nat) t v, Try.f6.params[j]? = some t → args[j]? = some v → Value.okWide Try.prog W .any base t v := hval0
  have hW' := hW
  obtain ⟨p, q, hA0, hV, rfl, hfz, hnd⟩ := hW
  have hA : DataW.TrodAll enc Try.prog W 0 (fun _ => true) true Try.f6.params.toList args.toList ds p := hA0
  rw [Try.params6] at hA hval
  obtain ⟨v0, vs0, d0, ds0, p0, q0, hargs, rfl, rfl, h0, r0⟩ := trodAll_cons hA
  obtain ⟨v1, vs1, d1, ds1, p1, q1, rfl, rfl, rfl, h1, r1⟩ := trodAll_cons r0
  obtain ⟨v2, vs2, d2, ds2, p2, q2, rfl, rfl, rfl, h2, r2⟩ := trodAll_cons r1
  obtain ⟨rfl, rfl, rfl⟩ := trodAll_nil r2
  obtain rfl : args = #[v0, v1, v2] := by cases args; simp_all
  obtain ⟨rfl, rfl⟩ := trodVars_none hV
  obtain ⟨a0, b0, rfl, rfl, rfl, w0, u0⟩ := open_two_int Try.underlying30 Try.underlying3 (by kernel_rfl) (by kernel_rfl) (hval 0 30 v0 rfl rfl) h0
  obtain ⟨A1, n1, c1, l1, rfl, k1⟩ := open_kvs (hval 1 22 v1 rfl rfl) h1
  obtain ⟨A2, n2, c2, l2, rfl, k2⟩ := open_kvs (hval 2 22 v2 rfl rfl) h2
  clear hA0 hval0
  refine (walk W a0 b0 A1 n1 c1 l1 A2 n2 c2 l2 w0 u0 k1 k2).mono fun e W' ⟨he, bel⟩ => ?_
  subst he
  exact ⟨_, rfl, _, _, _, [], _, [], hW', trodAll_mk1 (shut_bool Try.underlying4 _), (trodAll_cons_mk (shut_two_int Try.underlying30 Try.underlying3 (by kernel_rfl) (by kernel_rfl) w0 u0) (trodAll_cons_mk (Below.trod laidOut (by kernel_rfl) (of_decide_eq_true (by kernel_rfl)) h1 bel (fun x hx => hW'.lt x (by simp [hx]))) (trodAll_cons_mk (Below.trod laidOut (by kernel_rfl) (of_decide_eq_true (by kernel_rfl)) h2 bel (fun x hx => hW'.lt x (by simp [hx]))) trodAll_mk0))), rfl, bel.frame _, fun h => by cases h⟩

theorem over : Rows.ticketStaysRow.holds Try.pinned (OpenSpec.ofChange Rows.ticketStaysSpec) :=
  OpenClaim.holds_of_wide 6 Try.f6 rfl rfl rfl rfl rfl rfl rfl ⟨rfl, rfl, rfl, rfl, rfl⟩ rfl rfl rfl rfl rfl (by kernel_rfl) Try.func6 (by kernel_rfl)
    (of_decide_eq_true (by kernel_rfl)) (by unfold Func.isWrapper; first | (rw [if_pos (by decide +kernel)]; kernel_rfl) | (rw [if_neg (by decide +kernel)]; exact ⟨rfl, rfl⟩))
    (fun os started H enc _ => lifted os started H enc)

theorem proved : Rows.TicketStaysSaid := over
#print axioms proved
end Go.Proofs.Ytefldchhopgliaa.ticketStays
