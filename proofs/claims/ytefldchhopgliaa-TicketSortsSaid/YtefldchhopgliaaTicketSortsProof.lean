/- For every list of things and every key the law TicketSorts answers true: the order has just the things of the list, by Create and Key; a place is where the order has the key. No condition. -/
import Derived.Test.YtefldchhopgliaaKvOpen
import Derived.Test.YtefldchhopgliaaTkSub
import Derived.Test.YtefldchhopgliaaRows
namespace Go.Proofs.Ytefldchhopgliaa.ticketSorts
open Go.ChangeShapes Go.WideShapes Go.ChangeAt Go.RowKit Go.Sort Go.Proofs.Ytefldchhopgliaa.P
open Go.ChangeMaps (open_string shut_string)
set_option linter.unusedVariables false
set_option linter.unusedSimpArgs false
set_option maxHeartbeats 4000000
set_option maxRecDepth 100000

def kvEq (a b : KV) : Bool := decide (a.key.toList = b.key.toList) && (decide (a.val.toList = b.val.toList) && (decide (a.cre = b.cre) && (decide (a.mod = b.mod) && (decide (a.ver = b.ver) && decide (a.lea = b.lea)))))
theorem ite_last (p : Prop) [Decidable p] (w : World) : (if p then Result.ok (Value.bool true) w else Result.ok (Value.bool false) w) = Result.ok (Value.bool (decide p)) w := by by_cases h : p <;> simp [h]
theorem ite_more (p : Prop) [Decidable p] (q : Bool) (w : World) : (if p then Result.ok (Value.bool q) w else Result.ok (Value.bool false) w) = Result.ok (Value.bool (decide p && q)) w := by by_cases h : p <;> simp [h]
theorem eql_kv (a b : KV) (w : World) : (binOp .eql 39 a.agg b.agg).run Try.prog w = .ok (.bool (kvEq a b)) w := by
  simp [go_sem, Try.underlying39]
  rw [ite_last, ite_more, ite_more, ite_more, ite_more, ite_more]
  rfl
/-- The count of what is alike, less that of the order. -/
def dif (y : KV) (l : List KV) (k : Nat) : Int := cntL (fun z => kvEq z y) l k - cntL (fun z => kvEq z y) (ordL befB l) k
theorem dif_end (y : KV) (l : List KV) (n : Nat) (h : l.length = n) : dif y l n = 0 := by
  unfold dif
  rw [cntL_same _ l n h]
  omega
theorem dif_range (y : KV) (l : List KV) (k : Nat) : -(k : Int) ≤ dif y l k ∧ dif y l k ≤ k := by
  unfold dif
  have h1 := cntL_range (fun z => kvEq z y) l k
  have h2 := cntL_range (fun z => kvEq z y) (ordL befB l) k
  omega
theorem dif_next (y : KV) (l : List KV) (k : Nat) (z u : KV) (hz : l[k]? = some z) (hu : (ordL befB l)[k]? = some u) (b c : Bool) (hb : kvEq z y = b) (hc : kvEq u y = c) : dif y l (k + 1) = dif y l k + (if b = true then 1 else 0) - (if c = true then 1 else 0) := by
  unfold dif
  rw [cntL_next _ l k z hz, cntL_next _ (ordL befB l) k u hu]
  simp only [hb, hc]
  omega
theorem main (w : World) (A0 : Option Addr) (n0 c0 : Nat) (l0 : List KV) (a1 : ByteArray) (k0 : KVs w A0 n0 c0 l0) (hf : fewB 40 l0 = true) (hz : a1.size ≤ 60) :
    Calls Try.prog 7 #[.slice A0 n0 c0, .string a1] w fun e w' => e = .returned (.bool true) ∧ Below w.heap.size w w' := by
  have K := Lib.hid k0
  have HF := Lib.hid hf
  have z1 : ¬ ((60 : Int) < (a1.size : Int)) := by omega
  have hn : n0 ≤ 40 := by
    have := k0.len
    unfold fewB at hf
    simp at hf
    omega
  have hl := k0.len
  have HL := Lib.hid hl
  have hol : (ordL befB l0).length = n0 := by rw [ordL_len, hl]
  have HOL := Lib.hid hol
  have NR := Lib.hid (fun i x y => ord_near l0 i x y)
  have HD := Lib.hid (fun y => dif_end y l0 n0 hl)
  have HR := Lib.hid (fun y k => dif_range y l0 k)
  have HN := Lib.hid (fun y k z u hz hu b c hb hc => dif_next y l0 k z u hz hu b c hb hc)
  have PN := Lib.hid (place_neg l0 a1)
  have PR := Lib.hid (idxL_range a1 (ordL befB l0))
  have PI := Lib.hid (idxL_is a1 (ordL befB l0))
  have CA : Hid (∀ w', KVs w' A0 n0 c0 l0 → Calls Try.prog 16 #[.slice A0 n0 c0, .string a1] w' (AheadEnd w' ((ordL befB l0).take (idxL a1 (ordL befB l0)).toNat))) := Lib.hid fun w' h => ahead_any A0 n0 c0 l0 a1 w' h (by omega)
  have CP : Hid (∀ w', KVs w' A0 n0 c0 l0 → Calls Try.prog 14 #[.slice A0 n0 c0, .string a1] w' fun e w'' => e = .returned (.int .i64 (idxL a1 (ordL befB l0))) ∧ Below w'.heap.size w' w'') := Lib.hid fun w' h => place_any A0 n0 c0 l0 a1 w' h (by omega)
  have CO := order_any A0 n0 c0 l0 w K.out (by omega)
  unfold OrdEnd at CO
  rw [hl] at CO
  generalize ordL befB l0 = ol at *
  have hneq : ((n0 : Int) != (n0 : Int)) = false := by simp
  clear hf k0 hol hl
  go_enter Try.func7, Try.ntmps7
  go_wp2_with fail
  refine (few_any A0 n0 c0 l0 40 _ K.out (by omega)).mono ?_; rintro e w' ⟨rfl, rfl⟩
  rw [HF.out]
  go_wp2_with fail
  refine CO.mono ?_; rintro e w2 ⟨g, rfl, -, hk, hb⟩
  have B2 := Lib.hid hb
  have O2 := Lib.hid hk
  clear hb hk CO
  generalize (some (⟨g, 0, none⟩ : Addr)) = Ag at *
  go_wp2
  go_loopw [6] (fun i wr => ∃ j : Nat, j ≤ n0 ∧ i = .int .i64 j ∧ Below w2.heap.size w2 wr) (fun i _ => n0 - (intOf i).toNat)
  case atStart => exact ⟨0, Nat.zero_le _, rfl, Below.refl _ _⟩
  case round =>
    rename World => wr
    obtain ⟨j, hj, rfl, hbr⟩ := hrel
    have BR := Lib.hid hbr
    clear hbr
    by_cases hjn : j < n0
    · have hjn1 : (j : Int) < n0 := by omega
      obtain ⟨b, y, rfl, hbly, hy, hoky, hcy⟩ := (O2.out.keep BR.out).at_ hjn
      have AY0 := Lib.hid hcy
      have HY := Lib.hid hy
      have fin : ∀ (W : World), Below wr.heap.size wr W → Below w2.heap.size w2 W := fun W h => BR.out.trans (h.mono BR.out.size)
      have FIN := Lib.hid fin
      clear fin hoky hcy hy
      have first : ∀ (P : Prop), P → P := fun _ h => h
      clear first
      by_cases hj0 : j = 0
      · subst hj0
        have hcy0 := AY0.out
        rw [Nat.zero_mul, Addr.add_zero'] at hcy0
        clear AY0
        have AY0 := Lib.hid hcy0
        clear hcy0
        go_wp2
        refine wp_region_quiet_below (by kernel_rfl) (by kernel_rfl) ?_
        repeat (go_big_quiet_step (fail))
        refine wpQuiet_nil ?_
        intro v1 hw'
        have hb' : Below wr.heap.size wr v1 := by
          obtain ⟨⟨d', os⟩, rfl⟩ := hw'
          exact below_grow (Below.refl _ _) (Nat.le_refl _) _ _
        have BV1 := Lib.hid (FIN.out _ hb')
        have AYV := Lib.hid (AY0.out.on hb')
        clear hw' hb'
        go_wp2
        go_loopw [7, 8] (fun v i wq => ∃ (k : Nat) (m : Int), k ≤ n0 ∧ i = .int .i64 k ∧ v = .int .i64 m ∧ -41 ≤ m ∧ m ≤ 41 ∧ Hid (m = dif y l0 k) ∧ Below v1.heap.size v1 wq) (fun _ i _ => n0 - (intOf i).toNat)
        case atStart => exact ⟨0, 0, Nat.zero_le _, rfl, rfl, by omega, by omega, Lib.hid (by simp [dif, cntL]), Below.refl _ _⟩
        case round =>
          rename World => wq
          obtain ⟨k, m, hk, rfl, rfl, hm1, hm2, HM, hbq⟩ := hrel
          have BQ := Lib.hid (BV1.out.trans (hbq.mono BV1.out.size))
          have BQV := Lib.hid hbq
          clear hbq
          by_cases hkn : k < n0
          · have hkn1 : (k : Int) < n0 := by omega
            obtain ⟨a, z, rfl, hblz, hz1, hokz, hcz⟩ := (K.out.keep (then_ B2.out BQ.out)).at_ hkn
            obtain ⟨b', u, eb, hblu, hu1, hoku, hcu⟩ := (O2.out.keep BQ.out).at_ hkn
            obtain rfl := Option.some.inj eb
            have AYQ := AYV.out.on BQV.out
            obtain ⟨y0, y1, y2, y3, y4, y5⟩ := AYQ
            obtain ⟨d0, d1, d2, d3, d4, d5⟩ := hcz
            obtain ⟨u0, u1, u2, u3, u4, u5⟩ := hcu
            have hqz := eql_kv z y
            have hqu := eql_kv u y
            have NX := HN.out y k z u hz1 hu1
            have RX := HR.out y (k + 1)
            rw [← HM.out] at NX
            clear eb hz1 hokz hu1 hoku
            obtain ⟨m', hm'⟩ : ∃ m', m' = dif y l0 (k + 1) := ⟨_, rfl⟩
            rw [← hm'] at NX RX
            have HMD := Lib.hid hm'
            clear hm'
            cases hb : kvEq z y with
            | true =>
              rw [hb] at hqz
              cases hc : kvEq u y with
              | true =>
                rw [hc] at hqu
                have HM2 : Hid (m' = m + 1 - 1) := Lib.hid (by have := NX true true hb hc; simp at this; omega)
                have r1 := RX.1
                have r2 := RX.2
                have r3 : -41 ≤ m + 1 - 1 ∧ m + 1 - 1 ≤ 41 := by have := HM2.out; omega
                have R3 := Lib.hid r3
                clear NX RX hb hc r1 r2 r3
                go_wp2
                go_quiet (fail)
                go_wp2
                go_quiet (fail)
                go_wp2
                go_roundw
                case rel => exact ⟨k + 1, m + 1 - 1, by omega, by go_num, by go_num, R3.out.1, R3.out.2, by show Hid (_ = dif y l0 (k + 1)); exact Lib.hid (HM2.out.symm.trans HMD.out), below_drewN BQV.out _⟩
                case measure => simp [intOf]; omega
              | false =>
                rw [hc] at hqu
                have HM2 : Hid (m' = m + 1) := Lib.hid (by have := NX true false hb hc; simp at this; omega)
                have r1 := RX.1
                have r2 := RX.2
                have r3 : -41 ≤ m + 1 ∧ m + 1 ≤ 41 := by have := HM2.out; omega
                have R3 := Lib.hid r3
                clear NX RX hb hc r1 r2 r3
                go_wp2
                go_quiet (fail)
                go_wp2
                go_quiet (fail)
                go_wp2
                go_roundw
                case rel => exact ⟨k + 1, m + 1, by omega, by go_num, by go_num, R3.out.1, R3.out.2, by show Hid (_ = dif y l0 (k + 1)); exact Lib.hid (HM2.out.symm.trans HMD.out), below_drewN BQV.out _⟩
                case measure => simp [intOf]; omega
            | false =>
              rw [hb] at hqz
              cases hc : kvEq u y with
              | true =>
                rw [hc] at hqu
                have HM2 : Hid (m' = m - 1) := Lib.hid (by have := NX false true hb hc; simp at this; omega)
                have r1 := RX.1
                have r2 := RX.2
                have r3 : -41 ≤ m - 1 ∧ m - 1 ≤ 41 := by have := HM2.out; omega
                have R3 := Lib.hid r3
                clear NX RX hb hc r1 r2 r3
                go_wp2
                go_quiet (fail)
                go_wp2
                go_quiet (fail)
                go_wp2
                go_roundw
                case rel => exact ⟨k + 1, m - 1, by omega, by go_num, by go_num, R3.out.1, R3.out.2, by show Hid (_ = dif y l0 (k + 1)); exact Lib.hid (HM2.out.symm.trans HMD.out), below_drewN BQV.out _⟩
                case measure => simp [intOf]; omega
              | false =>
                rw [hc] at hqu
                have HM2 : Hid (m' = m) := Lib.hid (by have := NX false false hb hc; simp at this; omega)
                have r1 := RX.1
                have r2 := RX.2
                have r3 : -41 ≤ m ∧ m ≤ 41 := by have := HM2.out; omega
                have R3 := Lib.hid r3
                clear NX RX hb hc r1 r2 r3
                go_wp2
                go_quiet (fail)
                go_wp2
                go_quiet (fail)
                go_wp2
                go_roundw
                case rel => exact ⟨k + 1, m, by omega, by go_num, by go_num, R3.out.1, R3.out.2, by show Hid (_ = dif y l0 (k + 1)); exact Lib.hid (HM2.out.symm.trans HMD.out), below_drewN BQV.out _⟩
                case measure => simp [intOf]; omega
          · obtain rfl : k = n0 := by omega
            obtain rfl : m = 0 := HM.out.trans (HD.out y)
            clear hm1 hm2 HM
            go_wp2
            go_roundw
            case rel => exact ⟨0 + 1, by omega, by go_num, BQ.out⟩
            case measure => simp [intOf]; omega
      · obtain ⟨i, hi⟩ : ∃ i, i + 1 = j := ⟨j - 1, by omega⟩
        obtain ⟨b', x, eb, hblx, hx, hokx, hcx⟩ := (O2.out.keep BR.out).at_ (show i < n0 by omega)
        obtain rfl := Option.some.inj eb
        obtain ⟨hcr, hke⟩ := NR.out i x y hx (by rw [hi]; exact HY.out)
        obtain ⟨x0, x1, x2, x3, x4, x5⟩ := hcx
        have y0 := AY0.out.c0
        have y2 := AY0.out.c2
        have qx0 := fun d os => cell_regrown x0 d os
        have qx2 := fun d os => cell_regrown x2 d os
        have qy0 := fun d os => cell_regrown y0 d os
        have qy2 := fun d os => cell_regrown y2 d os
        have hj1 : (0 : Int) < j := by omega
        have hj2 : decide (0 < j) = true := decide_eq_true (by omega)
        have hj3 : decide ((0 : Int) < (j : Int)) = true := decide_eq_true hj1
        have hji : (j : Int) - 1 = (i : Int) := by omega
        have hin : (i : Int) < n0 := by omega
        have HI := Lib.hid hi
        have hcr1 : decide (y.cre < x.cre) = false := decide_eq_false (by omega)
        clear eb hx hokx x0 x1 x2 x3 x4 x5 y0 y2 hi hj0
        by_cases hce : x.cre = y.cre
        · have hke2 := hke hce
          have hce2 : (x.cre == y.cre) = true := by simp [hce]
          have HK := Lib.hid hke2
          clear hke hce hke2 hcr
          cases ht : teq x.key y.key with
          | true =>
            have e1 : (x.key.toList == y.key.toList) = true := ht
            have e2 : Op.bytesLess x.key.toList y.key.toList = false := by rw [teq_iff.1 ht]; exact less_self _
            clear ht
            go_wp2
            refine wp_region_quiet_below (by kernel_rfl) (by kernel_rfl) ?_
            repeat (go_big_quiet_step (fail))
            refine wpQuiet_nil ?_
            intro v1 hw'
            have hb' : Below wr.heap.size wr v1 := by
              obtain ⟨⟨d', os⟩, rfl⟩ := hw'
              exact below_grow (Below.refl _ _) (Nat.le_refl _) _ _
            have BV1 := Lib.hid (FIN.out _ hb')
            have AYV := Lib.hid (AY0.out.on hb')
            clear hw' hb'
            go_wp2
            go_loopw [7, 8] (fun v i wq => ∃ (k : Nat) (m : Int), k ≤ n0 ∧ i = .int .i64 k ∧ v = .int .i64 m ∧ -41 ≤ m ∧ m ≤ 41 ∧ Hid (m = dif y l0 k) ∧ Below v1.heap.size v1 wq) (fun _ i _ => n0 - (intOf i).toNat)
            case atStart => exact ⟨0, 0, Nat.zero_le _, rfl, rfl, by omega, by omega, Lib.hid (by simp [dif, cntL]), Below.refl _ _⟩
            case round =>
              rename World => wq
              obtain ⟨k, m, hk, rfl, rfl, hm1, hm2, HM, hbq⟩ := hrel
              have BQ := Lib.hid (BV1.out.trans (hbq.mono BV1.out.size))
              have BQV := Lib.hid hbq
              clear hbq
              by_cases hkn : k < n0
              · have hkn1 : (k : Int) < n0 := by omega
                obtain ⟨a, z, rfl, hblz, hz1, hokz, hcz⟩ := (K.out.keep (then_ B2.out BQ.out)).at_ hkn
                obtain ⟨b', u, eb, hblu, hu1, hoku, hcu⟩ := (O2.out.keep BQ.out).at_ hkn
                obtain rfl := Option.some.inj eb
                have AYQ := AYV.out.on BQV.out
                obtain ⟨y0, y1, y2, y3, y4, y5⟩ := AYQ
                obtain ⟨d0, d1, d2, d3, d4, d5⟩ := hcz
                obtain ⟨u0, u1, u2, u3, u4, u5⟩ := hcu
                have hqz := eql_kv z y
                have hqu := eql_kv u y
                have NX := HN.out y k z u hz1 hu1
                have RX := HR.out y (k + 1)
                rw [← HM.out] at NX
                clear eb hz1 hokz hu1 hoku
                obtain ⟨m', hm'⟩ : ∃ m', m' = dif y l0 (k + 1) := ⟨_, rfl⟩
                rw [← hm'] at NX RX
                have HMD := Lib.hid hm'
                clear hm'
                cases hb : kvEq z y with
                | true =>
                  rw [hb] at hqz
                  cases hc : kvEq u y with
                  | true =>
                    rw [hc] at hqu
                    have HM2 : Hid (m' = m + 1 - 1) := Lib.hid (by have := NX true true hb hc; simp at this; omega)
                    have r1 := RX.1
                    have r2 := RX.2
                    have r3 : -41 ≤ m + 1 - 1 ∧ m + 1 - 1 ≤ 41 := by have := HM2.out; omega
                    have R3 := Lib.hid r3
                    clear NX RX hb hc r1 r2 r3
                    go_wp2
                    go_quiet (fail)
                    go_wp2
                    go_quiet (fail)
                    go_wp2
                    go_roundw
                    case rel => exact ⟨k + 1, m + 1 - 1, by omega, by go_num, by go_num, R3.out.1, R3.out.2, by show Hid (_ = dif y l0 (k + 1)); exact Lib.hid (HM2.out.symm.trans HMD.out), below_drewN BQV.out _⟩
                    case measure => simp [intOf]; omega
                  | false =>
                    rw [hc] at hqu
                    have HM2 : Hid (m' = m + 1) := Lib.hid (by have := NX true false hb hc; simp at this; omega)
                    have r1 := RX.1
                    have r2 := RX.2
                    have r3 : -41 ≤ m + 1 ∧ m + 1 ≤ 41 := by have := HM2.out; omega
                    have R3 := Lib.hid r3
                    clear NX RX hb hc r1 r2 r3
                    go_wp2
                    go_quiet (fail)
                    go_wp2
                    go_quiet (fail)
                    go_wp2
                    go_roundw
                    case rel => exact ⟨k + 1, m + 1, by omega, by go_num, by go_num, R3.out.1, R3.out.2, by show Hid (_ = dif y l0 (k + 1)); exact Lib.hid (HM2.out.symm.trans HMD.out), below_drewN BQV.out _⟩
                    case measure => simp [intOf]; omega
                | false =>
                  rw [hb] at hqz
                  cases hc : kvEq u y with
                  | true =>
                    rw [hc] at hqu
                    have HM2 : Hid (m' = m - 1) := Lib.hid (by have := NX false true hb hc; simp at this; omega)
                    have r1 := RX.1
                    have r2 := RX.2
                    have r3 : -41 ≤ m - 1 ∧ m - 1 ≤ 41 := by have := HM2.out; omega
                    have R3 := Lib.hid r3
                    clear NX RX hb hc r1 r2 r3
                    go_wp2
                    go_quiet (fail)
                    go_wp2
                    go_quiet (fail)
                    go_wp2
                    go_roundw
                    case rel => exact ⟨k + 1, m - 1, by omega, by go_num, by go_num, R3.out.1, R3.out.2, by show Hid (_ = dif y l0 (k + 1)); exact Lib.hid (HM2.out.symm.trans HMD.out), below_drewN BQV.out _⟩
                    case measure => simp [intOf]; omega
                  | false =>
                    rw [hc] at hqu
                    have HM2 : Hid (m' = m) := Lib.hid (by have := NX false false hb hc; simp at this; omega)
                    have r1 := RX.1
                    have r2 := RX.2
                    have r3 : -41 ≤ m ∧ m ≤ 41 := by have := HM2.out; omega
                    have R3 := Lib.hid r3
                    clear NX RX hb hc r1 r2 r3
                    go_wp2
                    go_quiet (fail)
                    go_wp2
                    go_quiet (fail)
                    go_wp2
                    go_roundw
                    case rel => exact ⟨k + 1, m, by omega, by go_num, by go_num, R3.out.1, R3.out.2, by show Hid (_ = dif y l0 (k + 1)); exact Lib.hid (HM2.out.symm.trans HMD.out), below_drewN BQV.out _⟩
                    case measure => simp [intOf]; omega
              · obtain rfl : k = n0 := by omega
                obtain rfl : m = 0 := HM.out.trans (HD.out y)
                clear hm1 hm2 HM
                go_wp2
                go_roundw
                case rel => exact ⟨j + 1, by omega, by go_num, BQ.out⟩
                case measure => simp [intOf]; omega
          | false =>
            have e1 : (x.key.toList == y.key.toList) = false := ht
            have e2 : Op.bytesLess x.key.toList y.key.toList = true := by
              have h1 := tlt_total HK.out (by rw [teq_comm]; exact ht)
              exact h1
            clear ht
            go_wp2
            refine wp_region_quiet_below (by kernel_rfl) (by kernel_rfl) ?_
            repeat (go_big_quiet_step (fail))
            refine wpQuiet_nil ?_
            intro v1 hw'
            have hb' : Below wr.heap.size wr v1 := by
              obtain ⟨⟨d', os⟩, rfl⟩ := hw'
              exact below_grow (Below.refl _ _) (Nat.le_refl _) _ _
            have BV1 := Lib.hid (FIN.out _ hb')
            have AYV := Lib.hid (AY0.out.on hb')
            clear hw' hb'
            go_wp2
            go_loopw [7, 8] (fun v i wq => ∃ (k : Nat) (m : Int), k ≤ n0 ∧ i = .int .i64 k ∧ v = .int .i64 m ∧ -41 ≤ m ∧ m ≤ 41 ∧ Hid (m = dif y l0 k) ∧ Below v1.heap.size v1 wq) (fun _ i _ => n0 - (intOf i).toNat)
            case atStart => exact ⟨0, 0, Nat.zero_le _, rfl, rfl, by omega, by omega, Lib.hid (by simp [dif, cntL]), Below.refl _ _⟩
            case round =>
              rename World => wq
              obtain ⟨k, m, hk, rfl, rfl, hm1, hm2, HM, hbq⟩ := hrel
              have BQ := Lib.hid (BV1.out.trans (hbq.mono BV1.out.size))
              have BQV := Lib.hid hbq
              clear hbq
              by_cases hkn : k < n0
              · have hkn1 : (k : Int) < n0 := by omega
                obtain ⟨a, z, rfl, hblz, hz1, hokz, hcz⟩ := (K.out.keep (then_ B2.out BQ.out)).at_ hkn
                obtain ⟨b', u, eb, hblu, hu1, hoku, hcu⟩ := (O2.out.keep BQ.out).at_ hkn
                obtain rfl := Option.some.inj eb
                have AYQ := AYV.out.on BQV.out
                obtain ⟨y0, y1, y2, y3, y4, y5⟩ := AYQ
                obtain ⟨d0, d1, d2, d3, d4, d5⟩ := hcz
                obtain ⟨u0, u1, u2, u3, u4, u5⟩ := hcu
                have hqz := eql_kv z y
                have hqu := eql_kv u y
                have NX := HN.out y k z u hz1 hu1
                have RX := HR.out y (k + 1)
                rw [← HM.out] at NX
                clear eb hz1 hokz hu1 hoku
                obtain ⟨m', hm'⟩ : ∃ m', m' = dif y l0 (k + 1) := ⟨_, rfl⟩
                rw [← hm'] at NX RX
                have HMD := Lib.hid hm'
                clear hm'
                cases hb : kvEq z y with
                | true =>
                  rw [hb] at hqz
                  cases hc : kvEq u y with
                  | true =>
                    rw [hc] at hqu
                    have HM2 : Hid (m' = m + 1 - 1) := Lib.hid (by have := NX true true hb hc; simp at this; omega)
                    have r1 := RX.1
                    have r2 := RX.2
                    have r3 : -41 ≤ m + 1 - 1 ∧ m + 1 - 1 ≤ 41 := by have := HM2.out; omega
                    have R3 := Lib.hid r3
                    clear NX RX hb hc r1 r2 r3
                    go_wp2
                    go_quiet (fail)
                    go_wp2
                    go_quiet (fail)
                    go_wp2
                    go_roundw
                    case rel => exact ⟨k + 1, m + 1 - 1, by omega, by go_num, by go_num, R3.out.1, R3.out.2, by show Hid (_ = dif y l0 (k + 1)); exact Lib.hid (HM2.out.symm.trans HMD.out), below_drewN BQV.out _⟩
                    case measure => simp [intOf]; omega
                  | false =>
                    rw [hc] at hqu
                    have HM2 : Hid (m' = m + 1) := Lib.hid (by have := NX true false hb hc; simp at this; omega)
                    have r1 := RX.1
                    have r2 := RX.2
                    have r3 : -41 ≤ m + 1 ∧ m + 1 ≤ 41 := by have := HM2.out; omega
                    have R3 := Lib.hid r3
                    clear NX RX hb hc r1 r2 r3
                    go_wp2
                    go_quiet (fail)
                    go_wp2
                    go_quiet (fail)
                    go_wp2
                    go_roundw
                    case rel => exact ⟨k + 1, m + 1, by omega, by go_num, by go_num, R3.out.1, R3.out.2, by show Hid (_ = dif y l0 (k + 1)); exact Lib.hid (HM2.out.symm.trans HMD.out), below_drewN BQV.out _⟩
                    case measure => simp [intOf]; omega
                | false =>
                  rw [hb] at hqz
                  cases hc : kvEq u y with
                  | true =>
                    rw [hc] at hqu
                    have HM2 : Hid (m' = m - 1) := Lib.hid (by have := NX false true hb hc; simp at this; omega)
                    have r1 := RX.1
                    have r2 := RX.2
                    have r3 : -41 ≤ m - 1 ∧ m - 1 ≤ 41 := by have := HM2.out; omega
                    have R3 := Lib.hid r3
                    clear NX RX hb hc r1 r2 r3
                    go_wp2
                    go_quiet (fail)
                    go_wp2
                    go_quiet (fail)
                    go_wp2
                    go_roundw
                    case rel => exact ⟨k + 1, m - 1, by omega, by go_num, by go_num, R3.out.1, R3.out.2, by show Hid (_ = dif y l0 (k + 1)); exact Lib.hid (HM2.out.symm.trans HMD.out), below_drewN BQV.out _⟩
                    case measure => simp [intOf]; omega
                  | false =>
                    rw [hc] at hqu
                    have HM2 : Hid (m' = m) := Lib.hid (by have := NX false false hb hc; simp at this; omega)
                    have r1 := RX.1
                    have r2 := RX.2
                    have r3 : -41 ≤ m ∧ m ≤ 41 := by have := HM2.out; omega
                    have R3 := Lib.hid r3
                    clear NX RX hb hc r1 r2 r3
                    go_wp2
                    go_quiet (fail)
                    go_wp2
                    go_quiet (fail)
                    go_wp2
                    go_roundw
                    case rel => exact ⟨k + 1, m, by omega, by go_num, by go_num, R3.out.1, R3.out.2, by show Hid (_ = dif y l0 (k + 1)); exact Lib.hid (HM2.out.symm.trans HMD.out), below_drewN BQV.out _⟩
                    case measure => simp [intOf]; omega
              · obtain rfl : k = n0 := by omega
                obtain rfl : m = 0 := HM.out.trans (HD.out y)
                clear hm1 hm2 HM
                go_wp2
                go_roundw
                case rel => exact ⟨j + 1, by omega, by go_num, BQ.out⟩
                case measure => simp [intOf]; omega
        · have hce2 : (x.cre == y.cre) = false := by simp [hce]
          clear hke hce hcr
          go_wp2
          refine wp_region_quiet_below (by kernel_rfl) (by kernel_rfl) ?_
          repeat (go_big_quiet_step (fail))
          refine wpQuiet_nil ?_
          intro v1 hw'
          have hb' : Below wr.heap.size wr v1 := by
            obtain ⟨⟨d', os⟩, rfl⟩ := hw'
            exact below_grow (Below.refl _ _) (Nat.le_refl _) _ _
          have BV1 := Lib.hid (FIN.out _ hb')
          have AYV := Lib.hid (AY0.out.on hb')
          clear hw' hb'
          go_wp2
          go_loopw [7, 8] (fun v i wq => ∃ (k : Nat) (m : Int), k ≤ n0 ∧ i = .int .i64 k ∧ v = .int .i64 m ∧ -41 ≤ m ∧ m ≤ 41 ∧ Hid (m = dif y l0 k) ∧ Below v1.heap.size v1 wq) (fun _ i _ => n0 - (intOf i).toNat)
          case atStart => exact ⟨0, 0, Nat.zero_le _, rfl, rfl, by omega, by omega, Lib.hid (by simp [dif, cntL]), Below.refl _ _⟩
          case round =>
            rename World => wq
            obtain ⟨k, m, hk, rfl, rfl, hm1, hm2, HM, hbq⟩ := hrel
            have BQ := Lib.hid (BV1.out.trans (hbq.mono BV1.out.size))
            have BQV := Lib.hid hbq
            clear hbq
            by_cases hkn : k < n0
            · have hkn1 : (k : Int) < n0 := by omega
              obtain ⟨a, z, rfl, hblz, hz1, hokz, hcz⟩ := (K.out.keep (then_ B2.out BQ.out)).at_ hkn
              obtain ⟨b', u, eb, hblu, hu1, hoku, hcu⟩ := (O2.out.keep BQ.out).at_ hkn
              obtain rfl := Option.some.inj eb
              have AYQ := AYV.out.on BQV.out
              obtain ⟨y0, y1, y2, y3, y4, y5⟩ := AYQ
              obtain ⟨d0, d1, d2, d3, d4, d5⟩ := hcz
              obtain ⟨u0, u1, u2, u3, u4, u5⟩ := hcu
              have hqz := eql_kv z y
              have hqu := eql_kv u y
              have NX := HN.out y k z u hz1 hu1
              have RX := HR.out y (k + 1)
              rw [← HM.out] at NX
              clear eb hz1 hokz hu1 hoku
              obtain ⟨m', hm'⟩ : ∃ m', m' = dif y l0 (k + 1) := ⟨_, rfl⟩
              rw [← hm'] at NX RX
              have HMD := Lib.hid hm'
              clear hm'
              cases hb : kvEq z y with
              | true =>
                rw [hb] at hqz
                cases hc : kvEq u y with
                | true =>
                  rw [hc] at hqu
                  have HM2 : Hid (m' = m + 1 - 1) := Lib.hid (by have := NX true true hb hc; simp at this; omega)
                  have r1 := RX.1
                  have r2 := RX.2
                  have r3 : -41 ≤ m + 1 - 1 ∧ m + 1 - 1 ≤ 41 := by have := HM2.out; omega
                  have R3 := Lib.hid r3
                  clear NX RX hb hc r1 r2 r3
                  go_wp2
                  go_quiet (fail)
                  go_wp2
                  go_quiet (fail)
                  go_wp2
                  go_roundw
                  case rel => exact ⟨k + 1, m + 1 - 1, by omega, by go_num, by go_num, R3.out.1, R3.out.2, by show Hid (_ = dif y l0 (k + 1)); exact Lib.hid (HM2.out.symm.trans HMD.out), below_drewN BQV.out _⟩
                  case measure => simp [intOf]; omega
                | false =>
                  rw [hc] at hqu
                  have HM2 : Hid (m' = m + 1) := Lib.hid (by have := NX true false hb hc; simp at this; omega)
                  have r1 := RX.1
                  have r2 := RX.2
                  have r3 : -41 ≤ m + 1 ∧ m + 1 ≤ 41 := by have := HM2.out; omega
                  have R3 := Lib.hid r3
                  clear NX RX hb hc r1 r2 r3
                  go_wp2
                  go_quiet (fail)
                  go_wp2
                  go_quiet (fail)
                  go_wp2
                  go_roundw
                  case rel => exact ⟨k + 1, m + 1, by omega, by go_num, by go_num, R3.out.1, R3.out.2, by show Hid (_ = dif y l0 (k + 1)); exact Lib.hid (HM2.out.symm.trans HMD.out), below_drewN BQV.out _⟩
                  case measure => simp [intOf]; omega
              | false =>
                rw [hb] at hqz
                cases hc : kvEq u y with
                | true =>
                  rw [hc] at hqu
                  have HM2 : Hid (m' = m - 1) := Lib.hid (by have := NX false true hb hc; simp at this; omega)
                  have r1 := RX.1
                  have r2 := RX.2
                  have r3 : -41 ≤ m - 1 ∧ m - 1 ≤ 41 := by have := HM2.out; omega
                  have R3 := Lib.hid r3
                  clear NX RX hb hc r1 r2 r3
                  go_wp2
                  go_quiet (fail)
                  go_wp2
                  go_quiet (fail)
                  go_wp2
                  go_roundw
                  case rel => exact ⟨k + 1, m - 1, by omega, by go_num, by go_num, R3.out.1, R3.out.2, by show Hid (_ = dif y l0 (k + 1)); exact Lib.hid (HM2.out.symm.trans HMD.out), below_drewN BQV.out _⟩
                  case measure => simp [intOf]; omega
                | false =>
                  rw [hc] at hqu
                  have HM2 : Hid (m' = m) := Lib.hid (by have := NX false false hb hc; simp at this; omega)
                  have r1 := RX.1
                  have r2 := RX.2
                  have r3 : -41 ≤ m ∧ m ≤ 41 := by have := HM2.out; omega
                  have R3 := Lib.hid r3
                  clear NX RX hb hc r1 r2 r3
                  go_wp2
                  go_quiet (fail)
                  go_wp2
                  go_quiet (fail)
                  go_wp2
                  go_roundw
                  case rel => exact ⟨k + 1, m, by omega, by go_num, by go_num, R3.out.1, R3.out.2, by show Hid (_ = dif y l0 (k + 1)); exact Lib.hid (HM2.out.symm.trans HMD.out), below_drewN BQV.out _⟩
                  case measure => simp [intOf]; omega
            · obtain rfl : k = n0 := by omega
              obtain rfl : m = 0 := HM.out.trans (HD.out y)
              clear hm1 hm2 HM
              go_wp2
              go_roundw
              case rel => exact ⟨j + 1, by omega, by go_num, BQ.out⟩
              case measure => simp [intOf]; omega
    · obtain rfl : j = n0 := by omega
      have B3 := Lib.hid (then_ B2.out BR.out)
      have O3 := Lib.hid (O2.out.keep BR.out)
      have CP1 := CP.out wr (K.out.keep B3.out)
      have PRm := PR.out.1
      clear BR
      by_cases hp : idxL a1 ol < 0
      · have hf := (PN.out).1 hp
        have e : idxL a1 ol = -1 := by omega
        have CF := fun w' h => find_ref A0 j c0 l0 a1 w' h (by omega)
        have CA1 := CA.out
        rw [e] at CP1 CA1
        rw [show ol.take (-1 : Int).toNat = [] by rfl] at CA1
        cases hfd : findL l0 a1 with
        | some y => rw [hfd] at hf; cases hf
        | none =>
        rw [hfd] at CF
        clear hp hf e PRm hfd
        unfold AheadEnd at CA1
        go_wp2_with fail
        refine CP1.mono ?_; rintro e w4 ⟨rfl, hb⟩
        have B4 := Lib.hid (then_ B3.out hb)
        clear hb
        go_wp2_with fail
        refine (CF _ (K.out.keep B4.out)).mono ?_; rintro e w5 hf5
        obtain ⟨rfl, hb⟩ := hf5.none_
        have B5 := Lib.hid (then_ B4.out hb)
        have B6 := Lib.hid (then_ B5.out (new1 w5 (.cells #[.string ⟨#[]⟩, .string ⟨#[]⟩, .int .i64 0, .int .i64 0, .int .i64 0, .int .i64 0] 39)))
        clear hb hf5
        go_wp2_with fail
        refine (CA1 _ (K.out.keep B6.out)).mono ?_; rintro e w7 ⟨g7, q7, d7, rfl, -, hk7, hb⟩
        obtain rfl : 0 = q7 := hk7.len
        have B7 := Lib.hid (then_ B6.out hb)
        clear hb hk7
        go_wp2_with fail
        refine (tklive_any _).mono ?_; rintro e w9 ⟨rfl, hb⟩
        have B9 := Lib.hid (then_ B7.out hb)
        clear hb
        go_wp2
        go_ret
        exact ⟨rfl, B9.out⟩
      · rcases PI.out with ⟨e, _⟩ | ⟨p, x, e, hx, ht, hno⟩
        · omega
        · have hpn : p < j := by have := (List.getElem?_eq_some_iff.1 hx).1; have := HOL.out; omega
          have hfs : (findL l0 a1).isSome = true := by
            cases hq : (findL l0 a1).isSome with
            | true => rfl
            | false => exact absurd (PN.out.2 hq) hp
          have CF := fun w' h => find_ref A0 j c0 l0 a1 w' h (by omega)
          have CA1 := CA.out
          rw [e] at CP1 CA1
          rw [show (p : Int).toNat = p by omega] at CA1
          cases hfd : findL l0 a1 with
          | none => rw [hfd] at hfs; cases hfs
          | some y =>
          rw [hfd] at CF
          have HX := Lib.hid hx
          have ht' : (x.key.toList == a1.toList) = true := ht
          have hp1 : (p : Int) < j := by omega
          have hp2 : ¬ ((p : Int) < 0) := by omega
          have hp3 : decide ((p : Int) < 0) = false := decide_eq_false hp2
          clear hp hfs e PRm hfd hx ht hno PI PN PR
          unfold AheadEnd at CA1
          go_wp2_with fail
          refine CP1.mono ?_; rintro e w4 ⟨rfl, hb⟩
          have B4 := Lib.hid (then_ B3.out hb)
          have O4 := Lib.hid (O3.out.keep hb)
          clear hb
          go_wp2_with fail
          refine (CF _ (K.out.keep B4.out)).mono ?_; rintro e w5 hf5
          obtain ⟨rfl, hb⟩ := hf5.some_
          have B5 := Lib.hid (then_ B4.out hb)
          have O5 := Lib.hid (O4.out.keep hb)
          have B6 := Lib.hid (then_ B5.out (new1 w5 (y.obj 39)))
          have O6 := Lib.hid (O5.out.keep (new1 w5 (y.obj 39)))
          clear hb hf5
          have K6 := Lib.hid (K.out.keep B6.out)
          obtain ⟨b, x', rfl, hblx, hx', hokx, hcx⟩ := O6.out.at_ hpn
          obtain rfl := Option.some.inj (HX.out.symm.trans hx')
          have AX := Lib.hid hcx
          have e0 := hcx.c0
          have hpj : p ≤ j := by omega
          have hpj1 : (p : Int) ≤ j := by omega
          clear hx' hokx hcx hblx
          go_wp2_with fail
          generalize w5.alloc (.cells #[.string y.key, .string y.val, .int .i64 y.cre, .int .i64 y.mod, .int .i64 y.ver, .int .i64 y.lea] 39) = w6 at *
          go_region_held3 (fun w' => w'.cell? (b.add (p * 6)) = some (.string x.key)) (go_keep) (first
            | (go_at_call 16; refine (CA1 _ (K6.out.keep (Below.drew (Below.refl _ _)))).mono ?_; rintro e w7 ⟨g7, q7, d7, rfl, -, hk7, hb⟩; obtain rfl : p = q7 := (by rw [← hk7.len, List.length_take, HOL.out]; omega); have B7 : Hid (Below w6.heap.size w6 w7) := Lib.hid (Below.trans (Below.drew (Below.refl _ _)) hb); have K7 := Lib.hid hk7; clear hb hk7; have e7 := (AX.out.on B7.out).c0)
            | (go_at_call 11; refine (kvs_same _ _ _ d7 _ _ _ K7.out ((O6.out.keep B7.out).take hpj) (by omega)).mono ?_; rintro e w8 ⟨rfl, hb⟩; have B8 := Lib.hid (then_ B7.out hb); have e8 := (AX.out.on B8.out).c0; clear hb e7)
            | (go_at_call 10; refine (tklive_any _).mono ?_; rintro e w9 ⟨rfl, hb⟩; have B9 := Lib.hid (then_ B8.out hb); have e9 := (AX.out.on B9.out).c0; clear hb e8))
          go_wp2
          go_ret
          exact ⟨rfl, then_ B6.out B9.out⟩
theorem walk (w : World) (A0 : Option Addr) (n0 c0 : Nat) (l0 : List KV) (a1 : ByteArray) (k0 : KVs w A0 n0 c0 l0) (w1 : a1.size ≤ maxLen) :
    Calls Try.prog 7 #[.slice A0 n0 c0, .string a1] w fun e w' => e = .returned (.bool true) ∧ Below w.heap.size w w' := by
  have K := Lib.hid k0
  cases hf : fewB 40 l0 with
  | false =>
    have HF := Lib.hid hf
    clear hf k0
    go_enter Try.func7, Try.ntmps7
    go_wp2_with fail
    refine (few_any A0 n0 c0 l0 40 _ K.out (by omega)).mono ?_; rintro e w' ⟨rfl, rfl⟩
    rw [HF.out]
    go_wp2_with fail
    refine (tklive_any _).mono ?_; rintro e w2 ⟨rfl, hb⟩
    have BL := Lib.hid hb
    clear hb
    go_wp2
    go_ret
    exact ⟨rfl, BL.out⟩
  | true =>
    by_cases hz : a1.size ≤ 60
    · exact main w A0 n0 c0 l0 a1 k0 hf hz
    · have HF := Lib.hid hf
      have z1 : (60 : Int) < (a1.size : Int) := by omega
      clear hf k0
      go_enter Try.func7, Try.ntmps7
      go_wp2_with fail
      refine (few_any A0 n0 c0 l0 40 _ K.out (by omega)).mono ?_; rintro e w' ⟨rfl, rfl⟩
      rw [HF.out]
      go_wp2_with fail
      refine (tklive_any _).mono ?_; rintro e w2 ⟨rfl, hb⟩
      have BL := Lib.hid hb
      clear hb
      go_wp2
      go_ret
      exact ⟨rfl, BL.out⟩

theorem own : ownKnob Try.prog.godebug = none := by kernel_rfl
theorem laidOut : laidOutB Try.prog = true := by kernel_rfl

set_option maxRecDepth 100000 in
theorem lifted (os : Os) (started : os.Started) (H : Type) (enc : TypeId × Value → H) :
    ReturnsInHanded {} Try.checked os 7 .any (Rows.ticketSortsSpec.pre6 enc Try.prog Try.f7 Rows.ticketSortsRow.domain false) (Rows.ticketSortsSpec.post enc Try.prog Try.f7 false true false false) := by
  refine returnsInHanded_of_change (C := Try.checked) own started (by kernel_rfl) Try.func7
    (ChangeSpec.witness6 (enc := enc) (C := Try.checked) false ⟨#[], #[.slice none 0 0, .string ByteArray.empty], []⟩ 8 (by kernel_rfl) (by kernel_rfl) (by kernel_rfl) (by kernel_rfl)) ?_
  intro W base args ds gs before hval0 hW hcnd _
  have hval : ∀ (j : Nat) t v, Try.f7.params[j]? = some t → args[j]? = some v → Value.okWide Try.prog W .any base t v := hval0
  have hW' := hW
  obtain ⟨p, q, hA0, hV, rfl, hfz, hnd⟩ := hW
  have hA : DataW.TrodAll enc Try.prog W 0 (fun _ => true) true Try.f7.params.toList args.toList ds p := hA0
  rw [Try.params7] at hA hval
  obtain ⟨v0, vs0, d0, ds0, p0, q0, hargs, rfl, rfl, h0, r0⟩ := trodAll_cons hA
  obtain ⟨v1, vs1, d1, ds1, p1, q1, rfl, rfl, rfl, h1, r1⟩ := trodAll_cons r0
  obtain ⟨rfl, rfl, rfl⟩ := trodAll_nil r1
  obtain rfl : args = #[v0, v1] := by cases args; simp_all
  obtain ⟨rfl, rfl⟩ := trodVars_none hV
  obtain ⟨A0, n0, c0, l0, rfl, k0⟩ := open_kvs (hval 0 22 v0 rfl rfl) h0
  obtain ⟨a1, rfl, rfl, rfl, w1⟩ := open_string Try.underlying9 (hval 1 9 v1 rfl rfl) h1
  clear hA0 hval0
  refine (walk W A0 n0 c0 l0 a1 k0 w1).mono fun e W' ⟨he, bel⟩ => ?_
  subst he
  exact ⟨_, rfl, _, _, _, [], _, [], hW', trodAll_mk1 (shut_bool Try.underlying4 _), (trodAll_cons_mk (Below.trod laidOut (by kernel_rfl) (of_decide_eq_true (by kernel_rfl)) h0 bel (fun x hx => hW'.lt x (by simp [hx]))) (trodAll_cons_mk (shut_string Try.underlying9 w1) trodAll_mk0)), rfl, bel.frame _, fun h => by cases h⟩

theorem over : Rows.ticketSortsRow.holds Try.pinned (OpenSpec.ofChange Rows.ticketSortsSpec) :=
  OpenClaim.holds_of_wide 7 Try.f7 rfl rfl rfl rfl rfl rfl rfl ⟨rfl, rfl, rfl, rfl, rfl⟩ rfl rfl rfl rfl rfl (by kernel_rfl) Try.func7 (by kernel_rfl)
    (of_decide_eq_true (by kernel_rfl)) (by unfold Func.isWrapper; first | (rw [if_pos (by decide +kernel)]; kernel_rfl) | (rw [if_neg (by decide +kernel)]; exact ⟨rfl, rfl⟩))
    (fun os started H enc _ => lifted os started H enc)

theorem proved : Rows.TicketSortsSaid := over
#print axioms proved
end Go.Proofs.Ytefldchhopgliaa.ticketSorts
