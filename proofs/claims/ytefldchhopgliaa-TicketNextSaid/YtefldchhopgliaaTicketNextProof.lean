/- For every list of things and every number the law TicketNext answers true: when the first one of a Mutex goes, the next one of the order is ready, and nobody else; of Permits as many as there were. No condition. -/
import Derived.Test.YtefldchhopgliaaKvOpen
import Derived.Test.YtefldchhopgliaaTkSub
import Derived.Test.YtefldchhopgliaaRows
namespace Go.Proofs.Ytefldchhopgliaa.ticketNext
open Go.ChangeShapes Go.WideShapes Go.ChangeAt Go.RowKit Go.Sort Go.Proofs.Ytefldchhopgliaa.P
open Go.ChangeMaps (open_string shut_string)
set_option linter.unusedVariables false
set_option linter.unusedSimpArgs false
set_option maxHeartbeats 2000000
set_option maxRecDepth 100000

def rest (l : List KV) (x : KV) : List KV := l.filter fun y => !teq y.key x.key
theorem rest_next (l : List KV) (x : KV) (j : Nat) (y : KV) (hy : l[j]? = some y) (b : Bool) (hb : teq y.key x.key = b) : rest (l.take (j + 1)) x = rest (l.take j) x ++ (if b = true then [] else [y]) := by
  unfold rest
  rw [take_succ l j y hy, List.filter_append]
  cases b with
  | true => simp [hb]
  | false => simp [hb]
theorem rest_len (l : List KV) (x : KV) (j : Nat) : (rest (l.take j) x).length ≤ j := by
  unfold rest
  have := List.length_filter_le (fun y : KV => !teq y.key x.key) (l.take j)
  rw [List.length_take] at this
  omega
theorem main (w : World) (A0 : Option Addr) (n0 c0 : Nat) (l0 : List KV) (a1 : Int) (k0 : KVs w A0 n0 c0 l0) (hf : fewB 40 l0 = true) (hu : unB l0 = true) (hn0 : n0 ≠ 0) (ha : ¬ a1 < 1) :
    Calls Try.prog 8 #[.slice A0 n0 c0, .int .i64 a1] w fun e w' => e = .returned (.bool true) ∧ Below w.heap.size w w' := by
  have K := Lib.hid k0
  have HF := Lib.hid hf
  have HU := Lib.hid hu
  have hn : n0 ≤ 40 := by
    have := k0.len
    unfold fewB at hf
    simp at hf
    omega
  have hl := k0.len
  have hol : (ordL befB l0).length = n0 := by rw [ordL_len, hl]
  cases ho : ordL befB l0 with
  | nil => rw [ho] at hol; simp at hol; omega
  | cons x r =>
  have hrl : r.length + 1 = n0 := by rw [ho] at hol; simpa using hol
  have HX := Lib.hid (next_tail l0 hu x r ho)
  have HO := Lib.hid ho
  have hneq : ((n0 : Int) != (n0 : Int)) = false := by simp
  have hz : ((n0 : Int) == 0) = false := by simp; omega
  have HRL := Lib.hid hrl
  have HOK := Lib.hid k0.ok
  clear hf hu k0 ho hol
  go_enter Try.func8, Try.ntmps8
  go_wp2_with fail
  refine (few_any A0 n0 c0 l0 40 _ K.out (by omega)).mono ?_; rintro e w' ⟨rfl, rfl⟩
  rw [HF.out]
  go_wp2_with fail
  refine (unlike_any A0 n0 c0 l0 _ K.out (by omega)).mono ?_; rintro e w1 ⟨rfl, hb⟩
  rw [HU.out]
  have B1 := Lib.hid hb
  clear hb
  go_wp2_with fail
  refine (order_any A0 n0 c0 l0 _ (K.out.keep B1.out) (by omega)).mono ?_; rintro e w2 ⟨g, rfl, -, hk, hb⟩
  rw [hl] at hk ⊢
  rw [HO.out] at hk
  have B2 := Lib.hid (then_ B1.out hb)
  have O2 := Lib.hid hk
  clear hb hk
  go_wp2
  go_loopw [6, 7] (fun v i wr => ∃ (j : Nat) (B : Option Addr) (d : Nat), j ≤ n0 ∧ i = .int .i64 j ∧ v = .slice B (rest (l0.take j) x).length d ∧ ownG KV.cells 6 39 wr w2.heap.size B (rest (l0.take j) x).length d (rest (l0.take j) x) ∧ Below w2.heap.size w2 wr) (fun _ i _ => n0 - (intOf i).toNat)
  case atStart => exact ⟨0, none, 0, Nat.zero_le _, rfl, rfl, ownG_nil _ _ _ _ _, Below.refl _ _⟩
  case round =>
    rename World => wr
    obtain ⟨j, B, d, hj, rfl, rfl, hO, hB⟩ := hrel
    have O := Lib.hid hO
    have BB := Lib.hid hB
    clear hO hB
    have hlen := rest_len l0 x j
    by_cases hlt : j < n0
    · obtain ⟨a, y, rfl, hbl, hy, hok, hc⟩ := ((K.out.keep B2.out).keep BB.out).at_ hlt
      obtain ⟨c0, c1, c2, c3, c4, c5⟩ := hc
      obtain ⟨b, x', eb, hbl2, hx', hok2, hc2⟩ := (O2.out.keep BB.out).at_ (show 0 < n0 by omega)
      injection eb with eb
      subst eb
      obtain rfl := Option.some.inj hx'
      have d0 := hc2.c0
      rw [Nat.zero_mul, Addr.add_zero'] at d0
      have hlt1 : (j : Int) < n0 := by omega
      have hn1 : (0 : Int) < n0 := by omega
      have HN := rest_next l0 x j y hy
      have HY := Lib.hid hy
      generalize rest (l0.take j) x = o at *
      clear hok hok2 hy hx' hc2
      cases ht : teq y.key x.key with
      | true =>
        have HT := Lib.hid (HN true ht)
        have ht' : (y.key.toList == x.key.toList) = true := ht
        clear ht HN
        go_wp2
        go_quiet (fail)
        go_wp2
        go_roundw
        case rel => exact ⟨j + 1, B, d, by omega, by go_num, by rw [HT.out]; simp, by rw [HT.out]; simpa using ownG_keep O.out (below_drewN (Below.refl _ _) _), below_drewN BB.out _⟩
        case measure => simp [intOf]; omega
      | false =>
        have HT := Lib.hid (HN false ht)
        have ht' : (y.key.toList == x.key.toList) = false := ht
        clear ht HN
        go_wp2
        go_quiet (fail)
        have BD := Lib.hid (below_drewN (Below.refl wr.heap.size wr) nq)
        generalize wr.drewN nq = wd at *
        have BW := Lib.hid (BB.out.trans (BD.out.mono BB.out.size))
        obtain ⟨a', y', ea, hbl, hy, hok, hc⟩ := ((K.out.keep B2.out).keep BW.out).at_ hlt
        obtain rfl := Option.some.inj ea
        obtain rfl := Option.some.inj (HY.out.symm.trans hy)
        obtain ⟨c0, c1, c2, c3, c4, c5⟩ := hc
        have BX := Lib.hid (BW.out.trans ((new1 wd (y.obj 39)).mono BW.out.size))
        obtain ⟨B', d', w4, hr4, ho4, hb4, -⟩ := app_kv w2.heap.size B o.length d o _ (ownG_keep (ownG_keep O.out BD.out) (new1 wd (y.obj 39))) (some ⟨wd.heap.size, 0, none⟩) 1 1 [y] (rows_new KV.cells_len wd y _ rfl) (by omega) BX.out.size
        have O4 := Lib.hid ho4
        have B4 := Lib.hid (BX.out.trans hb4)
        clear ea hy hok ho4 hb4
        go_wp2_with (at_builtin; refine wpList_append_eq _ rfl (.tmp 52) (.tmp 57) _ _ rfl _ _ rfl rfl hr4 ?_)
        go_roundw
        case rel => exact ⟨j + 1, B', d', by omega, by go_num, by rw [HT.out]; simp, by rw [HT.out, List.length_append]; exact O4.out, B4.out⟩
        case measure => simp [intOf]; omega
    · obtain rfl : j = n0 := by omega
      rw [show l0.take j = l0 from take_full l0 j hl] at O
      have hrest : ordL befB (rest l0 x) = r := HX.out
      have hq : (rest l0 x).length = r.length := by rw [← hrest, ordL_len]
      have KR := Lib.hid (kvs_own O.out (fun z hz => HOK.out z (List.mem_filter.1 hz).1))
      have UR : unB (rest l0 x) = true := by
        rw [unB_pair]
        exact List.Pairwise.filter _ ((unB_pair l0).1 HU.out)
      have h1 := holders_one 1 0 (.inl rfl) (rest l0 x)
      have h4 := holders_permit a1 (rest l0 x) UR
      rw [hrest] at h1 h4
      have HQ := Lib.hid hq
      have B5 := Lib.hid (then_ B2.out BB.out)
      have O5 := Lib.hid (O2.out.keep BB.out)
      rw [show l0.take j = l0 from take_full l0 j hl]
      clear hlen hq hrest UR O BB B2 O2 K
      generalize rest l0 x = o at *
      have hol : o.length < 41 := by rw [HQ.out]; omega
      have cM := fun w h => holders_any 1 0 B o.length d o w h (by omega)
      have cP := fun w h => holders_any 4 a1 B o.length d o w h (by omega)
      rw [h1] at cM
      rw [h4] at cP
      unfold HoldEnd at cM cP
      clear h1 h4
      cases r with
      | nil =>
        have hj1 : j = 1 := by simpa using hrl.symm
        subst hj1
        rw [show (([] : List KV).take 1).map KV.key = [] by rfl] at cM
        rw [show (([] : List KV).take a1.toNat).map KV.key = [] by simp] at cP
        go_wp2_with fail
        refine (cM _ KR.out).mono ?_; rintro e w6 ⟨B6, d6, rfl, hr, hb⟩
        have B6' := Lib.hid (then_ B5.out hb)
        have K6 := Lib.hid (KR.out.keep hb)
        clear hr hb
        go_wp2_with fail
        refine (cP _ K6.out).mono ?_; rintro e w7 ⟨B7, d7, rfl, hr, hb⟩
        have B7' := Lib.hid (then_ B6'.out hb)
        clear hr hb
        go_wp2_with fail
        refine (tklive_any _).mono ?_; rintro e w8 ⟨rfl, hb⟩
        have B8 := Lib.hid (then_ B7'.out hb)
        clear hb
        go_wp2
        go_ret
        exact ⟨rfl, B8.out⟩
      | cons y r =>
        have HLR : Hid (r.length + 1 + 1 = j) := Lib.hid (by simpa using hrl)
        rw [show ((y :: r).take 1).map KV.key = [y.key] by rfl] at cM
        obtain ⟨ps, hps⟩ : ∃ ps, ps = ((y :: r).take a1.toNat).map KV.key := ⟨_, rfl⟩
        rw [← hps] at cP
        have hpl : ps.length = min a1.toNat (r.length + 1) := by rw [hps]; simp
        have PS := Lib.hid hps
        have PL := Lib.hid hpl
        have HOQ : Hid (o.length = r.length + 1) := Lib.hid (by rw [HQ.out]; simp)
        have hj1 : ((j : Int) == 1) = false := by have := HLR.out; simp; omega
        clear hps hpl hrl
        go_wp2_with fail
        refine (cM _ KR.out).mono ?_; rintro e w6 ⟨B6, d6, rfl, hr, hb⟩
        have B6' := Lib.hid (then_ B5.out hb)
        have K6 := Lib.hid (KR.out.keep hb)
        have R6 := Lib.hid hr
        have O6 := Lib.hid (O5.out.keep hb)
        clear hr hb
        go_wp2_with fail
        refine (cP _ K6.out).mono ?_; rintro e w7 ⟨B7, d7, rfl, hr, hb⟩
        have B7' := Lib.hid (then_ B6'.out hb)
        have R7 := Lib.hid hr
        have R6b := Lib.hid (R6.out.below hb)
        have O7 := Lib.hid (O6.out.keep hb)
        clear hr hb
        obtain ⟨b6, s6, rfl, hbl6, hs6, hc6⟩ := R6b.out.at_ (show 0 < 1 by omega)
        have e6 := lies_str hc6
        obtain rfl : y.key = s6 := Option.some.inj hs6
        rw [Nat.zero_mul, Addr.add_zero'] at e6
        generalize (some (⟨g, 0, none⟩ : Addr)) = Ag at *
        obtain ⟨b7, y7, rfl, hbl7, hy7, hok7, hc7⟩ := O7.out.at_ (show 1 < j by have := HLR.out; omega)
        obtain rfl : y = y7 := Option.some.inj hy7
        have e7 := hc7.c0
        rw [Nat.one_mul] at e7
        have q6 := fun d os => cell_regrown e6 d os
        have e8 : w7.cell? ⟨b7.block, b7.off + 6, none⟩ = some (.string y.key) := e7
        have q7 := fun d os => cell_regrown e7 d os
        have q8 := fun d os => cell_regrown e8 d os
        have hj0 : (1 : Int) < j := by have := HLR.out; omega
        have hmin : ((ps.length : Int) != min a1 (o.length : Int)) = false := by
          have h1 := PL.out
          have h2 := HOQ.out
          have : (ps.length : Int) = min a1 (o.length : Int) := by omega
          simp [this]
        clear hs6 hc6 hy7 hok7 hc7 e6 e7 e8
        go_wp2
        refine wp_region_quiet_below (by kernel_rfl) (by kernel_rfl) ?_
        repeat (go_big_quiet_step (fail))
        refine wpQuiet_nil ?_
        intro w8 hw'
        have hb8 : Below w7.heap.size w7 w8 := by
          obtain ⟨⟨d', os⟩, rfl⟩ := hw'
          exact below_grow (Below.refl _ _) (Nat.le_refl _) _ _
        have B8 := Lib.hid (then_ B7'.out hb8)
        have R8 := Lib.hid (R7.out.below hb8)
        have O8 := Lib.hid (O7.out.keep hb8)
        have hpj : ps.length < j := by have h1 := PL.out; have h2 := HLR.out; omega
        clear hw' hb8 q6 q7 q8 R7 O7 hmin
        go_wp2
        go_loopw [10] (fun i wr => ∃ k : Nat, k ≤ ps.length ∧ i = .int .i64 k ∧ Below w8.heap.size w8 wr) (fun i _ => ps.length - (intOf i).toNat)
        case atStart => exact ⟨0, Nat.zero_le _, rfl, Below.refl _ _⟩
        case round =>
          rename World => wr
          obtain ⟨k, hk, rfl, hbr⟩ := hrel
          have BR := Lib.hid hbr
          clear hbr
          by_cases hkp : k < ps.length
          · obtain ⟨a7, s7, rfl, hbl8, hs7, hc8⟩ := (R8.out.below BR.out).at_ hkp
            have e9 := lies_str hc8
            obtain ⟨k1, hk1⟩ : ∃ k1 : Nat, k1 = k + 1 := ⟨_, rfl⟩
            obtain ⟨b9, z, eb, hbl9, hz, hokz, hc9⟩ := (O8.out.keep BR.out).at_ (show k1 < j by omega)
            obtain rfl := Option.some.inj eb
            have e10 := hc9.c0
            have hzs : z.key = s7 := by
              have h1 := PS.out
              rw [h1, List.getElem?_map, List.getElem?_take] at hs7
              split at hs7
              · rw [hk1, List.getElem?_cons_succ] at hz
                rw [hz] at hs7
                exact Option.some.inj hs7
              · cases hs7
            subst hzs
            have ez : (z.key.toList == z.key.toList) = true := by simp
            have hka : (k : Int) + 1 = (k1 : Int) := by omega
            have hk2 : (k1 : Int) < j := by omega
            have hk3 : (k : Int) < ps.length := by omega
            rw [Nat.mul_one] at e9
            have HKK := Lib.hid hk1
            clear hs7 hc8 hz hokz hc9 eb hk1
            go_wp2
            go_quiet (fail)
            go_wp2
            go_roundw
            case rel => exact ⟨k1, by have := HKK.out; omega, by go_num, below_drewN BR.out _⟩
            case measure => simp [intOf]; omega
          · obtain rfl : k = ps.length := by omega
            have B9 := Lib.hid (then_ B8.out BR.out)
            go_wp2_with fail
            refine (tklive_any _).mono ?_; rintro e w9 ⟨rfl, hb⟩
            have B10 := Lib.hid (then_ B9.out hb)
            clear hb
            go_wp2
            go_ret
            exact ⟨rfl, B10.out⟩
theorem walk (w : World) (A0 : Option Addr) (n0 c0 : Nat) (l0 : List KV) (a1 : Int) (k0 : KVs w A0 n0 c0 l0) (w1 : (Lit.int .i64 a1).wf = true) :
    Calls Try.prog 8 #[.slice A0 n0 c0, .int .i64 a1] w fun e w' => e = .returned (.bool true) ∧ Below w.heap.size w w' := by
  have K := Lib.hid k0
  cases hf : fewB 40 l0 with
  | false =>
    have HF := Lib.hid hf
    clear hf k0
    go_enter Try.func8, Try.ntmps8
    go_wp2_with fail
    refine (few_any A0 n0 c0 l0 40 _ K.out (by omega)).mono ?_; rintro e w' ⟨rfl, rfl⟩
    rw [HF.out]
    go_wp2_with fail
    refine (tklive_any _).mono ?_; rintro e w2 ⟨rfl, hb⟩
    have BL := Lib.hid hb
    clear hb
    go_wp2
    go_ret
    exact ⟨rfl, BL.out⟩
  | true =>
    have HF := Lib.hid hf
    have hn : n0 ≤ 40 := by
      have := k0.len
      unfold fewB at hf
      simp at hf
      omega
    cases hu : unB l0 with
    | false =>
      have HU := Lib.hid hu
      clear hf hu k0
      go_enter Try.func8, Try.ntmps8
      go_wp2_with fail
      refine (few_any A0 n0 c0 l0 40 _ K.out (by omega)).mono ?_; rintro e w' ⟨rfl, rfl⟩
      rw [HF.out]
      go_wp2_with fail
      refine (unlike_any A0 n0 c0 l0 _ K.out (by omega)).mono ?_; rintro e w1 ⟨rfl, hb⟩
      rw [HU.out]
      have B1 := Lib.hid hb
      clear hb
      go_wp2_with fail
      refine (tklive_any _).mono ?_; rintro e w2 ⟨rfl, hb⟩
      have BL := Lib.hid (then_ B1.out hb)
      clear hb
      go_wp2
      go_ret
      exact ⟨rfl, BL.out⟩
    | true =>
      by_cases hz : n0 = 0 ∨ a1 < 1
      · have HU := Lib.hid hu
        by_cases hz0 : n0 = 0
        · subst hz0
          clear hf hu k0 hz
          go_enter Try.func8, Try.ntmps8
          go_wp2_with fail
          refine (few_any A0 0 c0 l0 40 _ K.out (by omega)).mono ?_; rintro e w' ⟨rfl, rfl⟩
          rw [HF.out]
          go_wp2_with fail
          refine (unlike_any A0 0 c0 l0 _ K.out (by omega)).mono ?_; rintro e w1 ⟨rfl, hb⟩
          rw [HU.out]
          have B1 := Lib.hid hb
          clear hb
          go_wp2_with fail
          refine (tklive_any _).mono ?_; rintro e w2 ⟨rfl, hb⟩
          have BL := Lib.hid (then_ B1.out hb)
          clear hb
          go_wp2
          go_ret
          exact ⟨rfl, BL.out⟩
        · have ha : a1 < 1 := by omega
          have hz1 : ((n0 : Int) == 0) = false := by simp; omega
          clear hf hu k0 hz
          go_enter Try.func8, Try.ntmps8
          go_wp2_with fail
          refine (few_any A0 n0 c0 l0 40 _ K.out (by omega)).mono ?_; rintro e w' ⟨rfl, rfl⟩
          rw [HF.out]
          go_wp2_with fail
          refine (unlike_any A0 n0 c0 l0 _ K.out (by omega)).mono ?_; rintro e w1 ⟨rfl, hb⟩
          rw [HU.out]
          have B1 := Lib.hid hb
          clear hb
          go_wp2_with fail
          refine (tklive_any _).mono ?_; rintro e w2 ⟨rfl, hb⟩
          have BL := Lib.hid (then_ B1.out hb)
          clear hb
          go_wp2
          go_ret
          exact ⟨rfl, BL.out⟩
      · exact main w A0 n0 c0 l0 a1 k0 hf hu (by omega) (by omega)

theorem own : ownKnob Try.prog.godebug = none := by kernel_rfl
theorem laidOut : laidOutB Try.prog = true := by kernel_rfl

set_option maxRecDepth 100000 in
theorem lifted (os : Os) (started : os.Started) (H : Type) (enc : TypeId × Value → H) :
    ReturnsInHanded {} Try.checked os 8 .any (Rows.ticketNextSpec.pre6 enc Try.prog Try.f8 Rows.ticketNextRow.domain false) (Rows.ticketNextSpec.post enc Try.prog Try.f8 false true false false) := by
  refine returnsInHanded_of_change (C := Try.checked) own started (by kernel_rfl) Try.func8
    (ChangeSpec.witness6 (enc := enc) (C := Try.checked) false ⟨#[], #[.slice none 0 0, (.int .i64 0)], []⟩ 8 (by kernel_rfl) (by kernel_rfl) (by kernel_rfl) (by kernel_rfl)) ?_
  intro W base args ds gs before hval0 hW hcnd _
  have hval : ∀ (j : Nat) t v, Try.f8.params[j]? = some t → args[j]? = some v → Value.okWide Try.prog W .any base t v := hval0
  have hW' := hW
  obtain ⟨p, q, hA0, hV, rfl, hfz, hnd⟩ := hW
  have hA : DataW.TrodAll enc Try.prog W 0 (fun _ => true) true Try.f8.params.toList args.toList ds p := hA0
  rw [Try.params8] at hA hval
  obtain ⟨v0, vs0, d0, ds0, p0, q0, hargs, rfl, rfl, h0, r0⟩ := trodAll_cons hA
  obtain ⟨v1, vs1, d1, ds1, p1, q1, rfl, rfl, rfl, h1, r1⟩ := trodAll_cons r0
  obtain ⟨rfl, rfl, rfl⟩ := trodAll_nil r1
  obtain rfl : args = #[v0, v1] := by cases args; simp_all
  obtain ⟨rfl, rfl⟩ := trodVars_none hV
  obtain ⟨A0, n0, c0, l0, rfl, k0⟩ := open_kvs (hval 0 22 v0 rfl rfl) h0
  obtain ⟨a1, rfl, rfl, rfl, w1⟩ := open_int Try.underlying3 (hval 1 3 v1 rfl rfl) h1
  clear hA0 hval0
  refine (walk W A0 n0 c0 l0 a1 k0 w1).mono fun e W' ⟨he, bel⟩ => ?_
  subst he
  exact ⟨_, rfl, _, _, _, [], _, [], hW', trodAll_mk1 (shut_bool Try.underlying4 _), (trodAll_cons_mk (Below.trod laidOut (by kernel_rfl) (of_decide_eq_true (by kernel_rfl)) h0 bel (fun x hx => hW'.lt x (by simp [hx]))) (trodAll_cons_mk (shut_int Try.underlying3 w1) trodAll_mk0)), rfl, bel.frame _, fun h => by cases h⟩

theorem over : Rows.ticketNextRow.holds Try.pinned (OpenSpec.ofChange Rows.ticketNextSpec) :=
  OpenClaim.holds_of_wide 8 Try.f8 rfl rfl rfl rfl rfl rfl rfl ⟨rfl, rfl, rfl, rfl, rfl⟩ rfl rfl rfl rfl rfl (by kernel_rfl) Try.func8 (by kernel_rfl)
    (of_decide_eq_true (by kernel_rfl)) (by unfold Func.isWrapper; first | (rw [if_pos (by decide +kernel)]; kernel_rfl) | (rw [if_neg (by decide +kernel)]; exact ⟨rfl, rfl⟩))
    (fun os started H enc _ => lifted os started H enc)

theorem proved : Rows.TicketNextSaid := over
#print axioms proved
end Go.Proofs.Ytefldchhopgliaa.ticketNext
