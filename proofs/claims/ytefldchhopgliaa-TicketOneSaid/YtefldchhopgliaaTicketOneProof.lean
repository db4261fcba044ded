/- For every list of things and every number the law TicketOne answers true: of Mutex, Writer and Leader just one is ready, the one of the least Create; of Permit as many as n; no Reader beside a Writer. No condition. -/
import Derived.Test.YtefldchhopgliaaKvOpen
import Derived.Test.YtefldchhopgliaaTkSub
import Derived.Test.YtefldchhopgliaaRows
namespace Go.Proofs.Ytefldchhopgliaa.ticketOne
open Go.ChangeShapes Go.WideShapes Go.ChangeAt Go.RowKit Go.Sort Go.Proofs.Ytefldchhopgliaa.P
open Go.ChangeMaps (open_string shut_string)
set_option linter.unusedVariables false
set_option linter.unusedSimpArgs false
set_option maxHeartbeats 4000000
set_option maxRecDepth 100000

/-- Behind the tests of how many hold: the two loops. -/
theorem lens (l : List KV) (hu : unB l = true) (n : Int) : (holdersL 1 0 l).length = min 1 l.length ∧ (holdersL 3 0 l).length = min 1 l.length ∧ (holdersL 5 0 l).length = min 1 l.length ∧ (holdersL 4 n l).length = min n.toNat l.length := by
  rw [holders_one 1 0 (.inl rfl), holders_one 3 0 (.inr (.inl rfl)), holders_one 5 0 (.inr (.inr rfl)), holders_permit n l hu]
  simp [ordL_len]
theorem main (w : World) (A0 : Option Addr) (n0 c0 : Nat) (l0 : List KV) (a1 : Int) (k0 : KVs w A0 n0 c0 l0) (hf : fewB 40 l0 = true) (hu : unB l0 = true) :
    Calls Try.prog 5 #[.slice A0 n0 c0, .int .i64 a1] w fun e w' => e = .returned (.bool true) ∧ Below w.heap.size w w' := by
  have K := Lib.hid k0
  have HF := Lib.hid hf
  have HU := Lib.hid hu
  have hn : n0 ≤ 40 := by
    have := k0.len
    unfold fewB at hf
    simp at hf
    omega
  have hl := k0.len
  have HL := Lib.hid hl
  obtain ⟨s1, s3, s5, s4⟩ := lens l0 hu a1
  rw [hl] at s1 s3 s5 s4
  obtain ⟨N, hN⟩ : ∃ N : Nat, N = min 1 n0 := ⟨_, rfl⟩
  rw [← hN] at s1 s3 s5
  obtain ⟨M, hM⟩ : ∃ M : Nat, M = min a1.toNat n0 := ⟨_, rfl⟩
  rw [← hM] at s4
  have HM := Lib.hid hM
  have hmm : ((M : Int) != min (max a1 0) (n0 : Int)) = false := by
    have : (M : Int) = min (max a1 0) (n0 : Int) := by omega
    simp [this]
  have hnn : ((N : Int) != (N : Int)) = false := by simp
  have c1 := fun w1 (h : Below w.heap.size w w1) => holders_any 1 0 A0 n0 c0 l0 w1 (K.out.keep h) (by omega)
  have c3 := fun w1 (h : Below w.heap.size w w1) => holders_any 3 0 A0 n0 c0 l0 w1 (K.out.keep h) (by omega)
  have c5 := fun w1 (h : Below w.heap.size w w1) => holders_any 5 0 A0 n0 c0 l0 w1 (K.out.keep h) (by omega)
  have c4 := fun w1 (h : Below w.heap.size w w1) => holders_any 4 a1 A0 n0 c0 l0 w1 (K.out.keep h) (by omega)
  have h1e := holders_one 1 0 (.inl rfl) l0
  have H1E := Lib.hid h1e
  have S1 := Lib.hid s1
  unfold HoldEnd at c1 c3 c5 c4
  generalize holdersL 1 0 l0 = hs at *
  generalize holdersL 3 0 l0 = hs3 at *
  generalize holdersL 5 0 l0 = hs5 at *
  generalize holdersL 4 a1 l0 = hs4 at *
  rw [s1] at c1
  rw [s3] at c3
  rw [s5] at c5
  rw [s4] at c4
  have HN := Lib.hid hN
  clear hf hu k0 hM s1 s3 s5 s4 h1e hl
  have pre : ∀ (Nv : Int), Nv = (N : Int) → True := fun _ _ => trivial
  clear pre
  by_cases hz : n0 = 0
  · have hN0 : N = 0 := by omega
    subst hN0
    subst hz
    clear hN
    go_enter Try.func5, Try.ntmps5
    go_wp2_with fail
    refine (few_any A0 0 c0 l0 40 _ K.out (by omega)).mono ?_; rintro e w' ⟨rfl, rfl⟩
    rw [HF.out]
    go_wp2_with fail
    refine (unlike_any A0 0 c0 l0 _ K.out (by omega)).mono ?_; rintro e w1 ⟨rfl, hb⟩
    rw [HU.out]
    have B1 := Lib.hid hb
    clear hb
    go_wp2_with fail
    refine (c1 _ B1.out).mono ?_; rintro e w2 ⟨C2, d2, rfl, hr, hb⟩
    have B2 := Lib.hid (then_ B1.out hb)
    clear hr hb
    go_wp2_with fail
    refine (c3 _ B2.out).mono ?_; rintro e w3 ⟨C3, d3, rfl, hr, hb⟩
    have B3 := Lib.hid (then_ B2.out hb)
    clear hr hb
    go_wp2_with fail
    refine (c5 _ B3.out).mono ?_; rintro e w4 ⟨C4, d4, rfl, hr, hb⟩
    have B4 := Lib.hid (then_ B3.out hb)
    clear hr hb
    go_wp2_with fail
    refine (c4 _ B4.out).mono ?_; rintro e w5 ⟨C5, d5, rfl, hr, hb⟩
    have B5 := Lib.hid (then_ B4.out hb)
    clear hr hb
    go_wp2
    go_loopw [7] (fun i wr => i = .int .i64 0 ∧ Below w5.heap.size w5 wr) (fun i _ => 0)
    case atStart => exact ⟨rfl, Below.refl _ _⟩
    case round =>
      rename World => wr
      obtain ⟨rfl, hbr⟩ := hrel
      have B6 := Lib.hid (then_ B5.out hbr)
      clear hbr
      go_wp2_with fail
      refine (tklive_any _).mono ?_; rintro e w9 ⟨rfl, hb⟩
      have B10 := Lib.hid (then_ B6.out hb)
      clear hb
      go_wp2
      go_ret
      exact ⟨rfl, B10.out⟩
  · have hz1 : ((n0 : Int) == 0) = false := by simp; omega
    have hN1 : N = 1 := by omega
    subst hN1
    clear hN
    cases ho : ordL befB l0 with
    | nil => have := ordL_len (lt := befB) l0; rw [ho, HL.out] at this; simp at this; omega
    | cons x r =>
    rw [ho] at H1E
    have H1 : Hid (hs = [x.key]) := Lib.hid (by rw [H1E.out]; rfl)
    have HO := Lib.hid ho
    have HX : Hid (x ∈ l0) := Lib.hid ((ord_mem_iff x l0).1 (by rw [ho]; exact List.mem_cons_self ..))
    clear ho H1E
    go_enter Try.func5, Try.ntmps5
    go_wp2_with fail
    refine (few_any A0 n0 c0 l0 40 _ K.out (by omega)).mono ?_; rintro e w' ⟨rfl, rfl⟩
    rw [HF.out]
    go_wp2_with fail
    refine (unlike_any A0 n0 c0 l0 _ K.out (by omega)).mono ?_; rintro e w1 ⟨rfl, hb⟩
    rw [HU.out]
    have B1 := Lib.hid hb
    clear hb
    go_wp2_with fail
    refine (c1 _ B1.out).mono ?_; rintro e w2 ⟨C2, d2, rfl, hr, hb⟩
    have B2 := Lib.hid (then_ B1.out hb)
    rw [H1.out] at hr
    have R2 := Lib.hid hr
    clear hr hb
    go_wp2_with fail
    refine (c3 _ B2.out).mono ?_; rintro e w3 ⟨C3, d3, rfl, hr, hb⟩
    have B3 := Lib.hid (then_ B2.out hb)
    have R3 := Lib.hid (R2.out.below hb)
    clear hr hb
    go_wp2_with fail
    refine (c5 _ B3.out).mono ?_; rintro e w4 ⟨C4, d4, rfl, hr, hb⟩
    have B4 := Lib.hid (then_ B3.out hb)
    have R4 := Lib.hid (R3.out.below hb)
    clear hr hb
    go_wp2_with fail
    refine (c4 _ B4.out).mono ?_; rintro e w5 ⟨C5, d5, rfl, hr, hb⟩
    have B5 := Lib.hid (then_ B4.out hb)
    have R5 := Lib.hid (R4.out.below hb)
    clear hr hb
    obtain ⟨a2, x', rfl, hbl2, hx', hc2⟩ := R5.out.at_ (show 0 < 1 by omega)
    clear hx' hc2
    go_wp2
    go_loopw [7] (fun i wr => ∃ j : Nat, j ≤ n0 ∧ i = .int .i64 j ∧ Below w5.heap.size w5 wr) (fun i _ => n0 - (intOf i).toNat)
    case atStart => exact ⟨0, Nat.zero_le _, rfl, Below.refl _ _⟩
    case round =>
      rename World => wr
      obtain ⟨j, hj, rfl, hbr⟩ := hrel
      have BR := Lib.hid hbr
      clear hbr
      by_cases hjn : j < n0
      · have hjn1 : (j : Int) < n0 := by omega
        go_wp2
        go_loopw [8] (fun i wq => ∃ k : Nat, k ≤ n0 ∧ i = .int .i64 k ∧ Below wr.heap.size wr wq) (fun i _ => n0 - (intOf i).toNat)
        case atStart => exact ⟨0, Nat.zero_le _, rfl, Below.refl _ _⟩
        case round =>
          rename World => wq
          obtain ⟨k, hk, rfl, hbq⟩ := hrel
          have BQ := Lib.hid (BR.out.trans (hbq.mono BR.out.size))
          have BW := Lib.hid (then_ B5.out BQ.out)
          have BRQ := Lib.hid hbq
          clear hbq
          by_cases hkn : k < n0
          · have hkn1 : (k : Int) < n0 := by omega
            obtain ⟨b, y, rfl, hbly, hy, hoky, hcy⟩ := (K.out.keep BW.out).at_ hjn
            obtain ⟨b', z, eb, hblz, hz', hokz, hcz⟩ := (K.out.keep BW.out).at_ hkn
            obtain rfl := Option.some.inj eb
            obtain ⟨a2', x', ea, hbl2', hx', hc2⟩ := (R5.out.below BQ.out).at_ (show 0 < 1 by omega)
            obtain rfl := Option.some.inj ea
            obtain rfl : x.key = x' := Option.some.inj hx'
            have e2 := lies_str hc2
            rw [Nat.zero_mul, Addr.add_zero'] at e2
            have HY := Lib.hid (List.mem_of_getElem? hy)
            have HZ := Lib.hid (List.mem_of_getElem? hz')
            have HLE := Lib.hid (first_least l0 x r HO.out z HZ.out)
            have AY0 := Lib.hid hcy
            have AZ0 := Lib.hid hcz
            have qe2 := fun d os => cell_regrown e2 d os
            have QN := no_both l0 HU.out y z HY.out HZ.out
            have KW0 := Lib.hid (K.out.keep BW.out)
            have CR2 : Hid (∀ w', KVs w' (some b) n0 c0 l0 → Calls Try.prog 18 #[.int .i64 2, .int .i64 0, .slice (some b) n0 c0, .string y.key] w' fun e w'' => e = .returned (.bool (readyB 2 0 l0 y.key)) ∧ Below w'.heap.size w' w'') := Lib.hid fun w' h => ready_any 2 0 (some b) n0 c0 l0 y.key w' h (by omega)
            have CR3 : Hid (∀ w', KVs w' (some b) n0 c0 l0 → Calls Try.prog 18 #[.int .i64 3, .int .i64 0, .slice (some b) n0 c0, .string z.key] w' fun e w'' => e = .returned (.bool (readyB 3 0 l0 z.key)) ∧ Below w'.heap.size w' w'') := Lib.hid fun w' h => ready_any 3 0 (some b) n0 c0 l0 z.key w' h (by omega)
            have ey : (y.val.toList == [114]) = teq y.val ⟨#[114]⟩ := by unfold teq; rw [show (⟨#[114]⟩ : ByteArray).toList = [114] by rw [ByteArray.toList_eq]]
            have ez : (z.val.toList == [119]) = teq z.val ⟨#[119]⟩ := by unfold teq; rw [show (⟨#[119]⟩ : ByteArray).toList = [119] by rw [ByteArray.toList_eq]]
            generalize readyB 2 0 l0 y.key = br at *
            generalize readyB 3 0 l0 z.key = bw at *
            generalize teq y.val ⟨#[114]⟩ = vy at *
            generalize teq z.val ⟨#[119]⟩ = vz at *
            have CS2 : Hid (∀ w', Calls Try.prog 23 #[.int .i64 2] w' fun e w'' => e = .returned (.string ⟨#[114]⟩) ∧ Below w'.heap.size w' w'') := Lib.hid fun w' => ((sign_any 2 w').mono fun e w'' hh => ⟨hh.1, by rw [← hh.2]; exact Below.refl _ _⟩)
            have CS3 : Hid (∀ w', Calls Try.prog 23 #[.int .i64 3] w' fun e w'' => e = .returned (.string ⟨#[119]⟩) ∧ Below w'.heap.size w' w'') := Lib.hid fun w' => ((sign_any 3 w').mono fun e w'' hh => ⟨hh.1, by rw [← hh.2]; exact Below.refl _ _⟩)
            clear eb hy hoky hz' hokz ea hx' hc2 hcy hcz e2
            cases ht : teq y.key x.key with
            | true =>
              obtain rfl := un_same HU.out HX.out HY.out ht
              have ht' : (y.key.toList == y.key.toList) = true := ht
              have hcr : ¬ z.cre < y.cre := by have := HLE.out; omega
              have hcr1 : decide (z.cre < y.cre) = false := decide_eq_false hcr
              clear ht
              have qy0 := fun d os => cell_regrown AY0.out.c0 d os
              have qy2 := fun d os => cell_regrown AY0.out.c2 d os
              have qz2 := fun d os => cell_regrown AZ0.out.c2 d os
              go_wp2
              refine wp_region_quiet_below (by kernel_rfl) (by kernel_rfl) ?_
              repeat (go_big_quiet_step (fail))
              refine wpQuiet_nil ?_
              intro v1 hw'
              have hb' : Below wq.heap.size wq v1 := by
                obtain ⟨⟨d', os⟩, rfl⟩ := hw'
                exact below_grow (Below.refl _ _) (Nat.le_refl _) _ _
              have AY1 := Lib.hid (AY0.out.on hb')
              have AZ1 := Lib.hid (AZ0.out.on hb')
              have KW1 := Lib.hid (KW0.out.keep hb')
              have BV1 := Lib.hid (hb')
              clear hw' hb' AY0 AZ0 KW0 qy0 qy2 qz2
              clear ht' hcr hcr1 qe2
              cases vy with
              | false =>
                have qy1 := fun d os => cell_regrown AY1.out.c1 d os
                have cS2 := fun d os => Calls.regrown_of (d := d) (os := os) (w := v1) (CS2.out _)
                go_wp2
                refine wp_region_quiet_below (by kernel_rfl) (by kernel_rfl) ?_
                repeat (go_big_quiet_step (first | exact cS2 _ _))
                refine wpQuiet_nil ?_
                intro v2 hw'
                have hb' : Below v1.heap.size v1 v2 := by
                  obtain ⟨⟨d', os⟩, rfl⟩ := hw'
                  exact below_grow (Below.refl _ _) (Nat.le_refl _) _ _
                have AY2 := Lib.hid (AY1.out.on hb')
                have AZ2 := Lib.hid (AZ1.out.on hb')
                have KW2 := Lib.hid (KW1.out.keep hb')
                have BV2 := Lib.hid (then_ BV1.out hb')
                clear hw' hb' AY1 AZ1 KW1 qy1 cS2
                cases vz with
                | false =>
                  have qz1 := fun d os => cell_regrown AZ2.out.c1 d os
                  have cS3 := fun d os => Calls.regrown_of (d := d) (os := os) (w := v2) (CS3.out _)
                  go_wp2
                  refine wp_region_quiet_below (by kernel_rfl) (by kernel_rfl) ?_
                  repeat (go_big_quiet_step (first | exact cS3 _ _))
                  refine wpQuiet_nil ?_
                  intro v3 hw'
                  have hb' : Below v2.heap.size v2 v3 := by
                    obtain ⟨⟨d', os⟩, rfl⟩ := hw'
                    exact below_grow (Below.refl _ _) (Nat.le_refl _) _ _
                  have AY3 := Lib.hid (AY2.out.on hb')
                  have AZ3 := Lib.hid (AZ2.out.on hb')
                  have KW3 := Lib.hid (KW2.out.keep hb')
                  have BV3 := Lib.hid (then_ BV2.out hb')
                  clear hw' hb' AY2 AZ2 KW2 qz1 cS3
                  go_wp2
                  go_roundw
                  case rel => exact ⟨k + 1, by omega, by go_num, BRQ.out.trans (BV3.out.mono BRQ.out.size)⟩
                  case measure => simp [intOf]; omega
                | true =>
                  have qz0 := fun d os => cell_regrown AZ2.out.c0 d os
                  have qz1 := fun d os => cell_regrown AZ2.out.c1 d os
                  have cS3 := fun d os => Calls.regrown_of (d := d) (os := os) (w := v2) (CS3.out _)
                  have cR3 := fun d os => Calls.regrown_of (d := d) (os := os) (w := v2) (CR3.out _ (KW2.out.keep (below_regrown _ d os)))
                  go_wp2
                  refine wp_region_quiet_below (by kernel_rfl) (by kernel_rfl) ?_
                  repeat (go_big_quiet_step (first | exact cS3 _ _ | exact cR3 _ _))
                  refine wpQuiet_nil ?_
                  intro v3 hw'
                  have hb' : Below v2.heap.size v2 v3 := by
                    obtain ⟨⟨d', os⟩, rfl⟩ := hw'
                    exact below_grow (Below.refl _ _) (Nat.le_refl _) _ _
                  have AY3 := Lib.hid (AY2.out.on hb')
                  have AZ3 := Lib.hid (AZ2.out.on hb')
                  have KW3 := Lib.hid (KW2.out.keep hb')
                  have BV3 := Lib.hid (then_ BV2.out hb')
                  clear hw' hb' AY2 AZ2 KW2 qz0 qz1 cS3 cR3
                  go_wp2
                  go_roundw
                  case rel => exact ⟨k + 1, by omega, by go_num, BRQ.out.trans (BV3.out.mono BRQ.out.size)⟩
                  case measure => simp [intOf]; omega
              | true =>
                cases br with
                | false =>
                  have qy0 := fun d os => cell_regrown AY1.out.c0 d os
                  have qy1 := fun d os => cell_regrown AY1.out.c1 d os
                  have cS2 := fun d os => Calls.regrown_of (d := d) (os := os) (w := v1) (CS2.out _)
                  have cR2 := fun d os => Calls.regrown_of (d := d) (os := os) (w := v1) (CR2.out _ (KW1.out.keep (below_regrown _ d os)))
                  go_wp2
                  refine wp_region_quiet_below (by kernel_rfl) (by kernel_rfl) ?_
                  repeat (go_big_quiet_step (first | exact cS2 _ _ | exact cR2 _ _))
                  refine wpQuiet_nil ?_
                  intro v2 hw'
                  have hb' : Below v1.heap.size v1 v2 := by
                    obtain ⟨⟨d', os⟩, rfl⟩ := hw'
                    exact below_grow (Below.refl _ _) (Nat.le_refl _) _ _
                  have AY2 := Lib.hid (AY1.out.on hb')
                  have AZ2 := Lib.hid (AZ1.out.on hb')
                  have KW2 := Lib.hid (KW1.out.keep hb')
                  have BV2 := Lib.hid (then_ BV1.out hb')
                  clear hw' hb' AY1 AZ1 KW1 qy0 qy1 cS2 cR2
                  cases vz with
                  | false =>
                    have qz1 := fun d os => cell_regrown AZ2.out.c1 d os
                    have cS3 := fun d os => Calls.regrown_of (d := d) (os := os) (w := v2) (CS3.out _)
                    go_wp2
                    refine wp_region_quiet_below (by kernel_rfl) (by kernel_rfl) ?_
                    repeat (go_big_quiet_step (first | exact cS3 _ _))
                    refine wpQuiet_nil ?_
                    intro v3 hw'
                    have hb' : Below v2.heap.size v2 v3 := by
                      obtain ⟨⟨d', os⟩, rfl⟩ := hw'
                      exact below_grow (Below.refl _ _) (Nat.le_refl _) _ _
                    have AY3 := Lib.hid (AY2.out.on hb')
                    have AZ3 := Lib.hid (AZ2.out.on hb')
                    have KW3 := Lib.hid (KW2.out.keep hb')
                    have BV3 := Lib.hid (then_ BV2.out hb')
                    clear hw' hb' AY2 AZ2 KW2 qz1 cS3
                    go_wp2
                    go_roundw
                    case rel => exact ⟨k + 1, by omega, by go_num, BRQ.out.trans (BV3.out.mono BRQ.out.size)⟩
                    case measure => simp [intOf]; omega
                  | true =>
                    have qz0 := fun d os => cell_regrown AZ2.out.c0 d os
                    have qz1 := fun d os => cell_regrown AZ2.out.c1 d os
                    have cS3 := fun d os => Calls.regrown_of (d := d) (os := os) (w := v2) (CS3.out _)
                    have cR3 := fun d os => Calls.regrown_of (d := d) (os := os) (w := v2) (CR3.out _ (KW2.out.keep (below_regrown _ d os)))
                    go_wp2
                    refine wp_region_quiet_below (by kernel_rfl) (by kernel_rfl) ?_
                    repeat (go_big_quiet_step (first | exact cS3 _ _ | exact cR3 _ _))
                    refine wpQuiet_nil ?_
                    intro v3 hw'
                    have hb' : Below v2.heap.size v2 v3 := by
                      obtain ⟨⟨d', os⟩, rfl⟩ := hw'
                      exact below_grow (Below.refl _ _) (Nat.le_refl _) _ _
                    have AY3 := Lib.hid (AY2.out.on hb')
                    have AZ3 := Lib.hid (AZ2.out.on hb')
                    have KW3 := Lib.hid (KW2.out.keep hb')
                    have BV3 := Lib.hid (then_ BV2.out hb')
                    clear hw' hb' AY2 AZ2 KW2 qz0 qz1 cS3 cR3
                    go_wp2
                    go_roundw
                    case rel => exact ⟨k + 1, by omega, by go_num, BRQ.out.trans (BV3.out.mono BRQ.out.size)⟩
                    case measure => simp [intOf]; omega
                | true =>
                  have qy0 := fun d os => cell_regrown AY1.out.c0 d os
                  have qy1 := fun d os => cell_regrown AY1.out.c1 d os
                  have cS2 := fun d os => Calls.regrown_of (d := d) (os := os) (w := v1) (CS2.out _)
                  have cR2 := fun d os => Calls.regrown_of (d := d) (os := os) (w := v1) (CR2.out _ (KW1.out.keep (below_regrown _ d os)))
                  go_wp2
                  refine wp_region_quiet_below (by kernel_rfl) (by kernel_rfl) ?_
                  repeat (go_big_quiet_step (first | exact cS2 _ _ | exact cR2 _ _))
                  refine wpQuiet_nil ?_
                  intro v2 hw'
                  have hb' : Below v1.heap.size v1 v2 := by
                    obtain ⟨⟨d', os⟩, rfl⟩ := hw'
                    exact below_grow (Below.refl _ _) (Nat.le_refl _) _ _
                  have AY2 := Lib.hid (AY1.out.on hb')
                  have AZ2 := Lib.hid (AZ1.out.on hb')
                  have KW2 := Lib.hid (KW1.out.keep hb')
                  have BV2 := Lib.hid (then_ BV1.out hb')
                  clear hw' hb' AY1 AZ1 KW1 qy0 qy1 cS2 cR2
                  cases vz with
                  | false =>
                    have qz1 := fun d os => cell_regrown AZ2.out.c1 d os
                    have cS3 := fun d os => Calls.regrown_of (d := d) (os := os) (w := v2) (CS3.out _)
                    go_wp2
                    refine wp_region_quiet_below (by kernel_rfl) (by kernel_rfl) ?_
                    repeat (go_big_quiet_step (first | exact cS3 _ _))
                    refine wpQuiet_nil ?_
                    intro v3 hw'
                    have hb' : Below v2.heap.size v2 v3 := by
                      obtain ⟨⟨d', os⟩, rfl⟩ := hw'
                      exact below_grow (Below.refl _ _) (Nat.le_refl _) _ _
                    have AY3 := Lib.hid (AY2.out.on hb')
                    have AZ3 := Lib.hid (AZ2.out.on hb')
                    have KW3 := Lib.hid (KW2.out.keep hb')
                    have BV3 := Lib.hid (then_ BV2.out hb')
                    clear hw' hb' AY2 AZ2 KW2 qz1 cS3
                    go_wp2
                    go_roundw
                    case rel => exact ⟨k + 1, by omega, by go_num, BRQ.out.trans (BV3.out.mono BRQ.out.size)⟩
                    case measure => simp [intOf]; omega
                  | true =>
                    obtain rfl : bw = false := by cases bw with | false => rfl | true => simp at QN
                    have qz0 := fun d os => cell_regrown AZ2.out.c0 d os
                    have qz1 := fun d os => cell_regrown AZ2.out.c1 d os
                    have cS3 := fun d os => Calls.regrown_of (d := d) (os := os) (w := v2) (CS3.out _)
                    have cR3 := fun d os => Calls.regrown_of (d := d) (os := os) (w := v2) (CR3.out _ (KW2.out.keep (below_regrown _ d os)))
                    go_wp2
                    refine wp_region_quiet_below (by kernel_rfl) (by kernel_rfl) ?_
                    repeat (go_big_quiet_step (first | exact cS3 _ _ | exact cR3 _ _))
                    refine wpQuiet_nil ?_
                    intro v3 hw'
                    have hb' : Below v2.heap.size v2 v3 := by
                      obtain ⟨⟨d', os⟩, rfl⟩ := hw'
                      exact below_grow (Below.refl _ _) (Nat.le_refl _) _ _
                    have AY3 := Lib.hid (AY2.out.on hb')
                    have AZ3 := Lib.hid (AZ2.out.on hb')
                    have KW3 := Lib.hid (KW2.out.keep hb')
                    have BV3 := Lib.hid (then_ BV2.out hb')
                    clear hw' hb' AY2 AZ2 KW2 qz0 qz1 cS3 cR3
                    go_wp2
                    go_roundw
                    case rel => exact ⟨k + 1, by omega, by go_num, BRQ.out.trans (BV3.out.mono BRQ.out.size)⟩
                    case measure => simp [intOf]; omega
            | false =>
              have ht' : (y.key.toList == x.key.toList) = false := ht
              clear ht
              have qy0 := fun d os => cell_regrown AY0.out.c0 d os
              go_wp2
              refine wp_region_quiet_below (by kernel_rfl) (by kernel_rfl) ?_
              repeat (go_big_quiet_step (fail))
              refine wpQuiet_nil ?_
              intro v1 hw'
              have hb' : Below wq.heap.size wq v1 := by
                obtain ⟨⟨d', os⟩, rfl⟩ := hw'
                exact below_grow (Below.refl _ _) (Nat.le_refl _) _ _
              have AY1 := Lib.hid (AY0.out.on hb')
              have AZ1 := Lib.hid (AZ0.out.on hb')
              have KW1 := Lib.hid (KW0.out.keep hb')
              have BV1 := Lib.hid (hb')
              clear hw' hb' AY0 AZ0 KW0 qy0
              clear ht' qe2
              cases vy with
              | false =>
                have qy1 := fun d os => cell_regrown AY1.out.c1 d os
                have cS2 := fun d os => Calls.regrown_of (d := d) (os := os) (w := v1) (CS2.out _)
                go_wp2
                refine wp_region_quiet_below (by kernel_rfl) (by kernel_rfl) ?_
                repeat (go_big_quiet_step (first | exact cS2 _ _))
                refine wpQuiet_nil ?_
                intro v2 hw'
                have hb' : Below v1.heap.size v1 v2 := by
                  obtain ⟨⟨d', os⟩, rfl⟩ := hw'
                  exact below_grow (Below.refl _ _) (Nat.le_refl _) _ _
                have AY2 := Lib.hid (AY1.out.on hb')
                have AZ2 := Lib.hid (AZ1.out.on hb')
                have KW2 := Lib.hid (KW1.out.keep hb')
                have BV2 := Lib.hid (then_ BV1.out hb')
                clear hw' hb' AY1 AZ1 KW1 qy1 cS2
                cases vz with
                | false =>
                  have qz1 := fun d os => cell_regrown AZ2.out.c1 d os
                  have cS3 := fun d os => Calls.regrown_of (d := d) (os := os) (w := v2) (CS3.out _)
                  go_wp2
                  refine wp_region_quiet_below (by kernel_rfl) (by kernel_rfl) ?_
                  repeat (go_big_quiet_step (first | exact cS3 _ _))
                  refine wpQuiet_nil ?_
                  intro v3 hw'
                  have hb' : Below v2.heap.size v2 v3 := by
                    obtain ⟨⟨d', os⟩, rfl⟩ := hw'
                    exact below_grow (Below.refl _ _) (Nat.le_refl _) _ _
                  have AY3 := Lib.hid (AY2.out.on hb')
                  have AZ3 := Lib.hid (AZ2.out.on hb')
                  have KW3 := Lib.hid (KW2.out.keep hb')
                  have BV3 := Lib.hid (then_ BV2.out hb')
                  clear hw' hb' AY2 AZ2 KW2 qz1 cS3
                  go_wp2
                  go_roundw
                  case rel => exact ⟨k + 1, by omega, by go_num, BRQ.out.trans (BV3.out.mono BRQ.out.size)⟩
                  case measure => simp [intOf]; omega
                | true =>
                  have qz0 := fun d os => cell_regrown AZ2.out.c0 d os
                  have qz1 := fun d os => cell_regrown AZ2.out.c1 d os
                  have cS3 := fun d os => Calls.regrown_of (d := d) (os := os) (w := v2) (CS3.out _)
                  have cR3 := fun d os => Calls.regrown_of (d := d) (os := os) (w := v2) (CR3.out _ (KW2.out.keep (below_regrown _ d os)))
                  go_wp2
                  refine wp_region_quiet_below (by kernel_rfl) (by kernel_rfl) ?_
                  repeat (go_big_quiet_step (first | exact cS3 _ _ | exact cR3 _ _))
                  refine wpQuiet_nil ?_
                  intro v3 hw'
                  have hb' : Below v2.heap.size v2 v3 := by
                    obtain ⟨⟨d', os⟩, rfl⟩ := hw'
                    exact below_grow (Below.refl _ _) (Nat.le_refl _) _ _
                  have AY3 := Lib.hid (AY2.out.on hb')
                  have AZ3 := Lib.hid (AZ2.out.on hb')
                  have KW3 := Lib.hid (KW2.out.keep hb')
                  have BV3 := Lib.hid (then_ BV2.out hb')
                  clear hw' hb' AY2 AZ2 KW2 qz0 qz1 cS3 cR3
                  go_wp2
                  go_roundw
                  case rel => exact ⟨k + 1, by omega, by go_num, BRQ.out.trans (BV3.out.mono BRQ.out.size)⟩
                  case measure => simp [intOf]; omega
              | true =>
                cases br with
                | false =>
                  have qy0 := fun d os => cell_regrown AY1.out.c0 d os
                  have qy1 := fun d os => cell_regrown AY1.out.c1 d os
                  have cS2 := fun d os => Calls.regrown_of (d := d) (os := os) (w := v1) (CS2.out _)
                  have cR2 := fun d os => Calls.regrown_of (d := d) (os := os) (w := v1) (CR2.out _ (KW1.out.keep (below_regrown _ d os)))
                  go_wp2
                  refine wp_region_quiet_below (by kernel_rfl) (by kernel_rfl) ?_
                  repeat (go_big_quiet_step (first | exact cS2 _ _ | exact cR2 _ _))
                  refine wpQuiet_nil ?_
                  intro v2 hw'
                  have hb' : Below v1.heap.size v1 v2 := by
                    obtain ⟨⟨d', os⟩, rfl⟩ := hw'
                    exact below_grow (Below.refl _ _) (Nat.le_refl _) _ _
                  have AY2 := Lib.hid (AY1.out.on hb')
                  have AZ2 := Lib.hid (AZ1.out.on hb')
                  have KW2 := Lib.hid (KW1.out.keep hb')
                  have BV2 := Lib.hid (then_ BV1.out hb')
                  clear hw' hb' AY1 AZ1 KW1 qy0 qy1 cS2 cR2
                  cases vz with
                  | false =>
                    have qz1 := fun d os => cell_regrown AZ2.out.c1 d os
                    have cS3 := fun d os => Calls.regrown_of (d := d) (os := os) (w := v2) (CS3.out _)
                    go_wp2
                    refine wp_region_quiet_below (by kernel_rfl) (by kernel_rfl) ?_
                    repeat (go_big_quiet_step (first | exact cS3 _ _))
                    refine wpQuiet_nil ?_
                    intro v3 hw'
                    have hb' : Below v2.heap.size v2 v3 := by
                      obtain ⟨⟨d', os⟩, rfl⟩ := hw'
                      exact below_grow (Below.refl _ _) (Nat.le_refl _) _ _
                    have AY3 := Lib.hid (AY2.out.on hb')
                    have AZ3 := Lib.hid (AZ2.out.on hb')
                    have KW3 := Lib.hid (KW2.out.keep hb')
                    have BV3 := Lib.hid (then_ BV2.out hb')
                    clear hw' hb' AY2 AZ2 KW2 qz1 cS3
                    go_wp2
                    go_roundw
                    case rel => exact ⟨k + 1, by omega, by go_num, BRQ.out.trans (BV3.out.mono BRQ.out.size)⟩
                    case measure => simp [intOf]; omega
                  | true =>
                    have qz0 := fun d os => cell_regrown AZ2.out.c0 d os
                    have qz1 := fun d os => cell_regrown AZ2.out.c1 d os
                    have cS3 := fun d os => Calls.regrown_of (d := d) (os := os) (w := v2) (CS3.out _)
                    have cR3 := fun d os => Calls.regrown_of (d := d) (os := os) (w := v2) (CR3.out _ (KW2.out.keep (below_regrown _ d os)))
                    go_wp2
                    refine wp_region_quiet_below (by kernel_rfl) (by kernel_rfl) ?_
                    repeat (go_big_quiet_step (first | exact cS3 _ _ | exact cR3 _ _))
                    refine wpQuiet_nil ?_
                    intro v3 hw'
                    have hb' : Below v2.heap.size v2 v3 := by
                      obtain ⟨⟨d', os⟩, rfl⟩ := hw'
                      exact below_grow (Below.refl _ _) (Nat.le_refl _) _ _
                    have AY3 := Lib.hid (AY2.out.on hb')
                    have AZ3 := Lib.hid (AZ2.out.on hb')
                    have KW3 := Lib.hid (KW2.out.keep hb')
                    have BV3 := Lib.hid (then_ BV2.out hb')
                    clear hw' hb' AY2 AZ2 KW2 qz0 qz1 cS3 cR3
                    go_wp2
                    go_roundw
                    case rel => exact ⟨k + 1, by omega, by go_num, BRQ.out.trans (BV3.out.mono BRQ.out.size)⟩
                    case measure => simp [intOf]; omega
                | true =>
                  have qy0 := fun d os => cell_regrown AY1.out.c0 d os
                  have qy1 := fun d os => cell_regrown AY1.out.c1 d os
                  have cS2 := fun d os => Calls.regrown_of (d := d) (os := os) (w := v1) (CS2.out _)
                  have cR2 := fun d os => Calls.regrown_of (d := d) (os := os) (w := v1) (CR2.out _ (KW1.out.keep (below_regrown _ d os)))
                  go_wp2
                  refine wp_region_quiet_below (by kernel_rfl) (by kernel_rfl) ?_
                  repeat (go_big_quiet_step (first | exact cS2 _ _ | exact cR2 _ _))
                  refine wpQuiet_nil ?_
                  intro v2 hw'
                  have hb' : Below v1.heap.size v1 v2 := by
                    obtain ⟨⟨d', os⟩, rfl⟩ := hw'
                    exact below_grow (Below.refl _ _) (Nat.le_refl _) _ _
                  have AY2 := Lib.hid (AY1.out.on hb')
                  have AZ2 := Lib.hid (AZ1.out.on hb')
                  have KW2 := Lib.hid (KW1.out.keep hb')
                  have BV2 := Lib.hid (then_ BV1.out hb')
                  clear hw' hb' AY1 AZ1 KW1 qy0 qy1 cS2 cR2
                  cases vz with
                  | false =>
                    have qz1 := fun d os => cell_regrown AZ2.out.c1 d os
                    have cS3 := fun d os => Calls.regrown_of (d := d) (os := os) (w := v2) (CS3.out _)
                    go_wp2
                    refine wp_region_quiet_below (by kernel_rfl) (by kernel_rfl) ?_
                    repeat (go_big_quiet_step (first | exact cS3 _ _))
                    refine wpQuiet_nil ?_
                    intro v3 hw'
                    have hb' : Below v2.heap.size v2 v3 := by
                      obtain ⟨⟨d', os⟩, rfl⟩ := hw'
                      exact below_grow (Below.refl _ _) (Nat.le_refl _) _ _
                    have AY3 := Lib.hid (AY2.out.on hb')
                    have AZ3 := Lib.hid (AZ2.out.on hb')
                    have KW3 := Lib.hid (KW2.out.keep hb')
                    have BV3 := Lib.hid (then_ BV2.out hb')
                    clear hw' hb' AY2 AZ2 KW2 qz1 cS3
                    go_wp2
                    go_roundw
                    case rel => exact ⟨k + 1, by omega, by go_num, BRQ.out.trans (BV3.out.mono BRQ.out.size)⟩
                    case measure => simp [intOf]; omega
                  | true =>
                    obtain rfl : bw = false := by cases bw with | false => rfl | true => simp at QN
                    have qz0 := fun d os => cell_regrown AZ2.out.c0 d os
                    have qz1 := fun d os => cell_regrown AZ2.out.c1 d os
                    have cS3 := fun d os => Calls.regrown_of (d := d) (os := os) (w := v2) (CS3.out _)
                    have cR3 := fun d os => Calls.regrown_of (d := d) (os := os) (w := v2) (CR3.out _ (KW2.out.keep (below_regrown _ d os)))
                    go_wp2
                    refine wp_region_quiet_below (by kernel_rfl) (by kernel_rfl) ?_
                    repeat (go_big_quiet_step (first | exact cS3 _ _ | exact cR3 _ _))
                    refine wpQuiet_nil ?_
                    intro v3 hw'
                    have hb' : Below v2.heap.size v2 v3 := by
                      obtain ⟨⟨d', os⟩, rfl⟩ := hw'
                      exact below_grow (Below.refl _ _) (Nat.le_refl _) _ _
                    have AY3 := Lib.hid (AY2.out.on hb')
                    have AZ3 := Lib.hid (AZ2.out.on hb')
                    have KW3 := Lib.hid (KW2.out.keep hb')
                    have BV3 := Lib.hid (then_ BV2.out hb')
                    clear hw' hb' AY2 AZ2 KW2 qz0 qz1 cS3 cR3
                    go_wp2
                    go_roundw
                    case rel => exact ⟨k + 1, by omega, by go_num, BRQ.out.trans (BV3.out.mono BRQ.out.size)⟩
                    case measure => simp [intOf]; omega
          · obtain rfl : k = n0 := by omega
            go_wp2
            go_roundw
            case rel => exact ⟨j + 1, by omega, by go_num, BQ.out⟩
            case measure => simp [intOf]; omega
      · obtain rfl : j = n0 := by omega
        have B9 := Lib.hid (then_ B5.out BR.out)
        go_wp2_with fail
        refine (tklive_any _).mono ?_; rintro e w9 ⟨rfl, hb⟩
        have B10 := Lib.hid (then_ B9.out hb)
        clear hb
        go_wp2
        go_ret
        exact ⟨rfl, B10.out⟩
theorem walk (w : World) (A0 : Option Addr) (n0 c0 : Nat) (l0 : List KV) (a1 : Int) (k0 : KVs w A0 n0 c0 l0) (w1 : (Lit.int .i64 a1).wf = true) :
    Calls Try.prog 5 #[.slice A0 n0 c0, .int .i64 a1] w fun e w' => e = .returned (.bool true) ∧ Below w.heap.size w w' := by
  have K := Lib.hid k0
  cases hf : fewB 40 l0 with
  | false =>
    have HF := Lib.hid hf
    clear hf k0
    go_enter Try.func5, Try.ntmps5
    go_wp2_with fail
    refine (few_any A0 n0 c0 l0 40 _ K.out (by omega)).mono ?_; rintro e w' ⟨rfl, rfl⟩
    rw [HF.out]
    go_wp2_with fail
    refine (tklive_any _).mono ?_; rintro e w2 ⟨rfl, hb⟩
    have BL := Lib.hid hb
    clear hb
    go_wp2
    go_ret
    exact ⟨rfl, BL.out⟩
  | true =>
    have HF := Lib.hid hf
    have hn : n0 ≤ 40 := by
      have := k0.len
      unfold fewB at hf
      simp at hf
      omega
    cases hu : unB l0 with
    | false =>
      have HU := Lib.hid hu
      clear hf hu k0
      go_enter Try.func5, Try.ntmps5
      go_wp2_with fail
      refine (few_any A0 n0 c0 l0 40 _ K.out (by omega)).mono ?_; rintro e w' ⟨rfl, rfl⟩
      rw [HF.out]
      go_wp2_with fail
      refine (unlike_any A0 n0 c0 l0 _ K.out (by omega)).mono ?_; rintro e w1 ⟨rfl, hb⟩
      rw [HU.out]
      have B1 := Lib.hid hb
      clear hb
      go_wp2_with fail
      refine (tklive_any _).mono ?_; rintro e w2 ⟨rfl, hb⟩
      have BL := Lib.hid (then_ B1.out hb)
      clear hb
      go_wp2
      go_ret
      exact ⟨rfl, BL.out⟩
    | true => exact main w A0 n0 c0 l0 a1 k0 hf hu

theorem own : ownKnob Try.prog.godebug = none := by kernel_rfl
theorem laidOut : laidOutB Try.prog = true := by kernel_rfl

set_option maxRecDepth 100000 in
theorem lifted (os : Os) (started : os.Started) (H : Type) (enc : TypeId × Value → H) :
    ReturnsInHanded {} Try.checked os 5 .any (Rows.ticketOneSpec.pre6 enc Try.prog Try.f5 Rows.ticketOneRow.domain false) (Rows.ticketOneSpec.post enc Try.prog Try.f5 false true false false) := by
  refine returnsInHanded_of_change (C := Try.checked) own started (by kernel_rfl) Try.func5
    (ChangeSpec.witness6 (enc := enc) (C := Try.checked) false ⟨#[], #[.slice none 0 0, (.int .i64 0)], []⟩ 8 (by kernel_rfl) (by kernel_rfl) (by kernel_rfl) (by kernel_rfl)) ?_
  intro W base args ds gs before hval0 hW hcnd _
  have hval : ∀ (j : Nat) t v, Try.f5.params[j]? = some t → args[j]? = some v → Value.okWide Try.prog W .any base t v := hval0
  have hW' := hW
  obtain ⟨p, q, hA0, hV, rfl, hfz, hnd⟩ := hW
  have hA : DataW.TrodAll enc Try.prog W 0 (fun _ => true) true Try.f5.params.toList args.toList ds p := hA0
  rw [Try.params5] at hA hval
  obtain ⟨v0, vs0, d0, ds0, p0, q0, hargs, rfl, rfl, h0, r0⟩ := trodAll_cons hA
  obtain ⟨v1, vs1, d1, ds1, p1, q1, rfl, rfl, rfl, h1, r1⟩ := trodAll_cons r0
  obtain ⟨rfl, rfl, rfl⟩ := trodAll_nil r1
  obtain rfl : args = #[v0, v1] := by cases args; simp_all
  obtain ⟨rfl, rfl⟩ := trodVars_none hV
  obtain ⟨A0, n0, c0, l0, rfl, k0⟩ := open_kvs (hval 0 22 v0 rfl rfl) h0
  obtain ⟨a1, rfl, rfl, rfl, w1⟩ := open_int Try.underlying3 (hval 1 3 v1 rfl rfl) h1
  clear hA0 hval0
  refine (walk W A0 n0 c0 l0 a1 k0 w1).mono fun e W' ⟨he, bel⟩ => ?_
  subst he
  exact ⟨_, rfl, _, _, _, [], _, [], hW', trodAll_mk1 (shut_bool Try.underlying4 _), (trodAll_cons_mk (Below.trod laidOut (by kernel_rfl) (of_decide_eq_true (by kernel_rfl)) h0 bel (fun x hx => hW'.lt x (by simp [hx]))) (trodAll_cons_mk (shut_int Try.underlying3 w1) trodAll_mk0)), rfl, bel.frame _, fun h => by cases h⟩

theorem over : Rows.ticketOneRow.holds Try.pinned (OpenSpec.ofChange Rows.ticketOneSpec) :=
  OpenClaim.holds_of_wide 5 Try.f5 rfl rfl rfl rfl rfl rfl rfl ⟨rfl, rfl, rfl, rfl, rfl⟩ rfl rfl rfl rfl rfl (by kernel_rfl) Try.func5 (by kernel_rfl)
    (of_decide_eq_true (by kernel_rfl)) (by unfold Func.isWrapper; first | (rw [if_pos (by decide +kernel)]; kernel_rfl) | (rw [if_neg (by decide +kernel)]; exact ⟨rfl, rfl⟩))
    (fun os started H enc _ => lifted os started H enc)

theorem proved : Rows.TicketOneSaid := over
#print axioms proved
end Go.Proofs.Ytefldchhopgliaa.ticketOne
