/- Layer 9: what is looked for, the document's way: a scan, the floor, and whether there is room. -/
import Derived.Test.YtcbnfgehmeikgaaMeMid
import Derived.Test.YtcbnfgehmeikgaaMeSqR
namespace Go.Proofs.Ytcbnfgehmeikgaa.P
open Go.RowKit Go.Sort
set_option maxHeartbeats 4000000
set_option linter.unusedVariables false
set_option linter.unusedSimpArgs false
set_option maxRecDepth 100000
/-- Nothing of that request among the first j. -/
def NoneTo (l : List Gr) (who seq : Int) (j : Nat) : Prop := ∀ t g, t < j → l[t]? = some g → ¬ (g.who = who ∧ g.seq = seq)
theorem NoneTo.zero (l : List Gr) (who seq : Int) : NoneTo l who seq 0 := fun t g h => by omega
theorem NoneTo.more {l : List Gr} {who seq : Int} {j : Nat} {x : Gr} (h : NoneTo l who seq j) (hx : l[j]? = some x) (hn : ¬ (x.who = who ∧ x.seq = seq)) : NoneTo l who seq (j + 1) := fun t g ht hg => by
  by_cases e : t = j
  · subst e; rw [hx] at hg; have := Option.some.inj hg; subst this; exact hn
  · exact h t g (by omega) hg
theorem NoneTo.all {l : List Gr} {who seq : Int} (h : NoneTo l who seq l.length) : (who, seq) ∉ prs l := fun hm => by
  obtain ⟨g, hg, e⟩ := List.mem_map.1 hm
  obtain ⟨t, ht⟩ := List.getElem?_of_mem hg
  exact h t g (List.getElem?_eq_some_iff.1 ht).1 ht ⟨congrArg (·.1) e, congrArg (·.2) e⟩
/-- How the document's look ends: the reply, if there is one, in rows of whomever. -/
def LookREnd (m : Mos Rp) (who seq : Int) (w : World) (e : Ending) (w' : World) : Prop := ∃ A n c B k d, e = .returned (.tuple #[(lookY m who seq).1.agg A n c B k d, .bool (lookY m who seq).2, .int .i64 (lookE m who seq)]) ∧ RpAt w' (lookY m who seq).1 A n c B k d ∧ Below w.heap.size w w'
theorem LookREnd.mk {m : Mos Rp} {who seq er : Int} {y : Rp} {is : Bool} {w w' : World} {e : Ending} {A : Option Addr} {n c : Nat} {B : Option Addr} {k d : Nat} (h1 : lookY m who seq = (y, is)) (h2 : lookE m who seq = er) (he : e = .returned (.tuple #[y.agg A n c B k d, .bool is, .int .i64 er])) (h3 : RpAt w' y A n c B k d) (hb : Below w.heap.size w w') : LookREnd m who seq w e w' := by
  unfold LookREnd
  rw [h1, h2]
  exact ⟨A, n, c, B, k, d, he, h3, hb⟩
theorem put_in_len {l : List Int} {z : Int} (h : z ∈ riseL l) : (putI (riseL l) z).length = (riseL l).length := by
  have h1 := putI_up z (rise_up l).1
  have h2 : putI (riseL l) z = riseL l := rise_ext _ _ h1.1 (rise_up l).1 (fun x => by
    rw [h1.2]
    constructor
    · rintro (h2 | rfl)
      · exact h2
      · exact h
    · exact .inl)
  rw [h2]
theorem put_new_len {l : List Int} {z : Int} (h : z ∉ riseL l) : (putI (riseL l) z).length = (riseL l).length + 1 := by
  unfold putI
  have hle := lowTo_le (riseL l) z
  rw [if_neg (fun e => h (List.mem_of_getElem? e))]
  simp [List.length_append, List.length_take, List.length_drop]
  omega
theorem lookr_any (m : GMos) (A : Option Addr) (n c : Nat) (B : Option Addr) (k d : Nat) (who seq : Int) (w : World) (h : MosAt w m A n c B k d) (hn : n ≤ 390) (hk : k ≤ 390) :
    Calls Try.prog 13 #[moV A n c B k d, .int .i64 who, .int .i64 seq] w (LookREnd (plainM m) who seq w) := by
  have HLEN := Lib.hid h.l.row.len
  have HLEN2 := Lib.hid h.old.len
  obtain ⟨W1, hW1⟩ : ∃ W1, W1 = (w.alloc (.cells (moA A n c B k d) 25)).alloc (.cells zRpA 31) := ⟨_, rfl⟩
  have O1 : Hid (Own W1 w.heap.size 25 (moA A n c B k d)) := Lib.hid (by rw [hW1]; exact (own_new w (moA A n c B k d) 25).alloc (.cells zRpA 31))
  have R1 : Hid (Own W1 (w.heap.size + 1) 31 zRpA) := Lib.hid (by rw [hW1]; exact own_new2 w (.cells (moA A n c B k d) 25) zRpA 31)
  have B1 : Hid (Below w.heap.size w W1) := Lib.hid (by rw [hW1]; exact then_ (new1 w (.cells (moA A n c B k d) 25)) (new1 _ (.cells zRpA 31)))
  have HM := Lib.hid (h.keep B1.out)
  have HN : Hid (n ≤ 390) := Lib.hid hn
  have HN2 : Hid (k ≤ 390) := Lib.hid hk
  have HW0 := Lib.hid h.l.ok
  have hn9 := hn
  clear h hn hk
  go_enter Try.func13, Try.ntmps13
  go_upto_region 1 with fail
  rw [← hW1]
  clear hW1
  have d0 := O1.out.cell 0 (.slice A n c) rfl
  have d1 := O1.out.cell 1 (.slice B k d) rfl
  go_wp2
  go_loopw [9] (fun i wr => ∃ (j : Nat), j ≤ n ∧ i = .int .i64 j ∧ wr = W1 ∧ NoneTo m.1 who seq j) (fun i _ => n - (intOf i).toNat)
  case atStart => exact ⟨0, Nat.zero_le _, rfl, rfl, NoneTo.zero _ _ _⟩
  case round =>
    obtain ⟨j, hj, rfl, hwr, hno⟩ := hrel
    obtain rfl : W1 = wr := hwr.symm
    have HNO := Lib.hid hno
    clear hno
    by_cases hlt : j < n
    · obtain ⟨a, x, rfl, hbl, hx, hok, hc⟩ := HM.out.l.at_ hlt
      have HX := Lib.hid hx
      have HRP := Lib.hid hok.rp
      have i0 : (0 : Int) ≤ (j : Int) := by omega
      have i1 : (j : Int) < (n : Int) := by omega
      obtain ⟨z0, z1, z2, z3, z4, z5, z6, z7, z8, z9, z10⟩ := hc
      clear hx hok hbl
      by_cases h0 : x.who = who
      · have e0 : (x.who == who) = true := by simpa using h0
        by_cases h1 : x.seq = seq
        · have e1 : (x.seq == seq) = true := by simpa using h1
          have HV : Hid (lookY (plainM m) who seq = (x.y, true) ∧ lookE (plainM m) who seq = 0) := Lib.hid (by
            have h2 : findM (plainM m).l who seq = some x.y := find_first (k := j) ⟨⟨x, HX.out, h0, h1⟩, HNO.out⟩ HX.out
            exact ⟨lookY_some h2, (look_some h2).1⟩)
          have HWS : Hid (w.heap.size ≤ w.heap.size + 1) := Lib.hid (by omega)
          have HOFF : Hid (RpAt (W1.setRow (w.heap.size + 1) (x.y.arr x.A x.an x.ac x.B x.bn x.bc)) x.y x.A x.an x.ac x.B x.bn x.bc) := Lib.hid (by
            have hlow := gr_low (HW0.out x (List.mem_of_getElem? HX.out)).rp
            exact HRP.out.grown (grown_row W1 (w.heap.size + 1) _) (fun hp b hb e => by have h2 := hlow.1 hp b hb; injection e with e; omega) (fun hp b hb e => by have h2 := hlow.2 hp b hb; injection e with e; omega))
          clear h0 h1
          go_wp2_with (refine wpList_store_row rfl 31 _ _ rfl _ _ rfl rfl 31 _ (R1.out).ex (by kernel_rfl) rfl (by simp [Value.oneCell']) ?_)
          exact bodyPost_ret (v := .tuple #[x.y.agg x.A x.an x.ac x.B x.bn x.bc, .bool true, .int .i64 0]) (results_row2 Try.results13 _ _ (w.heap.size + 1) 31 _ _ rfl ((R1.out).row _).ex Try.underlying31 rfl (by kernel_rfl)) rfl (LookREnd.mk HV.out.1 HV.out.2 rfl HOFF.out (below_setRow B1.out HWS.out _))
        · have e1 : (x.seq == seq) = false := by simpa using h1
          have HNN : Hid (NoneTo m.1 who seq (j + 1)) := Lib.hid (HNO.out.more HX.out (fun e => h1 e.2))
          clear h0 h1
          go_wp2
          go_roundw
          case rel => exact ⟨j + 1, by omega, by go_num, trivial, HNN.out⟩
          case measure => simp [intOf]; omega
      · have e0 : (x.who == who) = false := by simpa using h0
        have HNN : Hid (NoneTo m.1 who seq (j + 1)) := Lib.hid (HNO.out.more HX.out (fun e => h0 e.1))
        clear h0
        go_wp2
        go_roundw
        case rel => exact ⟨j + 1, by omega, by go_num, trivial, HNN.out⟩
        case measure => simp [intOf]; omega
    · obtain rfl : j = n := by omega
      have hfi : findM (plainM m).l who seq = none := find_no (NoneTo.all (by have h2 := HNO.out; rw [← HLEN.out] at h2; exact h2))
      obtain ⟨_, hE⟩ := look_none hfi
      have hY := lookY_none hfi
      have hful := full_is (m := plainM m) (who := who)
      have HWS : Hid (w.heap.size ≤ w.heap.size + 1) := Lib.hid (by omega)
      obtain ⟨f, hfe⟩ : ∃ f, floorL m.2 who = f := ⟨_, rfl⟩
      have hfe' : floorL (plainM m).old who = f := hfe
      have HFL := Lib.hid hfe
      rw [hfe'] at hE
      clear hfe hfe' HNO hfi
      have cF := Lib.hid (floorr_any m A j c B k d who W1 HM.out.old (by have := HN2.out; omega))
      rw [HFL.out] at cF
      by_cases h7 : seq ≤ f
      · have HV : Hid (lookY (plainM m) who seq = (zRp, false) ∧ lookE (plainM m) who seq = 7) := Lib.hid ⟨hY, by rw [hE, if_pos h7]⟩
        clear hE hY hful
        go_wp2_with fail
        refine cF.out.mono ?_; rintro e w3 ⟨rfl, hb3⟩
        have R3 := Lib.hid (R1.out.below hb3)
        have B3 := Lib.hid (then_ B1.out hb3)
        clear hb3
        go_wp2_with (refine wpList_store_row rfl 31 _ _ rfl _ _ rfl rfl 31 _ (R3.out).ex (by kernel_rfl) rfl (by simp [Value.oneCell']) ?_)
        exact bodyPost_ret (v := .tuple #[zRp.agg none 0 0 none 0 0, .bool false, .int .i64 7]) (results_row2 Try.results13 _ _ (w.heap.size + 1) 31 _ _ rfl ((R3.out).row _).ex Try.underlying31 rfl (by kernel_rfl)) rfl (LookREnd.mk HV.out.1 HV.out.2 rfl (zRp_at _) (below_setRow B3.out HWS.out _))
      · rw [if_neg h7, hful] at hE
        have HQ : Hid ((riseL (whoL (plainM m))).length ≤ 900) := Lib.hid (by
          have h1 := rise_len (whoL (plainM m))
          have h2 : (whoL (plainM m)).length = m.1.length + m.2.length := by rw [plain_whos, List.length_append, List.length_map, List.length_map]
          have h3 := HLEN2.out
          have h4 := HLEN.out
          have h5 := HN.out
          have h6 := HN2.out
          omega)
        have HE := Lib.hid hE
        have HY := Lib.hid hY
        clear hE hY hful
        go_wp2_with fail
        refine cF.out.mono ?_; rintro e w3 ⟨rfl, hb3⟩
        have R3 := Lib.hid (R1.out.below hb3)
        have B3 := Lib.hid (then_ B1.out hb3)
        have O3 := Lib.hid (O1.out.below hb3)
        have HM3 := Lib.hid (HM.out.keep hb3)
        clear hb3 d0 d1 cF
        have d0 := O3.out.cell 0 (.slice A j c) rfl
        have d1 := O3.out.cell 1 (.slice B k d) rfl
        go_wp2_with fail
        refine (whosr_any m A j c B k d w3 HM3.out (by have := HN.out; omega) (by have := HN2.out; omega)).mono ?_; rintro e w4 ⟨A3, n3, c3, rfl, hi, hb4⟩
        have R4 := Lib.hid (R3.out.below hb4)
        have B4 := Lib.hid (then_ B3.out hb4)
        have HI := Lib.hid hi
        have hl3 := hi.len
        clear hb4 d0 d1 hi
        generalize hL : riseL (whoL (plainM m)) = L at *
        obtain ⟨n4, hn4, HN4, HP⟩ : ∃ n4, (putI L who).length = n4 ∧ Hid (who ∈ L → n4 = n3) ∧ Hid (who ∉ L → n4 = n3 + 1) := ⟨_, rfl, Lib.hid (fun hm => by rw [← hl3, ← hL]; exact put_in_len (by rw [hL]; exact hm)), Lib.hid (fun hm => by rw [← hl3, ← hL]; exact put_new_len (by rw [hL]; exact hm))⟩
        have cP := Lib.hid (put09_any A3 n3 c3 L who true w4 HI.out (by have := HQ.out; omega))
        have HN5 := Lib.hid hn4
        clear hL hn4
        by_cases h8 : 8 ≤ L.length
        · have hx8 : (8 : Int) ≤ (n3 : Int) := by omega
          by_cases hc8 : who ∈ L
          · have HV : Hid (lookY (plainM m) who seq = (zRp, false) ∧ lookE (plainM m) who seq = 0) := Lib.hid ⟨HY.out, by rw [HE.out, decide_eq_true hc8]; simp⟩
            have HEQ := Lib.hid (HN4.out hc8)
            clear hl3 h8 hc8
            go_wp2_with fail
            refine cP.out.mono ?_; rintro e w5 ⟨A5, n5, c5, rfl, hi5, hb5⟩
            have R5 := Lib.hid (R4.out.below hb5)
            have B5 := Lib.hid (then_ B4.out hb5)
            have h5 : n5 = n3 := by have h6 := hi5.len; rw [← h6, ← HEQ.out, ← HN5.out]; rfl
            subst h5
            clear hb5 hi5
            go_wp2_with (refine wpList_store_row rfl 31 _ _ rfl _ _ rfl rfl 31 _ (R5.out).ex (by kernel_rfl) rfl (by simp [Value.oneCell']) ?_)
            exact bodyPost_ret (v := .tuple #[zRp.agg none 0 0 none 0 0, .bool false, .int .i64 0]) (results_row2 Try.results13 _ _ (w.heap.size + 1) 31 _ _ rfl ((R5.out).row _).ex Try.underlying31 rfl (by kernel_rfl)) rfl (LookREnd.mk HV.out.1 HV.out.2 rfl (zRp_at _) (below_setRow B5.out HWS.out _))
          · have HV : Hid (lookY (plainM m) who seq = (zRp, false) ∧ lookE (plainM m) who seq = 4) := Lib.hid ⟨HY.out, by rw [HE.out, decide_eq_false hc8, decide_eq_true h8]; rfl⟩
            have HEQ := Lib.hid (HP.out hc8)
            clear hl3 h8 hc8
            go_wp2_with fail
            refine cP.out.mono ?_; rintro e w5 ⟨A5, n5, c5, rfl, hi5, hb5⟩
            have R5 := Lib.hid (R4.out.below hb5)
            have B5 := Lib.hid (then_ B4.out hb5)
            have h5 : (n3 : Int) < (n5 : Int) := by have h6 := hi5.len; have h7 := HEQ.out; rw [← HN5.out] at h7; have h8 : (putZ L who true).length = (putI L who).length := rfl; omega
            clear hb5 hi5
            go_wp2_with (refine wpList_store_row rfl 31 _ _ rfl _ _ rfl rfl 31 _ (R5.out).ex (by kernel_rfl) rfl (by simp [Value.oneCell']) ?_)
            exact bodyPost_ret (v := .tuple #[zRp.agg none 0 0 none 0 0, .bool false, .int .i64 4]) (results_row2 Try.results13 _ _ (w.heap.size + 1) 31 _ _ rfl ((R5.out).row _).ex Try.underlying31 rfl (by kernel_rfl)) rfl (LookREnd.mk HV.out.1 HV.out.2 rfl (zRp_at _) (below_setRow B5.out HWS.out _))
        · have HV : Hid (lookY (plainM m) who seq = (zRp, false) ∧ lookE (plainM m) who seq = 0) := Lib.hid ⟨HY.out, by rw [HE.out, decide_eq_false h8]; rfl⟩
          have hx8 : ¬ (8 : Int) ≤ (n3 : Int) := by omega
          clear hl3 h8 cP
          go_wp2_with (refine wpList_store_row rfl 31 _ _ rfl _ _ rfl rfl 31 _ (R4.out).ex (by kernel_rfl) rfl (by simp [Value.oneCell']) ?_)
          exact bodyPost_ret (v := .tuple #[zRp.agg none 0 0 none 0 0, .bool false, .int .i64 0]) (results_row2 Try.results13 _ _ (w.heap.size + 1) 31 _ _ rfl ((R4.out).row _).ex Try.underlying31 rfl (by kernel_rfl)) rfl (LookREnd.mk HV.out.1 HV.out.2 rfl (zRp_at _) (below_setRow B4.out HWS.out _))
end Go.Proofs.Ytcbnfgehmeikgaa.P
