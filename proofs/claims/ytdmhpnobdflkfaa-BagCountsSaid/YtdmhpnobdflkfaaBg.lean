/- Layer 12: rows of messages; the calls that only look; two rows one behind the other. -/
import Derived.Test.YtdmhpnobdflkfaaBgPure
import Derived.Test.YtdmhpnobdflkfaaGenInts
import Derived.BigQuiet
import Derived.Lib.QuietBelow
import Derived.Deep.QuietTactic
import Derived.WalkSmall
import Derived.WalkSpells
import Derived.WalkLawsBesides
import Derived.Laws.StructEq
import Derived.Lib.AppendZerosOnto
namespace Go.Proofs.Ytdmhpnobdflkfaa.P
open Go.RowKit Go.Sort
set_option maxHeartbeats 1000000
set_option linter.unusedVariables false
set_option linter.unusedSimpArgs false
set_option maxRecDepth 100000

abbrev Msg.agg (x : Msg) : Value := .agg #[.int .i64 x.frm, .int .i64 x.dst, .string x.body]
abbrev Msg.obj (x : Msg) (t : TypeId) : Obj := .cells #[.int .i64 x.frm, .int .i64 x.dst, .string x.body] t
def Msg.cells (x : Msg) : List Value := [.int .i64 x.frm, .int .i64 x.dst, .string x.body]
theorem msg_len (x : Msg) : x.cells.length = 3 := rfl
theorem msg_one (x : Msg) : ∀ v ∈ x.cells, v.oneCell' = true := by intro v h; simp [Msg.cells] at h; rcases h with rfl | rfl | rfl <;> rfl
abbrev zeroMsgA : Value := .agg #[.int .i64 0, .int .i64 0, .string ⟨#[]⟩]
theorem msg_info : (Try.prog.info? 42).map (fun i => (i.zero, i.size, i.bytes)) = some (some zeroMsgA, 3, 32) := by kernel_rfl
structure AtM (w : World) (p : Addr) (x : Msg) : Prop where
  c0 : w.cell? p = some (.int .i64 x.frm)
  c1 : w.cell? ⟨p.block, p.off + 1, none⟩ = some (.int .i64 x.dst)
  c2 : w.cell? ⟨p.block, p.off + 2, none⟩ = some (.string x.body)
structure Ms (w : World) (A : Option Addr) (n c : Nat) (l : List Msg) : Prop where
  row : RowsOf Msg.cells 3 w A n c l
theorem Ms.keep {w w' : World} {A : Option Addr} {n c : Nat} {l : List Msg} (h : Ms w A n c l) (hb : Below w.heap.size w w') : Ms w' A n c l := ⟨h.row.below hb⟩
theorem Ms.len {w : World} {A : Option Addr} {n c : Nat} {l : List Msg} (h : Ms w A n c l) : l.length = n := h.row.len
theorem Ms.at_ {w : World} {A : Option Addr} {n c k : Nat} {l : List Msg} (h : Ms w A n c l) (hk : k < n) : ∃ a x, A = some a ∧ a.block < w.heap.size ∧ l[k]? = some x ∧ AtM w (a.add (k * 3)) x := by
  obtain ⟨a, x, e, hb, hx, hl⟩ := h.row.at_ hk
  exact ⟨a, x, e, hb, hx, ⟨hl 0 _ rfl, hl 1 _ rfl, hl 2 _ rfl⟩⟩
theorem Ms.bare (w : World) : Ms w none 0 0 [] := ⟨RowsOf.bare w⟩
abbrev ownM (w : World) (base : Nat) (A : Option Addr) (n c : Nat) (l : List Msg) : Prop := ownG Msg.cells 3 42 w base A n c l
theorem ownM_ms {w : World} {base n c : Nat} {A : Option Addr} {l : List Msg} (h : ownM w base A n c l) : Ms w A n c l := ⟨ownG_rows msg_len (by omega) h⟩
/-- All of the first j may be: plain. -/
structure AllM (l : List Msg) (j : Nat) : Prop where
  all : allM (l.take j) = true
theorem AllM.zero (l : List Msg) : AllM l 0 := ⟨rfl⟩
theorem AllM.more {l : List Msg} {j : Nat} {x : Msg} (h : AllM l j) (hx : l[j]? = some x) (hm : mayM x = true) : AllM l (j + 1) := ⟨by
  rw [take_more l j x hx, all_app, h.all]; show (true && ([x].all mayM)) = true; simp [hm]⟩
theorem AllM.done {l : List Msg} (h : AllM l l.length) : allM l = true := by have := h.all; rwa [List.take_length] at this
theorem AllM.bad {l : List Msg} {j : Nat} {x : Msg} (hx : l[j]? = some x) (hm : mayM x = false) : allM l = false := by
  unfold allM; rw [List.all_eq_false]; exact ⟨x, List.mem_of_getElem? hx, by simp [hm]⟩
def wayB (f t : Int) : Bool := decide (0 ≤ f ∧ f ≤ 5 ∧ 0 ≤ t ∧ t ≤ 5 ∧ f ≠ t)
theorem wayB_iff {f t : Int} : wayB f t = true ↔ (0 ≤ f ∧ f ≤ 5 ∧ 0 ≤ t ∧ t ≤ 5 ∧ f ≠ t) := decide_eq_true_iff
theorem wayB_no {f t : Int} (h : ¬ (0 ≤ f ∧ f ≤ 5 ∧ 0 ≤ t ∧ t ≤ 5 ∧ f ≠ t)) : wayB f t = false := decide_eq_false h
theorem mayM_way {x : Msg} : mayM x = (wayB x.frm x.dst && decide (x.body.size ≤ 4096)) := by
  rw [Bool.eq_iff_iff, mayM_iff, Bool.and_eq_true, wayB_iff, decide_eq_true_iff]
  constructor
  · rintro ⟨a, b, c, d, e, f⟩; exact ⟨⟨a, b, c, d, e⟩, f⟩
  · rintro ⟨⟨a, b, c, d, e⟩, f⟩; exact ⟨a, b, c, d, e, f⟩
theorem wayOf_any (x : Msg) (w : World) : Calls Try.prog 65 #[x.agg] w fun e w' => e = .returned (.agg #[.int .i64 x.frm, .int .i64 x.dst]) ∧ Below w.heap.size w w' := by
  have BN := Lib.hid (new1 w (x.obj 42))
  go_enter Try.func65, Try.ntmps65
  go_wp2
  refine bodyPost_ret (v := .agg #[.int .i64 x.frm, .int .i64 x.dst]) (by simp [results, Try.results65, go_sem]) rfl ⟨rfl, ?_⟩
  first | exact ((BN.out.alloc (by simp) _).setCell (by simp) _).setCell (by simp) _ | exact BN.out.alloc (by simp) _ | (trace_state; sorry)
theorem idx0 (f t : Int) (w : World) : (Instr.index 81 (.agg #[.int .i64 f, .int .i64 t]) (.int .i64 0)).run Try.prog w = .ok (.int .i64 f) w := by kernel_rfl
theorem idx1 (f t : Int) (w : World) : (Instr.index 81 (.agg #[.int .i64 f, .int .i64 t]) (.int .i64 1)).run Try.prog w = .ok (.int .i64 t) w := by kernel_rfl
theorem waymay_any (f t : Int) (w : World) : Calls Try.prog 83 #[.agg #[.int .i64 f, .int .i64 t]] w fun e w' => e = .returned (.bool (wayB f t)) ∧ Below w.heap.size w w' := by
  have BN := Lib.hid (new1 w (.cells #[.int .i64 f, .int .i64 t] 81))
  have i0 := idx0 f t
  have i1 := idx1 f t
  by_cases h0 : 0 ≤ f ∧ f ≤ 5
  · by_cases h1 : 0 ≤ t ∧ t ≤ 5
    · obtain ⟨a0, a1⟩ := h0
      obtain ⟨b0, b1⟩ := h1
      have HE : Hid ((f != t) = wayB f t) := Lib.hid (by rw [Bool.eq_iff_iff, wayB_iff, bne_iff_ne]; exact ⟨fun h => ⟨a0, a1, b0, b1, h⟩, fun h => h.2.2.2.2⟩)
      go_enter Try.func83, Try.ntmps83
      go_wp2
      refine wp_loop_rounds 3 ?_
      rw [rounds_succ]; go_wp2
      rw [rounds_succ]; go_wp2
      rw [rounds_succ]; go_wp2
      go_ret
      exact ⟨retBo HE.out, BN.out⟩
    · have HE := Lib.hid (wayB_no (f := f) (t := t) (fun h => h1 ⟨h.2.2.1, h.2.2.2.1⟩))
      obtain ⟨a0, a1⟩ := h0
      by_cases b0 : t < 0
      · clear h1
        go_enter Try.func83, Try.ntmps83
        go_wp2
        refine wp_loop_rounds 2 ?_
        rw [rounds_succ]; go_wp2
        rw [rounds_succ]; go_wp2
        go_ret
        exact ⟨retBo HE.out.symm, BN.out⟩
      · have b1 : 5 < t := by omega
        clear h1
        go_enter Try.func83, Try.ntmps83
        go_wp2
        refine wp_loop_rounds 2 ?_
        rw [rounds_succ]; go_wp2
        rw [rounds_succ]; go_wp2
        go_ret
        exact ⟨retBo HE.out.symm, BN.out⟩
  · have HE := Lib.hid (wayB_no (f := f) (t := t) (fun h => h0 ⟨h.1, h.2.1⟩))
    by_cases b0 : f < 0
    · clear h0
      go_enter Try.func83, Try.ntmps83
      go_wp2
      refine wp_loop_rounds 1 ?_
      rw [rounds_succ]; go_wp2
      go_ret
      exact ⟨retBo HE.out.symm, BN.out⟩
    · have b1 : 5 < f := by omega
      clear h0
      go_enter Try.func83, Try.ntmps83
      go_wp2
      refine wp_loop_rounds 1 ?_
      rw [rounds_succ]; go_wp2
      go_ret
      exact ⟨retBo HE.out.symm, BN.out⟩
theorem mayAll_any (A : Option Addr) (n c : Nat) (l : List Msg) (w : World) (h : Ms w A n c l) :
    Calls Try.prog 60 #[.slice A n c] w fun e w' => e = .returned (.bool (allM l)) ∧ Below w.heap.size w w' := by
  have H := Lib.hid h
  have HL := Lib.hid h.len
  have hmax := Nat.le_trans h.row.le h.row.max
  unfold maxLen at hmax
  clear h
  go_enter Try.func60, Try.ntmps60
  go_wp2
  go_loopw [7] (fun i wr => ∃ j : Nat, j ≤ n ∧ i = .int .i64 j ∧ AllM l j ∧ Below w.heap.size w wr) (fun i _ => n - (intOf i).toNat)
  case atStart => exact ⟨0, Nat.zero_le _, rfl, AllM.zero _, Below.refl _ _⟩
  case round =>
    obtain ⟨j, hj, rfl, hall, hbel⟩ := hrel
    have HA := Lib.hid hall; have HB := Lib.hid hbel
    clear hall hbel
    by_cases hlt : j < n
    · obtain ⟨a, x, rfl, hbl, hx, hc⟩ := (H.out.keep HB.out).at_ hlt
      obtain ⟨c0, c1, c2⟩ := hc
      have HX := Lib.hid hx
      have N := Lib.hid (own_new wr #[.int .i64 x.frm, .int .i64 x.dst, .string x.body] 42)
      have BN := Lib.hid (HB.out.alloc HB.out.size (x.obj 42))
      have HW := Lib.hid (mayM_way (x := x))
      clear hx hbl
      cases hw : wayB x.frm x.dst with
      | false =>
        have HWB := Lib.hid hw
        have HF := Lib.hid (AllM.bad HX.out (by rw [HW.out, hw]; rfl))
        clear hw
        go_wp2_with fail
        refine (wayOf_any x _).mono ?_; rintro e w1 ⟨rfl, hb⟩
        have B1 := Lib.hid (BN.out.trans (hb.mono BN.out.size)); clear hb
        go_wp2_with fail
        refine (waymay_any _ _ _).mono ?_; rintro e w2 ⟨rfl, hb⟩
        have B2 := Lib.hid (B1.out.trans (hb.mono B1.out.size)); clear hb
        rw [HWB.out]
        go_wp2
        go_ret
        exact ⟨retBo HF.out.symm, B2.out⟩
      | true =>
        have HWB := Lib.hid hw
        clear hw
        by_cases hs : x.body.size ≤ 4096
        · have HM := Lib.hid (HA.out.more HX.out (by rw [HW.out, HWB.out, decide_eq_true hs]; rfl))
          go_wp2_with fail
          refine (wayOf_any x _).mono ?_; rintro e w1 ⟨rfl, hb⟩
          have N1 := Lib.hid (N.out.below hb)
          have B1 := Lib.hid (BN.out.trans (hb.mono BN.out.size)); clear hb
          go_wp2_with fail
          refine (waymay_any _ _ _).mono ?_; rintro e w2 ⟨rfl, hb⟩
          have q2 := (N1.out.below hb).cell 2 _ rfl
          have B2 := Lib.hid (B1.out.trans (hb.mono B1.out.size)); clear hb
          rw [HWB.out]
          go_wp2
          go_roundw
          case rel => exact ⟨j + 1, by omega, by go_num, HM.out, B2.out⟩
          case measure => simp [intOf]; omega
        · have HF := Lib.hid (AllM.bad HX.out (by rw [HW.out, HWB.out, decide_eq_false hs]; rfl))
          go_wp2_with fail
          refine (wayOf_any x _).mono ?_; rintro e w1 ⟨rfl, hb⟩
          have N1 := Lib.hid (N.out.below hb)
          have B1 := Lib.hid (BN.out.trans (hb.mono BN.out.size)); clear hb
          go_wp2_with fail
          refine (waymay_any _ _ _).mono ?_; rintro e w2 ⟨rfl, hb⟩
          have q2 := (N1.out.below hb).cell 2 _ rfl
          have B2 := Lib.hid (B1.out.trans (hb.mono B1.out.size)); clear hb
          rw [HWB.out]
          go_wp2
          go_ret
          exact ⟨retBo HF.out.symm, B2.out⟩
    · obtain rfl : j = n := by omega
      have HF : Hid (allM l = true) := Lib.hid (AllM.done (by rw [HL.out]; exact HA.out))
      go_wp2
      go_ret
      exact ⟨retBo HF.out.symm, HB.out⟩
theorem bag_in {l : List Msg} {n : Nat} (h : l.length = n) (hn : n ≤ 16) : bagB l = allM l := by unfold bagB; rw [decide_eq_true (by omega)]; rfl
theorem bag_out {l : List Msg} {n : Nat} (h : l.length = n) (hn : ¬ n ≤ 16) : bagB l = false := by unfold bagB; rw [decide_eq_false (by omega)]; rfl
theorem bmay_any (A : Option Addr) (n c : Nat) (l : List Msg) (w : World) (h : Ms w A n c l) :
    Calls Try.prog 34 #[.slice A n c] w fun e w' => e = .returned (.bool (bagB l)) ∧ Below w.heap.size w w' := by
  have cM := Lib.hid (mayAll_any A n c l w h)
  have hl := h.len
  clear h
  by_cases hn : n ≤ 16
  · have HE := Lib.hid (bag_in hl hn)
    clear hl
    have hn' : (n : Int) ≤ 16 := by omega
    go_enter Try.func34, Try.ntmps34
    go_wp2_with fail
    refine cM.out.mono ?_; rintro e w1 ⟨rfl, hb⟩
    have B1 := Lib.hid hb; clear hb
    go_wp2
    go_ret
    exact ⟨retBo HE.out.symm, B1.out⟩
  · have HE := Lib.hid (bag_out hl hn)
    clear hl
    have hn' : ¬ (n : Int) ≤ 16 := by omega
    go_enter Try.func34, Try.ntmps34
    go_wp2
    go_ret
    exact ⟨retBo HE.out.symm, Below.refl _ _⟩
theorem one_any (x : Msg) (w : World) : Calls Try.prog 84 #[x.agg] w fun e w' => e = .returned (.bool (mayM x)) ∧ Below w.heap.size w w' := by
  have BN := Lib.hid (new1 w (x.obj 42))
  have O := Lib.hid (own_new w #[.int .i64 x.frm, .int .i64 x.dst, .string x.body] 42)
  have HI := Lib.hid (mayM_iff (m := x))
  have no : Hid (¬ (0 ≤ x.frm ∧ x.frm ≤ 5 ∧ 0 ≤ x.dst ∧ x.dst ≤ 5 ∧ x.frm ≠ x.dst ∧ x.body.size ≤ 4096) → mayM x = false) := Lib.hid (fun h => by
    cases hm : mayM x with
    | false => rfl
    | true => exact absurd (mayM_iff.1 hm) h)
  go_enter Try.func84, Try.ntmps84
  by_cases h0 : 0 ≤ x.frm
  · by_cases h1 : x.frm ≤ 5
    · by_cases h2 : 0 ≤ x.dst
      · by_cases h3 : x.dst ≤ 5
        · cases h4 : (x.frm != x.dst) with
          | false =>
            have HF := Lib.hid (no.out (fun h => by simp at h4; exact h.2.2.2.2.1 h4))
            go_wp2
            go_ret
            exact ⟨retBo (by rw [HF.out]), BN.out⟩
          | true =>
            have h4' := bne_iff_ne.1 h4
            have H4 := Lib.hid h4'
            clear h4'
            by_cases h5 : x.body.size ≤ 4096
            · have HF := Lib.hid (HI.out.2 ⟨h0, h1, h2, h3, H4.out, h5⟩)
              have h5' : (x.body.size : Int) ≤ 4096 := by omega
              go_wp2
              go_ret
              exact ⟨retBo (by rw [HF.out]), BN.out⟩
            · have HF := Lib.hid (no.out (fun h => h5 h.2.2.2.2.2))
              have h5' : ¬ (x.body.size : Int) ≤ 4096 := by omega
              go_wp2
              go_ret
              exact ⟨retBo (by rw [HF.out]), BN.out⟩
        · have HF := Lib.hid (no.out (fun h => h3 h.2.2.2.1))
          go_wp2
          go_ret
          exact ⟨retBo (by rw [HF.out]), BN.out⟩
      · have HF := Lib.hid (no.out (fun h => h2 h.2.2.1))
        go_wp2
        go_ret
        exact ⟨retBo (by rw [HF.out]), BN.out⟩
    · have HF := Lib.hid (no.out (fun h => h1 h.2.1))
      go_wp2
      go_ret
      exact ⟨retBo (by rw [HF.out]), BN.out⟩
  · have HF := Lib.hid (no.out (fun h => h0 h.1))
    go_wp2
    go_ret
    exact ⟨retBo (by rw [HF.out]), BN.out⟩
theorem each_any (A : Option Addr) (n c : Nat) (l : List Msg) (w : World) (h : Ms w A n c l) :
    Calls Try.prog 62 #[.slice A n c] w fun e w' => e = .returned (.bool (allM l)) ∧ Below w.heap.size w w' := by
  have H := Lib.hid h
  have HL := Lib.hid h.len
  have hmax := Nat.le_trans h.row.le h.row.max
  unfold maxLen at hmax
  clear h
  go_enter Try.func62, Try.ntmps62
  go_wp2
  go_loopw [3] (fun i wr => ∃ j : Nat, j ≤ n ∧ i = .int .i64 j ∧ AllM l j ∧ Below w.heap.size w wr) (fun i _ => n - (intOf i).toNat)
  case atStart => exact ⟨0, Nat.zero_le _, rfl, AllM.zero _, Below.refl _ _⟩
  case round =>
    obtain ⟨j, hj, rfl, hall, hbel⟩ := hrel
    have HA := Lib.hid hall; have HB := Lib.hid hbel
    clear hall hbel
    by_cases hlt : j < n
    · obtain ⟨a, x, rfl, hbl, hx, hc⟩ := (H.out.keep HB.out).at_ hlt
      obtain ⟨c0, c1, c2⟩ := hc
      have HX := Lib.hid hx
      clear hx hbl
      cases hm : mayM x with
      | false =>
        have HM := Lib.hid hm
        have HF := Lib.hid (AllM.bad HX.out hm)
        clear hm
        go_wp2_with fail
        refine (one_any x _).mono ?_; rintro e w1 ⟨rfl, hb⟩
        have B1 := Lib.hid (HB.out.trans (hb.mono HB.out.size)); clear hb
        rw [HM.out]
        go_wp2
        go_ret
        exact ⟨retBo HF.out.symm, B1.out⟩
      | true =>
        have HM := Lib.hid hm
        have HA2 := Lib.hid (HA.out.more HX.out hm)
        clear hm
        go_wp2_with fail
        refine (one_any x _).mono ?_; rintro e w1 ⟨rfl, hb⟩
        have B1 := Lib.hid (HB.out.trans (hb.mono HB.out.size)); clear hb
        rw [HM.out]
        go_wp2
        go_roundw
        case rel => exact ⟨j + 1, by omega, by go_num, HA2.out, B1.out⟩
        case measure => simp [intOf]; omega
    · obtain rfl : j = n := by omega
      have HF : Hid (allM l = true) := Lib.hid (AllM.done (by rw [HL.out]; exact HA.out))
      go_wp2
      go_ret
      exact ⟨retBo HF.out.symm, HB.out⟩
theorem bmay_ref (A : Option Addr) (n c : Nat) (l : List Msg) (w : World) (h : Ms w A n c l) :
    Calls Try.prog 35 #[.slice A n c] w fun e w' => e = .returned (.bool (bagB l)) ∧ Below w.heap.size w w' := by
  have cM := Lib.hid (each_any A n c l w h)
  have hl := h.len
  clear h
  by_cases hn : n ≤ 16
  · have HE := Lib.hid (bag_in hl hn)
    clear hl
    have hn' : (n : Int) ≤ 16 := by omega
    go_enter Try.func35, Try.ntmps35
    go_wp2_with fail
    refine cM.out.mono ?_; rintro e w1 ⟨rfl, hb⟩
    have B1 := Lib.hid hb; clear hb
    go_wp2
    go_ret
    exact ⟨retBo HE.out.symm, B1.out⟩
  · have HE := Lib.hid (bag_out hl hn)
    clear hl
    have hn' : ¬ (n : Int) ≤ 16 := by omega
    go_enter Try.func35, Try.ntmps35
    go_wp2
    go_ret
    exact ⟨retBo HE.out.symm, Below.refl _ _⟩
theorem has_len {l : List Msg} {n : Nat} {i : Int} (h : l.length = n) : hasM l i = decide (0 ≤ i ∧ i < (n : Int)) := by unfold hasM; rw [h]
theorem has_msg (A : Option Addr) (n c : Nat) (l : List Msg) (i : Int) (w : World) (h : l.length = n) :
    Calls Try.prog 63 #[.slice A n c, .int .i64 i] w fun e w' => e = .returned (.bool (hasM l i)) ∧ w = w' := by
  have HE := Lib.hid (has_len (i := i) h)
  clear h
  by_cases h0 : 0 ≤ i
  · by_cases h1 : i < (n : Int)
    · have HF : Hid (hasM l i = true) := Lib.hid (by rw [HE.out]; exact decide_eq_true ⟨h0, h1⟩)
      go_enter Try.func63, Try.ntmps63
      go_wp2
      go_ret
      exact ⟨retBo (by rw [HF.out]), rfl⟩
    · have HF : Hid (hasM l i = false) := Lib.hid (by rw [HE.out]; exact decide_eq_false (fun h => h1 h.2))
      go_enter Try.func63, Try.ntmps63
      go_wp2
      go_ret
      exact ⟨retBo (by rw [HF.out]), rfl⟩
  · have HF : Hid (hasM l i = false) := Lib.hid (by rw [HE.out]; exact decide_eq_false (fun h => h0 h.1))
    go_enter Try.func63, Try.ntmps63
    go_wp2
    go_ret
    exact ⟨retBo (by rw [HF.out]), rfl⟩
theorem bite_last (p : Prop) [Decidable p] (w : World) : (if p then Result.ok (Value.bool true) w else Result.ok (Value.bool false) w) = Result.ok (Value.bool (decide p)) w := by by_cases h : p <;> simp [h]
theorem bite_more (p : Prop) [Decidable p] (q : Bool) (w : World) : (if p then Result.ok (Value.bool q) w else Result.ok (Value.bool false) w) = Result.ok (Value.bool (decide p && q)) w := by by_cases h : p <;> simp [h]
theorem eql_msg (a b : Msg) (w : World) : (binOp .eql 42 a.agg b.agg).run Try.prog w = .ok (.bool (msgEq a b)) w := by
  simp [go_sem, Try.underlying42]
  rw [bite_last, bite_more, bite_more]
  rfl
theorem neq_msg (a b : Msg) (w : World) : (binOp .neq 42 a.agg b.agg).run Try.prog w = .ok (.bool (!msgEq a b)) w := by
  have h := eql_msg a b w
  simp [go_sem, Try.underlying42] at h ⊢
  unfold msgEq
  by_cases h0 : a.frm = b.frm <;> by_cases h1 : a.dst = b.dst <;> by_cases h2 : a.body.toList = b.body.toList <;> simp [h0, h1, h2]
/-- Whether two rows are the same. -/
def sameM (a b : List Msg) : Bool := decide (a = b)
theorem sameM_iff {a b : List Msg} : sameM a b = true ↔ a = b := decide_eq_true_iff
end Go.Proofs.Ytdmhpnobdflkfaa.P
