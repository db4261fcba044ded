/- Layer 12: whether two rows are the same; two rows one behind the other; what is put, the program's way and the document's. -/
import Derived.Test.YtdmhpnobdflkfaaBg
namespace Go.Proofs.Ytdmhpnobdflkfaa.P
open Go.RowKit Go.Sort
set_option maxHeartbeats 1000000
set_option linter.unusedVariables false
set_option linter.unusedSimpArgs false
set_option maxRecDepth 100000

structure EqTo (l m : List Msg) (k : Nat) : Prop where
  eq : l.take k = m.take k
theorem EqTo.more {l m : List Msg} {k : Nat} {x y : Msg} (h : EqTo l m k) (hx : l[k]? = some x) (hy : m[k]? = some y) (e : msgEq x y = true) : EqTo l m (k + 1) := ⟨by
  rw [take_more l k x hx, take_more m k y hy, h.eq, msgEq_iff.1 e]⟩
theorem EqTo.bad {l m : List Msg} {k : Nat} {x y : Msg} (hx : l[k]? = some x) (hy : m[k]? = some y) (e : msgEq x y = false) : sameM l m = false := decide_eq_false (fun h => by
  subst h
  rw [hx] at hy
  injection hy with hy
  subst hy
  rw [msgEq_self] at e; cases e)
theorem EqTo.done {l m : List Msg} (h : EqTo l m l.length) (e : m.length = l.length) : sameM l m = true := sameM_iff.2 (by
  have := h.eq
  rwa [List.take_length, ← e, List.take_length] at this)
theorem same_any (A B : Option Addr) (n c m d : Nat) (l k : List Msg) (w : World) (h : Ms w A n c l) (g : Ms w B m d k) (hm : n ≤ 1000000) :
    Calls Try.prog 36 #[.slice A n c, .slice B m d] w fun e w' => e = .returned (.bool (sameM l k)) ∧ Below w.heap.size w w' := by
  have H := Lib.hid h
  have G := Lib.hid g
  have HL := Lib.hid h.len
  have GL := Lib.hid g.len
  clear h g
  by_cases hnm : n = m
  · subst hnm
    go_enter Try.func36, Try.ntmps36
    go_wp2
    go_loopw [5] (fun i wr => ∃ j q : Nat, j ≤ n ∧ i = .int .i64 j ∧ wr = w.drewN q ∧ EqTo l k j) (fun i _ => n - (intOf i).toNat)
    case atStart => exact ⟨0, 0, Nat.zero_le _, rfl, rfl, ⟨rfl⟩⟩
    case round =>
      obtain ⟨j, q, hj, rfl, rfl, heq⟩ := hrel
      have HE := Lib.hid heq
      clear heq
      by_cases hlt : j < n
      · obtain ⟨a, x, rfl, hbl, hx, hc⟩ := H.out.at_ hlt
        obtain ⟨b, y, rfl, gbl, hy, gc⟩ := G.out.at_ hlt
        obtain ⟨c0, c1, c2⟩ := hc
        obtain ⟨d0, d1, d2⟩ := gc
        have hne := neq_msg x y
        have HX := Lib.hid hx; have HY := Lib.hid hy
        have i0 : (0 : Int) ≤ (j : Int) := by omega
        have i1 : (j : Int) < (n : Int) := by omega
        clear hx hy hbl gbl
        cases he : msgEq x y with
        | true =>
          have HM := Lib.hid (HE.out.more HX.out HY.out he)
          rw [he] at hne
          clear he
          go_wp2
          go_quiet (fail)
          go_wp2
          go_roundw
          case rel => exact ⟨j + 1, _, by omega, by go_num, rfl, HM.out⟩
          case measure => simp [intOf]; omega
        | false =>
          have HF := Lib.hid (EqTo.bad HX.out HY.out he)
          rw [he] at hne
          clear he
          go_wp2
          go_quiet (fail)
          go_wp2
          go_ret
          exact ⟨retBo HF.out.symm, below_drewN (below_drewN (Below.refl _ _) _) _⟩
      · obtain rfl : j = n := by omega
        have HF := Lib.hid (EqTo.done (by rw [HL.out]; exact HE.out) (by rw [HL.out, GL.out]))
        go_wp2
        go_ret
        exact ⟨retBo HF.out.symm, below_drewN (Below.refl _ _) _⟩
  · have HF : Hid (sameM l k = false) := Lib.hid (decide_eq_false (fun h => hnm (by rw [← HL.out, ← GL.out, h])))
    have hne : ¬ ((n : Int) = (m : Int)) := by omega
    go_enter Try.func36, Try.ntmps36
    go_wp2
    go_ret
    exact ⟨retBo HF.out.symm, Below.refl _ _⟩
def fewB2 (n m : Nat) : Bool := decide (n ≤ 40 ∧ m ≤ 40)
theorem few_msg (A B : Option Addr) (n c m d : Nat) (w : World) : Calls Try.prog 30 #[.slice A n c, .slice B m d] w fun e w' => e = .returned (.bool (fewB2 n m)) ∧ w = w' := by
  by_cases h0 : n ≤ 40
  · by_cases h1 : m ≤ 40
    · have HF : Hid (fewB2 n m = true) := Lib.hid (decide_eq_true ⟨h0, h1⟩)
      have h0' : (n : Int) ≤ 40 := by omega
      have h1' : (m : Int) ≤ 40 := by omega
      go_enter Try.func30, Try.ntmps30
      go_wp2
      go_ret
      exact ⟨retBo (by rw [HF.out]), rfl⟩
    · have HF : Hid (fewB2 n m = false) := Lib.hid (decide_eq_false (fun h => h1 h.2))
      have h0' : (n : Int) ≤ 40 := by omega
      have h1' : ¬ (m : Int) ≤ 40 := by omega
      go_enter Try.func30, Try.ntmps30
      go_wp2
      go_ret
      exact ⟨retBo (by rw [HF.out]), rfl⟩
  · have HF : Hid (fewB2 n m = false) := Lib.hid (decide_eq_false (fun h => h0 h.1))
    have h0' : ¬ (n : Int) ≤ 40 := by omega
    go_enter Try.func30, Try.ntmps30
    go_wp2
    go_ret
    exact ⟨retBo (by rw [HF.out]), rfl⟩

theorem grow_msg (n : Nat) (w : World) (hn : n ≤ 1000000) :
    Calls Try.prog 85 #[.slice none 0 0, .int .i64 n] w fun e w' => ∃ A c, e = .returned (.slice A 0 c) ∧ ownM w' w.heap.size A 0 c [] ∧ Below w.heap.size w w' := by
  by_cases h0 : n = 0
  · subst h0
    go_enter Try.func85, Try.ntmps85
    go_wp2
    go_ret
    exact ⟨none, 0, rfl, ⟨rfl, .inl ⟨rfl, rfl⟩⟩, Below.refl _ _⟩
  · obtain ⟨i0, hi0, hz0, hz1, hz2⟩ := info_parts1 msg_info
    have hpos : (0 : Int) < (n : Int) := by omega
    have hneg : ¬ ((n : Int) < 0) := by omega
    have hap := fun ty => Lib.run_append_grow_zeros (P := Try.prog) w 35 3 ty 42 i0 zeroMsgA .i64 .i64 Try.underlying35 Try.underlying3 hi0 hz0 none 0 0 [] (run_firstCells_none _ _ _ _ _) n (by omega) (by omega) (by omega) (by omega) (by rw [hz2]; omega) (by rw [hz2]; exact growslice_fits (by omega) (by omega))
    rw [Nat.zero_add] at hap
    obtain ⟨G, hG⟩ : ∃ G, G = grownCap w n 0 42 := ⟨_, rfl⟩
    obtain ⟨ROW, hROW⟩ : ∃ ROW : Array Value, ROW = ([] : List Value).toArray ++ Builtin.zeroCells zeroMsgA.cells n ++ Builtin.zeroCells zeroMsgA.cells (G - n) := ⟨_, rfl⟩
    rw [← hG, ← hROW] at hap
    have hGn : n ≤ G := by rw [hG]; exact grownCap_ge w _ _ _
    have hGm : G ≤ maxLen := by rw [hG]; exact grownCap_le_maxLen w _ _ _ (by unfold maxLen; omega)
    have hRs : ROW.size = G * 3 := by
      rw [hROW, Array.size_append, Array.size_append, size_zeroCells, size_zeroCells, List.size_toArray]
      show 0 + n * 3 + (G - n) * 3 = G * 3
      omega
    have hfin : Hid (ownM (w.drew.alloc (.cells ROW 42)) w.heap.size (some ⟨w.heap.size, 0, none⟩) 0 G []) :=
      Lib.hid ⟨rfl, .inr ⟨w.heap.size, G, ROW, rfl, Nat.le_refl _, heap_alloc_new w.drew _, Nat.zero_le _, hGm, hRs, by simp [flatC]⟩⟩
    have hbel : Hid (Below w.heap.size w (w.drew.alloc (.cells ROW 42))) := Lib.hid ((Below.drew (Below.refl _ _)).alloc (Nat.le_refl _) _)
    have hGm' : (G : Int) ≤ 9223372036854775807 := by unfold maxLen at hGm; omega
    have HAP := Lib.hid hap
    clear hap hROW hG hRs hz0 hz2
    have hap' := HAP.out
    go_enter Try.func85, Try.ntmps85
    go_wp2_with (at_builtin; refine wpList_append_eq _ rfl _ _ _ _ rfl _ _ rfl rfl (hap' _) ?_)
    go_wp2
    go_ret
    exact ⟨some ⟨w.heap.size, 0, none⟩, G, rfl, hfin.out, hbel.out⟩
theorem app_msgs (base : Nat) (B : Option Addr) (n d : Nat) (xs : List Msg) (w : World) (hown : ownM w base B n d xs) (A : Option Addr) (m c : Nat) (l : List Msg) (h : Ms w A m c l) (hn : n + m ≤ 1000000) (hb : base ≤ w.heap.size) :
    ∃ B' d' w', (Builtin.append_ #[35, 35] 35 #[.slice B n d, .slice A m c]).run Try.prog w = .ok (.slice B' (n + m) d') w' ∧ ownM w' base B' (n + m) d' (xs ++ l) ∧ Below base w w' := by
  obtain ⟨i0, hi0, hz0, hz1, hz2⟩ := info_parts1 msg_info
  obtain ⟨B', d', w', h1, h2, h3, _⟩ := app_rows msg_len (by omega) msg_one Try.underlying35 hi0 hz0 hz1 hz2 rfl (by omega) base B n d xs w hown A m c l h.row hn hb
  exact ⟨B', d', w', h1, h2, h3⟩
/-- How a call ends that makes a row of its own. -/
def OwnEndM (l : List Msg) (w : World) (e : Ending) (w' : World) : Prop := ∃ A c, e = .returned (.slice A l.length c) ∧ ownM w' w.heap.size A l.length c l ∧ Below w.heap.size w w'
def upM (l0 l1 : List Msg) : Nat → List Msg
  | 0 => []
  | 1 => l0
  | _ => l0 ++ l1
theorem concat_msg (B : Nat) (A0 : Option Addr) (n0 c0 : Nat) (l0 : List Msg) (A1 : Option Addr) (n1 c1 : Nat) (l1 : List Msg) (w : World) (hB : Own w B 35 #[.slice A0 n0 c0, .slice A1 n1 c1]) (h0 : Ms w A0 n0 c0 l0) (h1 : Ms w A1 n1 c1 l1) (hn : n0 + n1 ≤ 100000) :
    Calls Try.prog 64 #[.slice (some ⟨B, 0, none⟩) 2 2] w (OwnEndM (l0 ++ l1) w) := by
  have hlt := hB.lt
  have p0 : w.cell? ⟨B, 0, none⟩ = some (.slice A0 n0 c0) := hB.cell 0 _ rfl
  have p1 : w.cell? ⟨B, 1, none⟩ = some (.slice A1 n1 c1) := hB.cell 1 _ rfl
  have H0 := Lib.hid h0; have H1 := Lib.hid h1
  have L0 := Lib.hid h0.len; have L1 := Lib.hid h1.len
  clear h0 h1 hB
  go_enter Try.func64, Try.ntmps64
  go_wp2
  go_loop [3, 11] (fun z i => ∃ k : Nat, k ≤ 2 ∧ i = .int .i64 k ∧ z = .int .i64 ((if k = 0 then 0 else if k = 1 then n0 else n0 + n1 : Nat) : Int)) (fun _ i => 2 - (intOf i).toNat)
  case atStart => exact ⟨0, by omega, rfl, rfl⟩
  case round =>
    obtain ⟨k, hk, rfl, rfl⟩ := hrel
    match k, hk with
    | 0, _ =>
      go_wp2
      go_round
      case rel => exact ⟨1, by omega, rfl, by simp⟩
      case measure => simp [intOf]
    | 1, _ =>
      go_wp2
      go_round
      case rel => exact ⟨2, by omega, rfl, by simp⟩
      case measure => simp [intOf]
    | 2, _ =>
      go_wp2_with fail
      refine (grow_msg (n0 + n1) w (by omega)).mono ?_; rintro e w1 ⟨A, c, rfl, hown, hb⟩
      have O1 := Lib.hid hown; have B1 := Lib.hid hb
      clear hown hb
      go_wp2
      go_loopw [6, 27] (fun v i wr => ∃ (k : Nat) (A : Option Addr) (c : Nat), k ≤ 2 ∧ i = .int .i64 k ∧ v = .slice A (upM l0 l1 k).length c ∧ ownM wr w.heap.size A (upM l0 l1 k).length c (upM l0 l1 k) ∧ Below w.heap.size w wr) (fun _ i _ => 2 - (intOf i).toNat)
      case atStart => exact ⟨0, A, c, by omega, rfl, rfl, O1.out, B1.out⟩
      case round =>
        obtain ⟨k, A2, c2, hk, rfl, rfl, hown, hbel⟩ := hrel
        have HO := Lib.hid hown; have HBEL := Lib.hid hbel
        have q0 := (hbel.cell (p := ⟨B, 0, none⟩) hlt).trans p0
        have q1 := (hbel.cell (p := ⟨B, 1, none⟩) hlt).trans p1
        have e0 := H0.out.keep hbel
        have e1 := H1.out.keep hbel
        clear hown hbel
        match k, hk with
        | 0, _ =>
          obtain ⟨A3, c3, w', hr, hown', hbel'⟩ := app_msgs w.heap.size A2 _ c2 (upM l0 l1 0) wr HO.out A0 n0 c0 l0 e0 (by show 0 + n0 ≤ 1000000; omega) HBEL.out.size
          have hsz : (upM l0 l1 0).length + n0 = (upM l0 l1 1).length := by rw [← L0.out]; simp [upM]
          rw [hsz] at hr hown'
          have HO2 : Hid (ownM w' w.heap.size A3 (upM l0 l1 1).length c3 (upM l0 l1 1)) := Lib.hid (by simpa [upM] using hown')
          have HB2 := Lib.hid (HBEL.out.trans hbel')
          clear hown' hbel' e0 e1 hsz
          go_wp2_with (at_builtin; refine wpList_append_eq _ rfl (.tmp 31) (.tmp 32) _ _ rfl _ _ rfl rfl hr ?_)
          go_roundw
          case rel => exact ⟨1, A3, c3, by omega, rfl, rfl, HO2.out, HB2.out⟩
          case measure => simp [intOf]
        | 1, _ =>
          obtain ⟨A3, c3, w', hr, hown', hbel'⟩ := app_msgs w.heap.size A2 _ c2 (upM l0 l1 1) wr HO.out A1 n1 c1 l1 e1 (by show l0.length + n1 ≤ 1000000; rw [L0.out]; omega) HBEL.out.size
          have hsz : (upM l0 l1 1).length + n1 = (upM l0 l1 2).length := by rw [← L1.out]; simp [upM]
          rw [hsz] at hr hown'
          have HO2 : Hid (ownM w' w.heap.size A3 (upM l0 l1 2).length c3 (upM l0 l1 2)) := Lib.hid (by simpa [upM] using hown')
          have HB2 := Lib.hid (HBEL.out.trans hbel')
          clear hown' hbel' e0 e1 hsz
          go_wp2_with (at_builtin; refine wpList_append_eq _ rfl (.tmp 31) (.tmp 32) _ _ rfl _ _ rfl rfl hr ?_)
          go_roundw
          case rel => exact ⟨2, A3, c3, by omega, rfl, rfl, HO2.out, HB2.out⟩
          case measure => simp [intOf]
        | 2, _ =>
          clear e0 e1
          go_wp2
          go_ret
          exact ⟨A2, c2, rfl, HO.out, HBEL.out⟩
/-- How a call ends that tells a row and an error; a message besides. -/
def MsEnd (l : List Msg) (er : Int) (w : World) (e : Ending) (w' : World) : Prop := ∃ A n c, e = .returned (.tuple #[.slice A n c, .int .i64 er]) ∧ Ms w' A n c l ∧ Below w.heap.size w w'
theorem MsEnd.mk {l l2 : List Msg} {er er2 : Int} {w : World} {e : Ending} {w' : World} {A : Option Addr} {n c : Nat} (h1 : l = l2) (h2 : er = er2) (he : e = .returned (.tuple #[.slice A n c, .int .i64 er2])) (hs : Ms w' A n c l2) (hb : Below w.heap.size w w') : MsEnd l er w e w' := by
  subst h1 h2; exact ⟨A, n, c, he, hs, hb⟩
theorem with_any (A : Option Addr) (n c : Nat) (b : List Msg) (B : Option Addr) (m d : Nat) (l : List Msg) (w : World) (h : Ms w A n c b) (g : Ms w B m d l) (hn : n ≤ 1000) (hm : m ≤ 1000) :
    Calls Try.prog 61 #[.slice A n c, .slice B m d] w (MsEnd (if n + m ≤ 16 then b ++ l else b) (if n + m ≤ 16 then 0 else 4) w) := by
  have H := Lib.hid h; have G := Lib.hid g
  have HL := Lib.hid h.len; have GL := Lib.hid g.len
  clear h g
  by_cases hs : n + m ≤ 16
  · have hs' : (n : Int) + (m : Int) ≤ 16 := by omega
    have hO := own_new w #[.slice A n c, .slice B m d] 35
    have cC := Lib.hid (concat_msg w.heap.size A n c b B m d l (w.alloc (.cells #[.slice A n c, .slice B m d] 35)) hO (H.out.keep (new1 w _)) (G.out.keep (new1 w _)) (by omega))
    clear hO
    rw [if_pos hs, if_pos hs]
    go_enter Try.func61, Try.ntmps61
    go_wp2_with fail
    refine cC.out.mono ?_; rintro e w1 ⟨A2, c2, rfl, hown, hb⟩
    have HO := Lib.hid (ownM_ms hown)
    have HB := Lib.hid (then_ (new1 w _) hb); clear hown hb
    go_wp2
    refine bodyPost_ret (v := .tuple #[.slice A2 (b ++ l).length c2, .int .i64 0]) (by simp [results, Try.results61, go_sem]) rfl (MsEnd.mk rfl rfl rfl HO.out HB.out)
  · have hs' : ¬ ((n : Int) + (m : Int) ≤ 16) := by omega
    rw [if_neg hs, if_neg hs]
    go_enter Try.func61, Try.ntmps61
    go_wp2
    refine bodyPost_ret (v := .tuple #[.slice A n c, .int .i64 4]) (by simp [results, Try.results61, go_sem]) rfl (MsEnd.mk rfl rfl rfl H.out (Below.refl _ _))
theorem put_any (A : Option Addr) (n c : Nat) (b : List Msg) (B : Option Addr) (m d : Nat) (l : List Msg) (w : World) (h : Ms w A n c b) (g : Ms w B m d l) (hn : n ≤ 1000) (hm : m ≤ 1000) :
    Calls Try.prog 32 #[.slice A n c, .slice B m d] w (MsEnd (putL b l) (putE b l) w) := by
  have H := Lib.hid h; have G := Lib.hid g
  have HL := h.len; have GL := g.len
  clear h g
  cases ha : allM l with
  | true =>
    have HE : Hid (putE b l = if n + m ≤ 16 then 0 else 4) := Lib.hid (by unfold putE; rw [if_pos ha, HL, GL])
    have HP : Hid (putL b l = if n + m ≤ 16 then b ++ l else b) := Lib.hid (by unfold putL; rw [HE.out]; split <;> simp)
    have cM := Lib.hid (mayAll_any B m d l w G.out)
    have cW : Hid (∀ w1, Ms w1 A n c b → Ms w1 B m d l → Calls Try.prog 61 #[.slice A n c, .slice B m d] w1 (MsEnd (putL b l) (putE b l) w1)) := Lib.hid (fun w1 k1 k2 => by rw [HP.out, HE.out]; exact with_any A n c b B m d l w1 k1 k2 hn hm)
    rw [ha] at cM
    clear ha HL GL HE HP
    generalize putE b l = er at *
    generalize putL b l = ll at *
    go_enter Try.func32, Try.ntmps32
    go_wp2_with fail
    refine cM.out.mono ?_; rintro e w1 ⟨rfl, hb⟩
    have B1 := Lib.hid hb
    have K1 := Lib.hid (H.out.keep hb); have K2 := Lib.hid (G.out.keep hb); clear hb
    go_wp2_with fail
    refine (cW.out w1 K1.out K2.out).mono ?_; rintro e w2 ⟨A2, n2, c2, rfl, hk, hb⟩
    have B2 := Lib.hid (then_ B1.out hb); have K := Lib.hid hk; clear hb hk
    go_wp2
    refine bodyPost_ret (v := .tuple #[.slice A2 n2 c2, .int .i64 er]) (by simp [results, Try.results32, go_sem]) rfl (MsEnd.mk rfl rfl rfl K.out B2.out)
  | false =>
    have HE : Hid (putE b l = 1) := Lib.hid (by unfold putE; rw [ha]; rfl)
    have HP : Hid (putL b l = b) := Lib.hid (put_err (by rw [HE.out]; decide))
    have cM := Lib.hid (mayAll_any B m d l w G.out)
    rw [ha] at cM
    clear ha HL GL
    go_enter Try.func32, Try.ntmps32
    go_wp2_with fail
    refine cM.out.mono ?_; rintro e w1 ⟨rfl, hb⟩
    have B1 := Lib.hid hb
    have K1 := Lib.hid (H.out.keep hb); clear hb
    go_wp2
    refine bodyPost_ret (v := .tuple #[.slice A n c, .int .i64 1]) (by simp [results, Try.results32, go_sem]) rfl (MsEnd.mk HP.out HE.out rfl K1.out B1.out)
theorem empty_own (w : World) : ownM (w.alloc (.cells #[] 42)) w.heap.size (some ⟨w.heap.size, 0, none⟩) 0 0 [] := World.ownsRow_made w #[] 0 (Nat.le_refl _) (Nat.zero_le _) rfl
theorem put_ref (A : Option Addr) (n c : Nat) (b : List Msg) (B : Option Addr) (m d : Nat) (l : List Msg) (w : World) (h : Ms w A n c b) (g : Ms w B m d l) (hn : n ≤ 1000) (hm : m ≤ 1000) :
    Calls Try.prog 33 #[.slice A n c, .slice B m d] w (MsEnd (putL b l) (putE b l) w) := by
  have H := Lib.hid h; have G := Lib.hid g
  have HL := h.len; have GL := g.len
  clear h g
  cases ha : allM l with
  | true =>
    by_cases hs : n + m ≤ 16
    · have HE : Hid (putE b l = 0) := Lib.hid (by unfold putE; rw [if_pos ha, HL, GL, if_pos hs])
      have HP : Hid (putL b l = b ++ l) := Lib.hid (put_ok HE.out)
      have cM := Lib.hid (each_any B m d l w G.out)
      have hs' : (n : Int) + (m : Int) ≤ 16 := by omega
      rw [ha] at cM
      clear ha HL GL
      go_enter Try.func33, Try.ntmps33
      go_wp2_with fail
      refine cM.out.mono ?_; rintro e w1 ⟨rfl, hb⟩
      have B1 := Lib.hid (then_ hb (new1 w1 (.cells #[] 42)))
      have S1 := Lib.hid hb.size
      have K1 := Lib.hid ((H.out.keep hb).keep (new1 w1 (.cells #[] 42))); clear hb
      obtain ⟨B3, d3, w3, hr1, o3, b3⟩ := app_msgs w1.heap.size _ 0 0 [] (w1.alloc (.cells #[] 42)) (empty_own w1) A n c b K1.out (by omega) (by simp)
      have HB3 := Lib.hid (B1.out.trans (b3.mono S1.out))
      have S3 : Hid (w1.heap.size ≤ w3.heap.size) := Lib.hid (by have := b3.size; simp at this; omega)
      rw [Nat.zero_add] at hr1 o3
      rw [List.nil_append] at o3
      obtain ⟨B4, d4, w4, hr2, o4, b4⟩ := app_msgs w1.heap.size B3 n d3 b w3 o3 B m d l (G.out.keep HB3.out) (by omega) S3.out
      have HB4 := Lib.hid (HB3.out.trans (b4.mono S1.out))
      have HO4 := Lib.hid (ownM_ms o4)
      clear o3 o4 b3 b4
      go_wp2_with (at_builtin; first | (refine wpList_append_eq _ rfl (.tmp 18) (.tmp 19) _ _ rfl _ _ rfl rfl hr1 ?_) | (refine wpList_append_eq _ rfl (.tmp 21) (.tmp 22) _ _ rfl _ _ rfl rfl hr2 ?_))
      refine bodyPost_ret (v := .tuple #[.slice B4 (n + m) d4, .int .i64 0]) (by simp [results, Try.results33, go_sem]) rfl (MsEnd.mk HP.out HE.out rfl HO4.out HB4.out)
    · have HE : Hid (putE b l = 4) := Lib.hid (by unfold putE; rw [if_pos ha, HL, GL, if_neg hs])
      have HP : Hid (putL b l = b) := Lib.hid (put_err (by rw [HE.out]; decide))
      have cM := Lib.hid (each_any B m d l w G.out)
      have hs' : ¬ ((n : Int) + (m : Int) ≤ 16) := by omega
      rw [ha] at cM
      clear ha HL GL
      go_enter Try.func33, Try.ntmps33
      go_wp2_with fail
      refine cM.out.mono ?_; rintro e w1 ⟨rfl, hb⟩
      have B1 := Lib.hid hb
      have K1 := Lib.hid (H.out.keep hb); clear hb
      go_wp2
      refine bodyPost_ret (v := .tuple #[.slice A n c, .int .i64 4]) (by simp [results, Try.results33, go_sem]) rfl (MsEnd.mk HP.out HE.out rfl K1.out B1.out)
  | false =>
    have HE : Hid (putE b l = 1) := Lib.hid (by unfold putE; rw [ha]; rfl)
    have HP : Hid (putL b l = b) := Lib.hid (put_err (by rw [HE.out]; decide))
    have cM := Lib.hid (each_any B m d l w G.out)
    rw [ha] at cM
    clear ha HL GL
    go_enter Try.func33, Try.ntmps33
    go_wp2_with fail
    refine cM.out.mono ?_; rintro e w1 ⟨rfl, hb⟩
    have B1 := Lib.hid hb
    have K1 := Lib.hid (H.out.keep hb); clear hb
    go_wp2
    refine bodyPost_ret (v := .tuple #[.slice A n c, .int .i64 1]) (by simp [results, Try.results33, go_sem]) rfl (MsEnd.mk HP.out HE.out rfl K1.out B1.out)
end Go.Proofs.Ytdmhpnobdflkfaa.P
