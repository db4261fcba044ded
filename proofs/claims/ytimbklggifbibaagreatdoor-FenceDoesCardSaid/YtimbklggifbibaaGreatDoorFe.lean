/- Layer 20: rows of writes, and resources; whether two are the same; rows one behind the other. -/
import Derived.Test.YtimbklggifbibaaGreatDoorFePure
import Derived.Test.YtimbklggifbibaaGreatDoorGenInts
import Derived.BigQuiet
import Derived.Lib.QuietBelow
import Derived.Deep.QuietTactic
import Derived.WalkSmall
import Derived.WalkSpells
import Derived.WalkLawsBesides
import Derived.Laws.StructEq
import Derived.Lib.AppendZerosOnto
namespace Go.Proofs.YtimbklggifbibaaGreatDoor.P
open Go.RowKit Go.Sort
set_option maxHeartbeats 1000000
set_option linter.unusedVariables false
set_option linter.unusedSimpArgs false
set_option maxRecDepth 100000

theorem retB' {a b : Bool} (h : a = b) : Ending.returned (.bool a) = .returned (.bool b) := by rw [h]
theorem Own.bel {w w' : World} {g : Nat} {t : TypeId} {cs : Array Value} (h : Own w g t cs) (hb : Below w.heap.size w w') : Own w' g t cs := ⟨(hb.block _ h.lt).trans h.ex⟩
theorem own_nxt (w : World) (o : Obj) (cs : Array Value) (t : TypeId) : Own ((w.alloc o).alloc (.cells cs t)) (w.heap.size + 1) t cs := by
  have h := own_new (w.alloc o) cs t
  rwa [show (w.alloc o).heap.size = w.heap.size + 1 by simp] at h
abbrev Ac.arr (x : Ac) : Array Value := #[.int .i64 x.who, .int .i64 x.tok, .string x.val]
abbrev Ac.agg (x : Ac) : Value := .agg #[.int .i64 x.who, .int .i64 x.tok, .string x.val]
def Ac.cells (x : Ac) : List Value := [.int .i64 x.who, .int .i64 x.tok, .string x.val]
theorem ac_len (x : Ac) : x.cells.length = 3 := rfl
theorem ac_one (x : Ac) : ∀ v ∈ x.cells, v.oneCell' = true := by intro v h; simp [Ac.cells] at h; rcases h with rfl | rfl | rfl <;> rfl
abbrev zeroAcV : Value := .agg #[.int .i64 0, .int .i64 0, .string ⟨#[]⟩]
theorem ac_info : (Tryz.prog.info? 46).map (fun i => (i.zero, i.size, i.bytes)) = some (some zeroAcV, 3, 32) := by kernel_rfl
structure AtA (w : World) (p : Addr) (x : Ac) : Prop where
  c0 : w.cell? p = some (.int .i64 x.who)
  c1 : w.cell? ⟨p.block, p.off + 1, none⟩ = some (.int .i64 x.tok)
  c2 : w.cell? ⟨p.block, p.off + 2, none⟩ = some (.string x.val)
structure Acs (w : World) (A : Option Addr) (n c : Nat) (l : List Ac) : Prop where
  row : RowsOf Ac.cells 3 w A n c l
theorem Acs.keep {w w' : World} {A : Option Addr} {n c : Nat} {l : List Ac} (h : Acs w A n c l) (hb : Below w.heap.size w w') : Acs w' A n c l := ⟨h.row.below hb⟩
theorem Acs.len {w : World} {A : Option Addr} {n c : Nat} {l : List Ac} (h : Acs w A n c l) : l.length = n := h.row.len
theorem Acs.at_ {w : World} {A : Option Addr} {n c k : Nat} {l : List Ac} (h : Acs w A n c l) (hk : k < n) : ∃ a x, A = some a ∧ a.block < w.heap.size ∧ l[k]? = some x ∧ AtA w (a.add (k * 3)) x := by
  obtain ⟨a, x, e, hb, hx, hl⟩ := h.row.at_ hk
  exact ⟨a, x, e, hb, hx, ⟨hl 0 _ rfl, hl 1 _ rfl, hl 2 _ rfl⟩⟩
theorem Acs.bare (w : World) : Acs w none 0 0 [] := ⟨RowsOf.bare w⟩
abbrev ownA (w : World) (base : Nat) (A : Option Addr) (n c : Nat) (l : List Ac) : Prop := ownG Ac.cells 3 46 w base A n c l
theorem ownA_acs {w : World} {base n c : Nat} {A : Option Addr} {l : List Ac} (h : ownA w base A n c l) : Acs w A n c l := ⟨ownG_rows ac_len (by omega) h⟩
abbrev Rs.arr (r : Rs) (A : Option Addr) (n c : Nat) : Array Value := #[.int .i64 r.high, .string r.val, .slice A n c]
abbrev Rs.agg (r : Rs) (A : Option Addr) (n c : Nat) : Value := .agg #[.int .i64 r.high, .string r.val, .slice A n c]
structure RsAt (w : World) (r : Rs) (A : Option Addr) (n c : Nat) : Prop where
  high : inI r.high
  val : r.val.size ≤ maxLen
  log : Acs w A n c r.log
theorem RsAt.keep {w w' : World} {r : Rs} {A : Option Addr} {n c : Nat} (h : RsAt w r A n c) (hb : Below w.heap.size w w') : RsAt w' r A n c := ⟨h.high, h.val, h.log.keep hb⟩
theorem RsAt.len {w : World} {r : Rs} {A : Option Addr} {n c : Nat} (h : RsAt w r A n c) : r.log.length = n := h.log.len
theorem rz_at (w : World) : RsAt w zeroRs none 0 0 := ⟨⟨by simp [zeroRs], by simp [zeroRs]⟩, Nat.zero_le _, Acs.bare w⟩
theorem bite_last (p : Prop) [Decidable p] (w : World) : (if p then Result.ok (Value.bool true) w else Result.ok (Value.bool false) w) = Result.ok (Value.bool (decide p)) w := by by_cases h : p <;> simp [h]
theorem bite_more (p : Prop) [Decidable p] (q : Bool) (w : World) : (if p then Result.ok (Value.bool q) w else Result.ok (Value.bool false) w) = Result.ok (Value.bool (decide p && q)) w := by by_cases h : p <;> simp [h]
theorem eql_ac (a b : Ac) (w : World) : (binOp .eql 46 a.agg b.agg).run Tryz.prog w = .ok (.bool (acEq a b)) w := by
  simp [go_sem, Tryz.underlying46]
  rw [bite_last, bite_more, bite_more]
  rfl
theorem neq_ac (a b : Ac) (w : World) : (binOp .neq 46 a.agg b.agg).run Tryz.prog w = .ok (.bool (!acEq a b)) w := by
  have h := eql_ac a b w
  simp [go_sem, Tryz.underlying46] at h ⊢
  unfold acEq
  by_cases h0 : a.who = b.who <;> by_cases h1 : a.tok = b.tok <;> by_cases h2 : a.val.toList = b.val.toList <;> simp [h0, h1, h2]
structure EqTo (l m : List Ac) (k : Nat) : Prop where
  eq : l.take k = m.take k
theorem EqTo.more {l m : List Ac} {k : Nat} {x y : Ac} (h : EqTo l m k) (hx : l[k]? = some x) (hy : m[k]? = some y) (e : acEq x y = true) : EqTo l m (k + 1) := ⟨by
  rw [take_snoc' l k x hx, take_snoc' m k y hy, h.eq, acEq_iff.1 e]⟩
theorem EqTo.bad {l m : List Ac} {k : Nat} {x y : Ac} (hx : l[k]? = some x) (hy : m[k]? = some y) (e : acEq x y = false) : l ≠ m := (fun h => by
  subst h
  rw [hx] at hy
  injection hy with hy
  subst hy
  rw [acEq_self] at e; cases e)
theorem EqTo.done {l m : List Ac} (h : EqTo l m l.length) (e : m.length = l.length) : l = m := (by
  have := h.eq
  rwa [List.take_length, ← e, List.take_length] at this)
theorem sameR_no {a b : Rs} (h : a ≠ b) : sameR a b = false := by
  cases hs : sameR a b with
  | false => rfl
  | true => exact absurd (sameR_iff.1 hs) h
theorem samer_any (r s : Rs) (A B : Option Addr) (n c m d : Nat) (w : World) (h : RsAt w r A n c) (g : RsAt w s B m d) (hm : n ≤ 1000000) :
    Calls Tryz.prog 7 #[r.agg A n c, s.agg B m d] w fun e w' => e = .returned (.bool (sameR r s)) ∧ Below w.heap.size w w' := by
  obtain ⟨hi, va, l⟩ := r
  obtain ⟨hj, vb, k⟩ := s
  have b1 := Lib.hid (new1 w (.cells #[.int .i64 hi, .string va, .slice A n c] 24))
  have b2 := Lib.hid (then_ b1.out (new1 (w.alloc (.cells #[.int .i64 hi, .string va, .slice A n c] 24)) (.cells #[.int .i64 hj, .string vb, .slice B m d] 24)))
  have H := Lib.hid (h.log.keep b2.out)
  have G := Lib.hid (g.log.keep b2.out)
  have HL : Hid (l.length = n) := Lib.hid h.log.len
  have GL : Hid (k.length = m) := Lib.hid g.log.len
  clear h g
  by_cases h1 : hi = hj
  · subst h1
    by_cases h2 : va = vb
    · subst h2
      by_cases hnm : n = m
      · subst hnm
        have N1 := Lib.hid ((own_new w #[.int .i64 hi, .string va, .slice A n c] 24).alloc (.cells #[.int .i64 hi, .string va, .slice B n d] 24))
        have N2 := Lib.hid (own_nxt w (.cells #[.int .i64 hi, .string va, .slice A n c] 24) #[.int .i64 hi, .string va, .slice B n d] 24)
        go_enter Tryz.func7, Tryz.ntmps7
        go_wp2
        generalize hW : ((w.alloc (.cells #[.int .i64 hi, .string va, .slice A n c] 24)).alloc (.cells #[.int .i64 hi, .string va, .slice B n d] 24)) = w2 at *
        clear hW
        have q2 := N1.out.cell 2 _ rfl
        have p2 := N2.out.cell 2 _ rfl
        go_loopw [5] (fun i wr => ∃ j q : Nat, j ≤ n ∧ i = .int .i64 j ∧ wr = w2.drewN q ∧ EqTo l k j) (fun i _ => n - (intOf i).toNat)
        case atStart => exact ⟨0, 0, Nat.zero_le _, rfl, rfl, ⟨rfl⟩⟩
        case round =>
          obtain ⟨j, q, hj, rfl, rfl, heq⟩ := hrel
          have HE := Lib.hid heq
          clear heq
          by_cases hlt : j < n
          · obtain ⟨a, x, rfl, hbl, hx, hc⟩ := H.out.at_ hlt
            obtain ⟨b, y, rfl, gbl, hy, gc⟩ := G.out.at_ hlt
            obtain ⟨c0, c1, c2⟩ := hc
            obtain ⟨d0, d1, d2⟩ := gc
            have hne := neq_ac x y
            have HX := Lib.hid hx; have HY := Lib.hid hy
            have i0 : (0 : Int) ≤ (j : Int) := by omega
            have i1 : (j : Int) < (n : Int) := by omega
            clear hx hy hbl gbl
            cases he : acEq x y with
            | true =>
              have HM := Lib.hid (HE.out.more HX.out HY.out he)
              rw [he] at hne
              clear he
              go_wp2
              go_quiet (fail)
              go_wp2
              go_roundw
              case rel => exact ⟨j + 1, _, by omega, by go_num, rfl, HM.out⟩
              case measure => simp [intOf]; omega
            | false =>
              have HF := Lib.hid (EqTo.bad HX.out HY.out he)
              rw [he] at hne
              clear he
              go_wp2
              go_quiet (fail)
              go_wp2
              go_ret
              exact ⟨retB' (sameR_no (fun e => HF.out (Rs.mk.inj e).2.2)).symm, below_drewN (below_drewN b2.out _) _⟩
          · obtain rfl : j = n := by omega
            have HF := Lib.hid (EqTo.done (by rw [HL.out]; exact HE.out) (by rw [HL.out, GL.out]))
            go_wp2
            go_ret
            exact ⟨retB' (by rw [HF.out, sameR_self]), below_drewN b2.out _⟩
      · have HF : Hid (l ≠ k) := Lib.hid (fun h => hnm (by rw [← HL.out, ← GL.out, h]))
        have hne : ¬ ((n : Int) = (m : Int)) := by omega
        go_enter Tryz.func7, Tryz.ntmps7
        go_wp2
        go_ret
        exact ⟨retB' (sameR_no (fun e => HF.out (Rs.mk.inj e).2.2)).symm, b2.out⟩
    · have HF := Lib.hid h2
      have h3 : ¬ va.toList = vb.toList := fun e => h2 (bytes_ext e)
      clear h2
      go_enter Tryz.func7, Tryz.ntmps7
      go_wp2
      go_ret
      exact ⟨retB' (sameR_no (fun e => HF.out (Rs.mk.inj e).2.1)).symm, b2.out⟩
  · have HF := Lib.hid h1
    go_enter Tryz.func7, Tryz.ntmps7
    go_wp2
    go_ret
    exact ⟨retB' (sameR_no (fun e => HF.out (Rs.mk.inj e).1)).symm, b2.out⟩
theorem one_any (x : Ac) (w : World) : Calls Tryz.prog 35 #[.int .i64 x.who, .int .i64 x.tok, .string x.val] w fun e w' => e = .returned (.bool (oneB x)) ∧ w = w' := by
  obtain ⟨who, tok, val⟩ := x
  have HI : Hid (oneB ⟨who, tok, val⟩ = true ↔ _) := Lib.hid (oneB_iff (x := ⟨who, tok, val⟩))
  have no : Hid (¬ (1 ≤ tok ∧ tok ≤ 1099511627775 ∧ 0 ≤ who ∧ who ≤ 1099511627775 ∧ val.size ≤ 20) → oneB ⟨who, tok, val⟩ = false) := Lib.hid (fun h => by
    cases ho : oneB ⟨who, tok, val⟩ with
    | false => rfl
    | true => exact absurd (HI.out.1 ho) h)
  by_cases h1 : 1 ≤ tok
  · by_cases h2 : tok ≤ 1099511627775
    · by_cases h3 : 0 ≤ who
      · by_cases h4 : who ≤ 1099511627775
        · by_cases h5 : val.size ≤ 20
          · have HE := Lib.hid (HI.out.2 ⟨h1, h2, h3, h4, h5⟩)
            have h5' : (val.size : Int) ≤ 20 := by omega
            go_enter Tryz.func35, Tryz.ntmps35
            go_wp2
            go_ret
            exact ⟨retB' (by rw [HE.out]), rfl⟩
          · have HE := Lib.hid (no.out (fun h => h5 h.2.2.2.2))
            have h5' : ¬ (val.size : Int) ≤ 20 := by omega
            go_enter Tryz.func35, Tryz.ntmps35
            go_wp2
            go_ret
            exact ⟨retB' (by rw [HE.out]), rfl⟩
        · have HE := Lib.hid (no.out (fun h => h4 h.2.2.2.1))
          go_enter Tryz.func35, Tryz.ntmps35
          go_wp2
          go_ret
          exact ⟨retB' (by rw [HE.out]), rfl⟩
      · have HE := Lib.hid (no.out (fun h => h3 h.2.2.1))
        go_enter Tryz.func35, Tryz.ntmps35
        go_wp2
        go_ret
        exact ⟨retB' (by rw [HE.out]), rfl⟩
    · have HE := Lib.hid (no.out (fun h => h2 h.2.1))
      go_enter Tryz.func35, Tryz.ntmps35
      go_wp2
      go_ret
      exact ⟨retB' (by rw [HE.out]), rfl⟩
  · have HE := Lib.hid (no.out (fun h => h1 h.1))
    go_enter Tryz.func35, Tryz.ntmps35
    go_wp2
    go_ret
    exact ⟨retB' (by rw [HE.out]), rfl⟩
theorem grow_ac (n : Nat) (w : World) (hn : n ≤ 1000000) :
    Calls Tryz.prog 38 #[.slice none 0 0, .int .i64 n] w fun e w' => ∃ A c, e = .returned (.slice A 0 c) ∧ ownA w' w.heap.size A 0 c [] ∧ Below w.heap.size w w' := by
  by_cases h0 : n = 0
  · subst h0
    go_enter Tryz.func38, Tryz.ntmps38
    go_wp2
    go_ret
    exact ⟨none, 0, rfl, ⟨rfl, .inl ⟨rfl, rfl⟩⟩, Below.refl _ _⟩
  · obtain ⟨i0, hi0, hz0, hz1, hz2⟩ := info_parts1 ac_info
    have hpos : (0 : Int) < (n : Int) := by omega
    have hneg : ¬ ((n : Int) < 0) := by omega
    have hap := fun ty => Lib.run_append_grow_zeros (P := Tryz.prog) w 22 3 ty 46 i0 zeroAcV .i64 .i64 Tryz.underlying22 Tryz.underlying3 hi0 hz0 none 0 0 [] (run_firstCells_none _ _ _ _ _) n (by omega) (by omega) (by omega) (by omega) (by rw [hz2]; omega) (by rw [hz2]; exact growslice_fits (by omega) (by omega))
    rw [Nat.zero_add] at hap
    obtain ⟨G, hG⟩ : ∃ G, G = grownCap w n 0 46 := ⟨_, rfl⟩
    obtain ⟨ROW, hROW⟩ : ∃ ROW : Array Value, ROW = ([] : List Value).toArray ++ Builtin.zeroCells zeroAcV.cells n ++ Builtin.zeroCells zeroAcV.cells (G - n) := ⟨_, rfl⟩
    rw [← hG, ← hROW] at hap
    have hGn : n ≤ G := by rw [hG]; exact grownCap_ge w _ _ _
    have hGm : G ≤ maxLen := by rw [hG]; exact grownCap_le_maxLen w _ _ _ (by unfold maxLen; omega)
    have hRs : ROW.size = G * 3 := by
      rw [hROW, Array.size_append, Array.size_append, size_zeroCells, size_zeroCells, List.size_toArray]
      show 0 + n * 3 + (G - n) * 3 = G * 3
      omega
    have hfin : Hid (ownA (w.drew.alloc (.cells ROW 46)) w.heap.size (some ⟨w.heap.size, 0, none⟩) 0 G []) :=
      Lib.hid ⟨rfl, .inr ⟨w.heap.size, G, ROW, rfl, Nat.le_refl _, heap_alloc_new w.drew _, Nat.zero_le _, hGm, hRs, by simp [flatC]⟩⟩
    have hbel : Hid (Below w.heap.size w (w.drew.alloc (.cells ROW 46))) := Lib.hid ((Below.drew (Below.refl _ _)).alloc (Nat.le_refl _) _)
    have hGm' : (G : Int) ≤ 9223372036854775807 := by unfold maxLen at hGm; omega
    have HAP := Lib.hid hap
    clear hap hROW hG hRs hz0 hz2
    have hap' := HAP.out
    go_enter Tryz.func38, Tryz.ntmps38
    go_wp2_with (at_builtin; refine wpList_append_eq _ rfl _ _ _ _ rfl _ _ rfl rfl (hap' _) ?_)
    go_wp2
    go_ret
    exact ⟨some ⟨w.heap.size, 0, none⟩, G, rfl, hfin.out, hbel.out⟩
theorem app_acs (base : Nat) (B : Option Addr) (n d : Nat) (xs : List Ac) (w : World) (hown : ownA w base B n d xs) (A : Option Addr) (m c : Nat) (l : List Ac) (h : Acs w A m c l) (hn : n + m ≤ 1000000) (hb : base ≤ w.heap.size) :
    ∃ B' d' w', (Builtin.append_ #[22, 22] 22 #[.slice B n d, .slice A m c]).run Tryz.prog w = .ok (.slice B' (n + m) d') w' ∧ ownA w' base B' (n + m) d' (xs ++ l) ∧ Below base w w' := by
  obtain ⟨i0, hi0, hz0, hz1, hz2⟩ := info_parts1 ac_info
  obtain ⟨B', d', w', h1, h2, h3, _⟩ := app_rows ac_len (by omega) ac_one Tryz.underlying22 hi0 hz0 hz1 hz2 rfl (by omega) base B n d xs w hown A m c l h.row hn hb
  exact ⟨B', d', w', h1, h2, h3⟩
/-- How a call ends that makes a row of its own. -/
def OwnEndA (l : List Ac) (w : World) (e : Ending) (w' : World) : Prop := ∃ A c, e = .returned (.slice A l.length c) ∧ ownA w' w.heap.size A l.length c l ∧ Below w.heap.size w w'
def upA (l0 l1 : List Ac) : Nat → List Ac
  | 0 => []
  | 1 => l0
  | _ => l0 ++ l1
theorem concat_ac (B : Nat) (A0 : Option Addr) (n0 c0 : Nat) (l0 : List Ac) (A1 : Option Addr) (n1 c1 : Nat) (l1 : List Ac) (w : World) (hB : Own w B 22 #[.slice A0 n0 c0, .slice A1 n1 c1]) (h0 : Acs w A0 n0 c0 l0) (h1 : Acs w A1 n1 c1 l1) (hn : n0 + n1 ≤ 100000) :
    Calls Tryz.prog 23 #[.slice (some ⟨B, 0, none⟩) 2 2] w (OwnEndA (l0 ++ l1) w) := by
  have hlt := hB.lt
  have p0 : w.cell? ⟨B, 0, none⟩ = some (.slice A0 n0 c0) := hB.cell 0 _ rfl
  have p1 : w.cell? ⟨B, 1, none⟩ = some (.slice A1 n1 c1) := hB.cell 1 _ rfl
  have H0 := Lib.hid h0; have H1 := Lib.hid h1
  have L0 := Lib.hid h0.len; have L1 := Lib.hid h1.len
  clear h0 h1 hB
  go_enter Tryz.func23, Tryz.ntmps23
  go_wp2
  go_loop [3, 11] (fun z i => ∃ k : Nat, k ≤ 2 ∧ i = .int .i64 k ∧ z = .int .i64 ((if k = 0 then 0 else if k = 1 then n0 else n0 + n1 : Nat) : Int)) (fun _ i => 2 - (intOf i).toNat)
  case atStart => exact ⟨0, by omega, rfl, rfl⟩
  case round =>
    obtain ⟨k, hk, rfl, rfl⟩ := hrel
    match k, hk with
    | 0, _ =>
      go_wp2
      go_round
      case rel => exact ⟨1, by omega, rfl, by simp⟩
      case measure => simp [intOf]
    | 1, _ =>
      go_wp2
      go_round
      case rel => exact ⟨2, by omega, rfl, by simp⟩
      case measure => simp [intOf]
    | 2, _ =>
      go_wp2_with fail
      refine (grow_ac (n0 + n1) w (by omega)).mono ?_; rintro e w1 ⟨A, c, rfl, hown, hb⟩
      have O1 := Lib.hid hown; have B1 := Lib.hid hb
      clear hown hb
      go_wp2
      go_loopw [6, 27] (fun v i wr => ∃ (k : Nat) (A : Option Addr) (c : Nat), k ≤ 2 ∧ i = .int .i64 k ∧ v = .slice A (upA l0 l1 k).length c ∧ ownA wr w.heap.size A (upA l0 l1 k).length c (upA l0 l1 k) ∧ Below w.heap.size w wr) (fun _ i _ => 2 - (intOf i).toNat)
      case atStart => exact ⟨0, A, c, by omega, rfl, rfl, O1.out, B1.out⟩
      case round =>
        obtain ⟨k, A2, c2, hk, rfl, rfl, hown, hbel⟩ := hrel
        have HO := Lib.hid hown; have HBEL := Lib.hid hbel
        have q0 := (hbel.cell (p := ⟨B, 0, none⟩) hlt).trans p0
        have q1 := (hbel.cell (p := ⟨B, 1, none⟩) hlt).trans p1
        have e0 := H0.out.keep hbel
        have e1 := H1.out.keep hbel
        clear hown hbel
        match k, hk with
        | 0, _ =>
          obtain ⟨A3, c3, w', hr, hown', hbel'⟩ := app_acs w.heap.size A2 _ c2 (upA l0 l1 0) wr HO.out A0 n0 c0 l0 e0 (by show 0 + n0 ≤ 1000000; omega) HBEL.out.size
          have hsz : (upA l0 l1 0).length + n0 = (upA l0 l1 1).length := by rw [← L0.out]; simp [upA]
          rw [hsz] at hr hown'
          have HO2 : Hid (ownA w' w.heap.size A3 (upA l0 l1 1).length c3 (upA l0 l1 1)) := Lib.hid (by simpa [upA] using hown')
          have HB2 := Lib.hid (HBEL.out.trans hbel')
          clear hown' hbel' e0 e1 hsz
          go_wp2_with (at_builtin; refine wpList_append_eq _ rfl (.tmp 31) (.tmp 32) _ _ rfl _ _ rfl rfl hr ?_)
          go_roundw
          case rel => exact ⟨1, A3, c3, by omega, rfl, rfl, HO2.out, HB2.out⟩
          case measure => simp [intOf]
        | 1, _ =>
          obtain ⟨A3, c3, w', hr, hown', hbel'⟩ := app_acs w.heap.size A2 _ c2 (upA l0 l1 1) wr HO.out A1 n1 c1 l1 e1 (by show l0.length + n1 ≤ 1000000; rw [L0.out]; omega) HBEL.out.size
          have hsz : (upA l0 l1 1).length + n1 = (upA l0 l1 2).length := by rw [← L1.out]; simp [upA]
          rw [hsz] at hr hown'
          have HO2 : Hid (ownA w' w.heap.size A3 (upA l0 l1 2).length c3 (upA l0 l1 2)) := Lib.hid (by simpa [upA] using hown')
          have HB2 := Lib.hid (HBEL.out.trans hbel')
          clear hown' hbel' e0 e1 hsz
          go_wp2_with (at_builtin; refine wpList_append_eq _ rfl (.tmp 31) (.tmp 32) _ _ rfl _ _ rfl rfl hr ?_)
          go_roundw
          case rel => exact ⟨2, A3, c3, by omega, rfl, rfl, HO2.out, HB2.out⟩
          case measure => simp [intOf]
        | 2, _ =>
          clear e0 e1
          go_wp2
          go_ret
          exact ⟨A2, c2, rfl, HO.out, HBEL.out⟩
theorem empty_own (w : World) : ownA (w.alloc (.cells #[] 46)) w.heap.size (some ⟨w.heap.size, 0, none⟩) 0 0 [] := World.ownsRow_made w #[] 0 (Nat.le_refl _) (Nat.zero_le _) rfl
end Go.Proofs.YtimbklggifbibaaGreatDoor.P
