/- For every resource, every write and every number the law FenceOwners answers true: each write of the log is of one of the owners of its token, and each token is told once. -/
import Derived.Test.YtimbklggifbibaaDoorFeLaid
import Derived.Test.YtimbklggifbibaaDoorKeyTwo
import Derived.Test.YtimbklggifbibaaDoorFeOpen
import Derived.Test.YtimbklggifbibaaDoorFeLive
import Derived.Test.YtimbklggifbibaaDoorFePlain
import Derived.Lib.QuietBelow
namespace Go.Proofs.YtimbklggifbibaaDoor.fenceOwners
open Go.ChangeShapes Go.WideShapes Go.ChangeAt Go.RowKit Go.Sort Go.Proofs.YtimbklggifbibaaDoor.P
open Go.ChangeMaps (open_string shut_string)
set_option linter.unusedVariables false
set_option linter.unusedSimpArgs false
set_option maxHeartbeats 4000000
set_option maxRecDepth 100000

theorem OBE {l m : List Int} {V : World} {A : Option Addr} {n c : Nat} (e : l = m) (h : Is V A n c (riseL l)) : Is V A n c (riseL m) := by rw [← e]; exact h
theorem has_yes (A : Option Addr) (n c : Nat) (l : List Int) (z : Int) (w : World) (h : Is w A n c l) (hz : z ∈ l) (hn : n ≤ 1000000) :
    Calls Tryd.prog 17 #[.slice A n c, .int .i64 z] w fun e w' => e = .returned (.bool true) ∧ Below w.heap.size w w' := by
  have H := Lib.hid h
  have HZ := Lib.hid hz
  have HL := Lib.hid h.len
  clear h hz
  go_enter Tryd.func17, Tryd.ntmps17
  go_wp2
  go_loopw [5] (fun i wr => ∃ j q : Nat, j ≤ n ∧ i = .int .i64 j ∧ wr = w.drewN q ∧ z ∉ l.take j) (fun i _ => n - (intOf i).toNat)
  case atStart => exact ⟨0, 0, Nat.zero_le _, rfl, rfl, by simp⟩
  case round =>
    obtain ⟨j, q, hj, rfl, rfl, hni⟩ := hrel
    have NI := Lib.hid hni
    clear hni
    by_cases hlt : j < n
    · obtain ⟨a, y, rfl, hbl, hy, c0⟩ := Is.at_ H.out hlt
      have HY := Lib.hid hy
      have i0 : (0 : Int) ≤ (j : Int) := by omega
      have i1 : (j : Int) < (n : Int) := by omega
      clear hy hbl
      by_cases e : y = z
      · subst e
        go_wp2
        go_ret
        exact ⟨rfl, below_drewN (Below.refl _ _) _⟩
      · have NN : Hid (z ∉ l.take (j + 1)) := Lib.hid (by
          rw [take_snoc' l j y HY.out, List.mem_append, List.mem_singleton]
          rintro (hh | hh)
          · exact NI.out hh
          · exact e hh.symm)
        go_wp2
        go_roundw
        case rel => exact ⟨j + 1, _, by omega, by go_num, rfl, NN.out⟩
        case measure => simp [intOf]; omega
    · exfalso
      obtain rfl : j = n := by omega
      have h1 := NI.out
      rw [← HL.out, List.take_length] at h1
      exact h1 HZ.out
theorem notOne (w : World) (r : Rs) (A : Option Addr) (n c : Nat) (x : Ac) (t : Int) (k : RsAt w r A n c) (kx : AcAt w x) (s : Nat → Addr) (hS : Sents w s) (hm : mayR r = false) :
    Calls Tryd.prog 6 #[r.agg A n c, x.agg, .int .i64 t] w fun e w' => e = .returned (.bool true) ∧ Below w.heap.size w w' := by
  have S0 := Lib.hid hS
  clear hS
  have B0 := Lib.hid (then_ (new1 w (.cells #[.int .i64 r.high, .string r.val, .slice A n c] 24)) (new1 (w.alloc (.cells #[.int .i64 r.high, .string r.val, .slice A n c] 24)) (.cells #[.int .i64 x.who, .int .i64 x.tok, .string x.val] 34)))
  have X0 := Lib.hid ((own_new w #[.int .i64 r.high, .string r.val, .slice A n c] 24).alloc (.cells #[.int .i64 x.who, .int .i64 x.tok, .string x.val] 34))
  have Y0 := Lib.hid (own_nxt w (.cells #[.int .i64 r.high, .string r.val, .slice A n c] 24) #[.int .i64 x.who, .int .i64 x.tok, .string x.val] 34)
  have K0 := Lib.hid (k.keep B0.out)
  clear k
  have x_0 := X0.out.cell 0 _ rfl
  have x_1 := X0.out.cell 1 _ rfl
  have x_2 := X0.out.cell 2 _ rfl
  go_enter Tryd.func6, Tryd.ntmps6
  go_wp2_with fail
  refine (may_any r A n c s _ K0.out (S0.out.keep B0.out)).mono ?_; rintro e w1 ⟨rfl, hb⟩
  rw [hm]
  have hz := B0.out.trans (hb.mono B0.out.size)
  have B1 := Lib.hid hz
  have X1 := Lib.hid (X0.out.bel hb)
  have Y1 := Lib.hid (Y0.out.bel hb)
  have K1 := Lib.hid (K0.out.keep hb)
  clear hb hz X0 Y0 K0 B0 x_0 x_1 x_2
  go_wp2_with fail
  refine (live_any s _ (S0.out.keep B1.out)).mono ?_; rintro e w2 ⟨rfl, hb⟩
  have hz := B1.out.trans (hb.mono B1.out.size)
  have B2 := Lib.hid hz
  have X2 := Lib.hid (X1.out.bel hb)
  have Y2 := Lib.hid (Y1.out.bel hb)
  have K2 := Lib.hid (K1.out.keep hb)
  clear hb hz X1 Y1 K1 B1
  go_wp2
  go_ret
  exact ⟨rfl, B2.out⟩
theorem main (w : World) (r : Rs) (A : Option Addr) (n c : Nat) (x : Ac) (t : Int) (k : RsAt w r A n c) (kx : AcAt w x) (s : Nat → Addr) (hS : Sents w s) (hm : mayR r = true) :
    Calls Tryd.prog 6 #[r.agg A n c, x.agg, .int .i64 t] w fun e w' => e = .returned (.bool true) ∧ Below w.heap.size w w' := by
  obtain ⟨sh, sv, sl⟩ := r
  obtain ⟨who, tok, val⟩ := x
  have S0 := Lib.hid hS
  clear hS
  have B0 := Lib.hid (then_ (new1 w (.cells #[.int .i64 sh, .string sv, .slice A n c] 24)) (new1 (w.alloc (.cells #[.int .i64 sh, .string sv, .slice A n c] 24)) (.cells #[.int .i64 who, .int .i64 tok, .string val] 34)))
  have X0 := Lib.hid ((own_new w #[.int .i64 sh, .string sv, .slice A n c] 24).alloc (.cells #[.int .i64 who, .int .i64 tok, .string val] 34))
  have Y0 := Lib.hid (own_nxt w (.cells #[.int .i64 sh, .string sv, .slice A n c] 24) #[.int .i64 who, .int .i64 tok, .string val] 34)
  have K0 := Lib.hid (k.keep B0.out)
  clear k
  have hf := may_few hm
  rw [K0.out.len] at hf
  have h1 : ¬ (n : Int) > 40 := by omega
  have HM := Lib.hid hm
  have HL : Hid (sl.length = n) := Lib.hid K0.out.len
  have x_0 := X0.out.cell 0 _ rfl
  have x_1 := X0.out.cell 1 _ rfl
  have x_2 := X0.out.cell 2 _ rfl
  go_enter Tryd.func6, Tryd.ntmps6
  go_wp2_with fail
  refine (may_any ⟨sh, sv, sl⟩ A n c s _ K0.out (S0.out.keep B0.out)).mono ?_; rintro e w1 ⟨rfl, hb⟩
  rw [hm]
  clear hm
  have hz := B0.out.trans (hb.mono B0.out.size)
  have B1 := Lib.hid hz
  have X1 := Lib.hid (X0.out.bel hb)
  have Y1 := Lib.hid (Y0.out.bel hb)
  have K1 := Lib.hid (K0.out.keep hb)
  clear hb hz X0 Y0 K0 B0 x_0 x_1 x_2
  have cT := Lib.hid (tokens_any ⟨sh, sv, sl⟩ A n c w1 K1.out (by omega))
  have x_0 := X1.out.cell 0 _ rfl
  have x_1 := X1.out.cell 1 _ rfl
  have x_2 := X1.out.cell 2 _ rfl
  go_wp2_with fail
  refine (cT.out).mono ?_; rintro e w2 ⟨A2, c2, rfl, ho, hb⟩
  have hz := B1.out.trans (hb.mono B1.out.size)
  have B2 := Lib.hid hz
  have X2 := Lib.hid (X1.out.bel hb)
  have Y2 := Lib.hid (Y1.out.bel hb)
  have K2 := Lib.hid (K1.out.keep hb)
  have T2 := Lib.hid (ownI_is ho)
  clear hb hz X1 Y1 K1 B1 x_0 x_1 x_2
  clear cT ho
  have x_2 := X2.out.cell 2 _ rfl
  have hnt : (riseL (toksL sl)).length ≤ 1000000 := by have h1 := rise_len (toksL sl); rw [toks_len] at h1; have h2 := HL.out; omega
  obtain ⟨nt, hnt2⟩ : ∃ nt, nt = (riseL (toksL sl)).length := ⟨_, rfl⟩
  have HNT := Lib.hid hnt2
  have T3 : Hid (Is w2 A2 nt c2 (riseL (toksL sl))) := Lib.hid (by rw [hnt2]; exact T2.out)
  rw [← hnt2] at hnt ⊢
  clear hnt2 T2
  go_wp2
  go_loopw [9] (fun i wr => ∃ j : Nat, j ≤ n ∧ i = .int .i64 j ∧ Below w2.heap.size w2 wr) (fun i _ => n - (intOf i).toNat)
  case atStart => exact ⟨0, Nat.zero_le _, rfl, Below.refl _ _⟩
  case round =>
    obtain ⟨j, hj, rfl, hbel⟩ := hrel
    rename World => wa
    have B3 := Lib.hid (B2.out.trans (hbel.mono B2.out.size))
    have X3 := Lib.hid (X2.out.bel hbel)
    have Y3 := Lib.hid (Y2.out.bel hbel)
    have K4 := Lib.hid (K2.out.keep hbel)
    have T4 := Lib.hid (T3.out.below hbel)
    have BL := Lib.hid hbel
    clear hbel x_2
    have x_0 := X3.out.cell 0 _ rfl
    have x_1 := X3.out.cell 1 _ rfl
    have x_2 := X3.out.cell 2 _ rfl
    have hlx := X3.out.lt
    by_cases hlt : j < n
    · obtain ⟨a, y, rfl, hbl, hy, hc⟩ := K4.out.log.at_ hlt
      obtain ⟨d0, d1, d2⟩ := hc
      have IN1 := Lib.hid (tok_in hy)
      have IN2 := Lib.hid (own_in hy)
      have i0 : (0 : Int) ≤ (j : Int) := by omega
      have i1 : (j : Int) < (n : Int) := by omega
      have hn60 : n ≤ 60 := by omega
      have hab : (a.add (j * 3)).block < wa.heap.size := by rw [P.block_add]; exact hbl
      have OWNLEN : Hid (∀ z, (riseL (ownsL sl z)).length ≤ 1000000) := Lib.hid (fun z => by have h1 := rise_len (ownsL sl z); have h2 := owns_len sl z; have h3 := HL.out; omega)
      have tk1 : True := trivial
      have EL : Hid (∀ V, Below wa.heap.size wa V → V.cell? (a.add (j * 3)) = some (.int .i64 y.who) ∧ V.cell? ⟨(a.add (j * 3)).block, (a.add (j * 3)).off + 1, none⟩ = some (.int .i64 y.tok)) := Lib.hid (fun V hV => ⟨(hV.cell (p := a.add (j * 3)) hab).trans d0, (hV.cell (p := ⟨(a.add (j * 3)).block, (a.add (j * 3)).off + 1, none⟩) hab).trans d1⟩)
      clear hy d2
      go_wp2
      go_region_held3 (fun w' => w'.cell? ⟨w.heap.size, 0, none⟩ = some (.int .i64 sh) ∧ w'.cell? ⟨w.heap.size, 1, none⟩ = some (.string sv) ∧ w'.cell? ⟨w.heap.size, 2, none⟩ = some (.slice (some a) n c) ∧ w'.cell? (a.add (j * 3)) = some (.int .i64 y.who) ∧ w'.cell? ⟨(a.add (j * 3)).block, (a.add (j * 3)).off + 1, none⟩ = some (.int .i64 y.tok)) (go_keep) (first
        | (go_at_call 17; have _t := tk1; clear _t tk1; (with_reducible refine (has_yes A2 nt c2 _ y.tok _ (T4.out.below (new_drew wa)) IN1.out hnt).mono ?_); rintro e V1 ⟨rfl, hb⟩; have HV1 : Hid (Below wa.heap.size wa V1) := Lib.hid (then_ (new_drew wa) hb); clear hb; clear x_0 x_1 x_2 d0 d1; have x_0 := (X3.out.bel HV1.out).cell 0 _ rfl; have x_1 := (X3.out.bel HV1.out).cell 1 _ rfl; have x_2 := (X3.out.bel HV1.out).cell 2 _ rfl; obtain ⟨d0, d1⟩ := EL.out _ HV1.out; have tk2 : True := trivial)
        | (go_at_call 18; have _t := tk2; clear _t tk2; (with_reducible refine (owners_any ⟨sh, sv, sl⟩ (some a) n c y.tok _ (K4.out.keep HV1.out) hn60).mono ?_); rintro e V2 ⟨A5, c5, rfl, ho, hb⟩; have OI := Lib.hid (ownI_is ho); have HV2 : Hid (Below wa.heap.size wa V2) := Lib.hid (then_ HV1.out hb); clear ho hb; clear x_0 x_1 x_2 d0 d1; have x_0 := (X3.out.bel HV2.out).cell 0 _ rfl; have x_1 := (X3.out.bel HV2.out).cell 1 _ rfl; have x_2 := (X3.out.bel HV2.out).cell 2 _ rfl; obtain ⟨d0, d1⟩ := EL.out _ HV2.out; have tk3 : True := trivial)
        | (go_at_call 17; have _t := tk3; clear _t tk3; (with_reducible refine (has_yes A5 _ c5 _ y.who _ OI.out IN2.out (OWNLEN.out _)).mono ?_); rintro e V3 ⟨rfl, hb⟩; have HV3 : Hid (Below wa.heap.size wa V3) := Lib.hid (then_ HV2.out hb); clear hb; clear x_0 x_1 x_2 d0 d1; have x_0 := (X3.out.bel HV3.out).cell 0 _ rfl; have x_1 := (X3.out.bel HV3.out).cell 1 _ rfl; have x_2 := (X3.out.bel HV3.out).cell 2 _ rfl; obtain ⟨d0, d1⟩ := EL.out _ HV3.out; have tk4 : True := trivial))
      all_goals
        go_wp2
        go_roundw
        case rel => exact ⟨j + 1, by omega, by go_num, BL.out.trans (HV3.out.mono BL.out.size)⟩
        case measure => simp [intOf]; omega
    · obtain rfl : j = n := by omega
      have hl' : ¬ ((j : Int) < (j : Int)) := by omega
      go_wp2
      clear x_0 x_1 x_2
      go_loopw [10] (fun i wx => ∃ (m q : Nat), 1 ≤ m ∧ (m ≤ nt ∨ m = 1) ∧ i = .int .i64 m ∧ wx = wa.drewN q) (fun i _ => nt - (intOf i).toNat)
      case atStart => exact ⟨1, 0, Nat.le_refl _, .inr rfl, rfl, rfl⟩
      case round =>
        obtain ⟨m, q, hm1, hm2, rfl, rfl⟩ := hrel
        by_cases hlm : m < nt
        · obtain ⟨kk, hkk⟩ : ∃ kk, kk + 1 = m := ⟨m - 1, by omega⟩
          have HK := Lib.hid hkk
          obtain ⟨a, y, rfl, hbl, hy, c0'⟩ := Is.at_ T4.out hlm
          obtain ⟨a', z, ha', _, hz, d0⟩ := Is.at_ T4.out (k := kk) (by omega)
          obtain rfl := Option.some.inj ha'
          have hno : ¬ z ≥ y := rise_next hz (by rw [HK.out]; exact hy)
          have k0 : (0 : Int) ≤ (kk : Int) := by omega
          have k1 : (kk : Int) < (nt : Int) := by omega
          have i0 : (0 : Int) ≤ (m : Int) := by omega
          have i1 : (m : Int) < (nt : Int) := by omega
          have hk1 : (m : Int) - 1 = (kk : Int) := by omega
          clear hz hy ha' hkk hbl
          go_wp2
          go_quiet (fail)
          go_wp2
          go_roundw
          case rel => exact ⟨m + 1, _, by omega, by omega, by go_num, rfl⟩
          case measure => simp [intOf]; omega
        · have hl2 : ¬ ((m : Int) < (nt : Int)) := by omega
          obtain ⟨V, hV⟩ : ∃ V, V = wa.drewN q := ⟨_, rfl⟩
          have bV : Below wa.heap.size wa V := by rw [hV]; exact below_drewN (Below.refl _ _) q
          rw [← hV]
          have B5 := Lib.hid (B3.out.trans (bV.mono B3.out.size))
          have X5 := Lib.hid (X3.out.bel bV)
          have Y5 := Lib.hid (Y3.out.bel bV)
          have K5 := Lib.hid (K4.out.keep bV)
          clear bV hV B3 X3 Y3 K4 T4 BL
          have x_0 := X5.out.cell 0 _ rfl
          have x_1 := X5.out.cell 1 _ rfl
          have x_2 := X5.out.cell 2 _ rfl
          have y_0 := Y5.out.cell 0 _ rfl
          have y_1 := Y5.out.cell 1 _ rfl
          have y_2 := Y5.out.cell 2 _ rfl
          have cW := Lib.hid (write_any ⟨sh, sv, sl⟩ A j c ⟨who, tok, val⟩ s V K5.out (S0.out.keep B5.out))
          by_cases he : wrE ⟨sh, sv, sl⟩ ⟨who, tok, val⟩ = 0
          · have hs := wr_ok he
            rw [he, hs] at cW
            clear he hs
            go_wp2_with fail
            refine cW.out.mono ?_; rintro e w3 ⟨A3, n3, c3, rfl, hat, hb, -⟩
            have hn3 : n3 ≤ 60 := by
              have h1 := hat.len
              have h2 := HL.out
              simp only [List.length_append, List.length_singleton] at h1
              omega
            have bN := new1 w3 (.cells #[.int .i64 tok, .string val, .slice A3 n3 c3] 24)
            have hz := B5.out.trans (hb.mono B5.out.size)
            have B6 := Lib.hid (hz.trans (bN.mono hz.size))
            have X6 := Lib.hid ((X5.out.bel hb).bel bN)
            have Y6 := Lib.hid ((Y5.out.bel hb).bel bN)
            have K6 := Lib.hid ((K5.out.keep hb).keep bN)
            have U6 := Lib.hid (hat.keep bN)
            have Z6 := Lib.hid (own_new w3 #[.int .i64 tok, .string val, .slice A3 n3 c3] 24)
            clear hat hb bN hz x_0 x_1 x_2 y_0 y_1 y_2 X5 Y5 K5 B5 cW
            go_wp2
            generalize w3.alloc (.cells #[.int .i64 tok, .string val, .slice A3 n3 c3] 24) = W6 at *
            generalize w3.heap.size = g6 at *
            have z_0 := Z6.out.cell 0 _ rfl
            have z_1 := Z6.out.cell 1 _ rfl
            have z_2 := Z6.out.cell 2 _ rfl
            have y_0 := Y6.out.cell 0 _ rfl
            have y_1 := Y6.out.cell 1 _ rfl
            have hlz := Z6.out.lt
            have hly := Y6.out.lt
            have LI := Lib.hid (last_in (l := sl) (x := ⟨who, tok, val⟩))
            have LN1 : Hid (∀ z, (riseL (ownsL (sl ++ [⟨who, tok, val⟩]) z)).length ≤ 1000000) := Lib.hid (fun z => by have h1 := rise_len (ownsL (sl ++ [⟨who, tok, val⟩]) z); have h2 := owns_len (sl ++ [⟨who, tok, val⟩]) z; have h3 := HL.out; simp only [List.length_append, List.length_singleton] at h2; omega)
            have LN2 : Hid ((riseL (toksL (sl ++ [⟨who, tok, val⟩]))).length ≤ 1000000) := Lib.hid (by have h1 := rise_len (toksL (sl ++ [⟨who, tok, val⟩])); rw [toks_len] at h1; have h3 := HL.out; simp only [List.length_append, List.length_singleton] at h1; omega)
            have tk1 : True := trivial
            go_region_held3 (fun w' => w'.cell? ⟨g6, 0, none⟩ = some (.int .i64 tok) ∧ w'.cell? ⟨g6, 1, none⟩ = some (.string val) ∧ w'.cell? ⟨g6, 2, none⟩ = some (.slice A3 n3 c3) ∧ w'.cell? ⟨w.heap.size + 1, 0, none⟩ = some (.int .i64 who) ∧ w'.cell? ⟨w.heap.size + 1, 1, none⟩ = some (.int .i64 tok)) (go_keep) (first
              | (go_at_call 18; have _t := tk1; clear _t tk1; (with_reducible refine (owners_any ⟨tok, val, sl ++ [⟨who, tok, val⟩]⟩ A3 n3 c3 tok _ (U6.out.keep (new_drew W6)) hn3).mono ?_); rintro e V1 ⟨A5, c5, rfl, ho, hb⟩; have OI := Lib.hid (ownI_is ho); have HV1 : Hid (Below W6.heap.size W6 V1) := Lib.hid (then_ (new_drew W6) hb); clear ho hb; clear z_0 z_1 z_2 y_0 y_1; have z_0 := (Z6.out.bel HV1.out).cell 0 _ rfl; have z_1 := (Z6.out.bel HV1.out).cell 1 _ rfl; have z_2 := (Z6.out.bel HV1.out).cell 2 _ rfl; have y_0 := (Y6.out.bel HV1.out).cell 0 _ rfl; have y_1 := (Y6.out.bel HV1.out).cell 1 _ rfl; have tk2 : True := trivial)
              | (go_at_call 17; have _t := tk2; clear _t tk2; (with_reducible refine (has_yes A5 _ c5 _ who _ OI.out LI.out.2 (LN1.out _)).mono ?_); rintro e V2 ⟨rfl, hb⟩; have HV2 : Hid (Below W6.heap.size W6 V2) := Lib.hid (then_ HV1.out hb); clear hb; clear z_0 z_1 z_2 y_0 y_1; have z_0 := (Z6.out.bel HV2.out).cell 0 _ rfl; have z_1 := (Z6.out.bel HV2.out).cell 1 _ rfl; have z_2 := (Z6.out.bel HV2.out).cell 2 _ rfl; have y_0 := (Y6.out.bel HV2.out).cell 0 _ rfl; have y_1 := (Y6.out.bel HV2.out).cell 1 _ rfl; have tk3 : True := trivial)
              | (go_at_call 13; have _t := tk3; clear _t tk3; (with_reducible refine (tokens_any ⟨tok, val, sl ++ [⟨who, tok, val⟩]⟩ A3 n3 c3 _ (U6.out.keep HV2.out) hn3).mono ?_); rintro e V3 ⟨A7, c7, rfl, ho, hb⟩; have TI := Lib.hid (ownI_is ho); have HV3 : Hid (Below W6.heap.size W6 V3) := Lib.hid (then_ HV2.out hb); clear ho hb; clear z_0 z_1 z_2 y_0 y_1; have z_0 := (Z6.out.bel HV3.out).cell 0 _ rfl; have z_1 := (Z6.out.bel HV3.out).cell 1 _ rfl; have z_2 := (Z6.out.bel HV3.out).cell 2 _ rfl; have y_0 := (Y6.out.bel HV3.out).cell 0 _ rfl; have y_1 := (Y6.out.bel HV3.out).cell 1 _ rfl; have tk4 : True := trivial)
              | (go_at_call 17; have _t := tk4; clear _t tk4; (with_reducible refine (has_yes A7 _ c7 _ tok _ TI.out LI.out.1 LN2.out).mono ?_); rintro e V4 ⟨rfl, hb⟩; have HV4 : Hid (Below W6.heap.size W6 V4) := Lib.hid (then_ HV3.out hb); clear hb; clear z_0 z_1 z_2 y_0 y_1; have z_0 := (Z6.out.bel HV4.out).cell 0 _ rfl; have z_1 := (Z6.out.bel HV4.out).cell 1 _ rfl; have z_2 := (Z6.out.bel HV4.out).cell 2 _ rfl; have y_0 := (Y6.out.bel HV4.out).cell 0 _ rfl; have y_1 := (Y6.out.bel HV4.out).cell 1 _ rfl; have tk5 : True := trivial))
            all_goals
              go_wp2
              have B7 := Lib.hid (B6.out.trans (HV4.out.mono B6.out.size))
              have X7 := Lib.hid (X6.out.bel HV4.out)
              have Y7 := Lib.hid (Y6.out.bel HV4.out)
              have Z7 := Lib.hid (Z6.out.bel HV4.out)
              have K7 := Lib.hid (K6.out.keep HV4.out)
              have U7 := Lib.hid (U6.out.keep HV4.out)
              clear z_0 z_1 z_2 y_0 y_1 tk5 hlz hly
              have y_1 := Y7.out.cell 1 _ rfl
              by_cases hte : t = tok
              · subst hte
                have ry1 := fun d os => cell_regrown y_1 d os
                have sM := fun d os => S0.out.keep (B7.out.trans ((below_regrown V4 d os).mono B7.out.size))
                have cL := fun d os => Calls.regrown_of (d := d) (os := os) (w := V4) (live_any s _ (sM d os))
                clear sM
                refine wp_region_quiet_below (by kernel_rfl) (by kernel_rfl) ?_
                repeat (go_big_quiet_step (with_reducible exact cL _ _))
                refine wpQuiet_nil ?_
                intro _ hw'
                obtain ⟨⟨d, os⟩, rfl⟩ := hw'
                go_wp2
                go_ret
                exact ⟨rfl, below_grow B7.out B7.out.size _ _⟩
              · have heq : Hid (ownsL (sl ++ [⟨who, tok, val⟩]) t = ownsL sl t) := Lib.hid (owns_no (fun hh => hte hh.symm))
                have hte2 : (t == tok) = false := beq_eq_false_iff_ne.2 hte
                have hj60 : j ≤ 60 := by omega
                have LN3 : Hid ((riseL (ownsL sl t)).length ≤ 1000000) := Lib.hid (by have h1 := rise_len (ownsL sl t); have h2 := owns_len sl t; have h3 := HL.out; omega)
                have x_0 := X7.out.cell 0 _ rfl
                have x_1 := X7.out.cell 1 _ rfl
                have x_2 := X7.out.cell 2 _ rfl
                have z_0 := Z7.out.cell 0 _ rfl
                have z_1 := Z7.out.cell 1 _ rfl
                have z_2 := Z7.out.cell 2 _ rfl
                have hl1 := X7.out.lt
                have hl2 := Y7.out.lt
                have hl3 := Z7.out.lt
                have tk1 : True := trivial
                go_region_held3 (fun w' => w'.cell? ⟨g6, 0, none⟩ = some (.int .i64 tok) ∧ w'.cell? ⟨g6, 1, none⟩ = some (.string val) ∧ w'.cell? ⟨g6, 2, none⟩ = some (.slice A3 n3 c3) ∧ w'.cell? ⟨w.heap.size, 0, none⟩ = some (.int .i64 sh) ∧ w'.cell? ⟨w.heap.size, 1, none⟩ = some (.string sv) ∧ w'.cell? ⟨w.heap.size, 2, none⟩ = some (.slice A j c) ∧ w'.cell? ⟨w.heap.size + 1, 1, none⟩ = some (.int .i64 tok)) (go_keep) (first
                  | (go_at_call 18; have _t := tk1; clear _t tk1; (with_reducible refine (owners_any ⟨sh, sv, sl⟩ A j c t _ (K7.out.keep (new_drew V4)) hj60).mono ?_); rintro e W1 ⟨A8, c8, rfl, ho, hb⟩; have OA := Lib.hid (ownI_is ho); have HW1 : Hid (Below V4.heap.size V4 W1) := Lib.hid (then_ (new_drew V4) hb); clear ho hb; clear x_0 x_1 x_2 z_0 z_1 z_2 y_1; have x_0 := (X7.out.bel HW1.out).cell 0 _ rfl; have x_1 := (X7.out.bel HW1.out).cell 1 _ rfl; have x_2 := (X7.out.bel HW1.out).cell 2 _ rfl; have z_0 := (Z7.out.bel HW1.out).cell 0 _ rfl; have z_1 := (Z7.out.bel HW1.out).cell 1 _ rfl; have z_2 := (Z7.out.bel HW1.out).cell 2 _ rfl; have y_1 := (Y7.out.bel HW1.out).cell 1 _ rfl; have tk2 : True := trivial)
                  | (go_at_call 18; have _t := tk2; clear _t tk2; (with_reducible refine (owners_any ⟨tok, val, sl ++ [⟨who, tok, val⟩]⟩ A3 n3 c3 t _ (U7.out.keep HW1.out) hn3).mono ?_); rintro e W2 ⟨A9, c9, rfl, ho, hb⟩; have OB := Lib.hid (ownI_is ho); have OA2 := Lib.hid (OA.out.below hb); have HW2 : Hid (Below V4.heap.size V4 W2) := Lib.hid (then_ HW1.out hb); clear ho hb; clear x_0 x_1 x_2 z_0 z_1 z_2 y_1; have x_0 := (X7.out.bel HW2.out).cell 0 _ rfl; have x_1 := (X7.out.bel HW2.out).cell 1 _ rfl; have x_2 := (X7.out.bel HW2.out).cell 2 _ rfl; have z_0 := (Z7.out.bel HW2.out).cell 0 _ rfl; have z_1 := (Z7.out.bel HW2.out).cell 1 _ rfl; have z_2 := (Z7.out.bel HW2.out).cell 2 _ rfl; have y_1 := (Y7.out.bel HW2.out).cell 1 _ rfl; have tk3 : True := trivial)
                  | (go_at_call 19; have _t := tk3; clear _t tk3; (with_reducible refine (ints_any A8 A9 _ c8 _ c9 (riseL (ownsL sl t)) _ OA2.out (OBE heq.out OB.out) LN3.out).mono ?_); rintro e W3 ⟨rfl, hb⟩; have HW3 : Hid (Below V4.heap.size V4 W3) := Lib.hid (then_ HW2.out hb); clear hb; clear x_0 x_1 x_2 z_0 z_1 z_2 y_1; have x_0 := (X7.out.bel HW3.out).cell 0 _ rfl; have x_1 := (X7.out.bel HW3.out).cell 1 _ rfl; have x_2 := (X7.out.bel HW3.out).cell 2 _ rfl; have z_0 := (Z7.out.bel HW3.out).cell 0 _ rfl; have z_1 := (Z7.out.bel HW3.out).cell 1 _ rfl; have z_2 := (Z7.out.bel HW3.out).cell 2 _ rfl; have y_1 := (Y7.out.bel HW3.out).cell 1 _ rfl; have tk4 : True := trivial)
                  | (go_at_call 7; have _t := tk4; clear _t tk4; (with_reducible refine (live_any s _ (S0.out.keep (B7.out.trans (HW3.out.mono B7.out.size)))).mono ?_); rintro e W4 ⟨rfl, hb⟩; have HW4 : Hid (Below V4.heap.size V4 W4) := Lib.hid (then_ HW3.out hb); clear hb; clear x_0 x_1 x_2 z_0 z_1 z_2 y_1; have x_0 := (X7.out.bel HW4.out).cell 0 _ rfl; have x_1 := (X7.out.bel HW4.out).cell 1 _ rfl; have x_2 := (X7.out.bel HW4.out).cell 2 _ rfl; have z_0 := (Z7.out.bel HW4.out).cell 0 _ rfl; have z_1 := (Z7.out.bel HW4.out).cell 1 _ rfl; have z_2 := (Z7.out.bel HW4.out).cell 2 _ rfl; have y_1 := (Y7.out.bel HW4.out).cell 1 _ rfl; have tk5 : True := trivial))
                all_goals
                  have BE := Lib.hid (B7.out.trans (HW4.out.mono B7.out.size))
                  go_wp2
                  go_ret
                  exact ⟨rfl, BE.out⟩
          · have hs := wr_err he
            rw [hs] at cW
            have HE := Lib.hid he
            generalize wrE ⟨sh, sv, sl⟩ ⟨who, tok, val⟩ = er at *
            clear hs he
            go_wp2_with fail
            refine cW.out.mono ?_; rintro e w3 ⟨A3, n3, c3, rfl, hat, hb, -⟩
            have bN := new1 w3 (.cells #[.int .i64 sh, .string sv, .slice A3 n3 c3] 24)
            have hz := B5.out.trans (hb.mono B5.out.size)
            have B6 := Lib.hid (hz.trans (bN.mono hz.size))
            have X6 := Lib.hid ((X5.out.bel hb).bel bN)
            have K6 := Lib.hid ((K5.out.keep hb).keep bN)
            have U6 := Lib.hid (hat.keep bN)
            have Z6 := Lib.hid (own_new w3 #[.int .i64 sh, .string sv, .slice A3 n3 c3] 24)
            clear hat hb bN hz x_0 x_1 x_2 y_0 y_1 y_2 X5 Y5 K5 B5 cW
            have cS := Lib.hid (samer_any ⟨sh, sv, sl⟩ ⟨sh, sv, sl⟩ A A3 j c n3 c3 _ K6.out U6.out (by omega))
            rw [sameR_self] at cS
            have x_0 := X6.out.cell 0 _ rfl
            have x_1 := X6.out.cell 1 _ rfl
            have x_2 := X6.out.cell 2 _ rfl
            have he1 := HE.out
            go_wp2_with fail
            refine cS.out.mono ?_; rintro e w4 ⟨rfl, hb⟩
            have B7 := Lib.hid (B6.out.trans (hb.mono B6.out.size))
            have cL := Lib.hid (live_any s w4 (S0.out.keep B7.out))
            clear hb x_0 x_1 x_2
            go_wp2_with fail
            refine cL.out.mono ?_; rintro e w5 ⟨rfl, hb⟩
            have B8 := Lib.hid (B7.out.trans (hb.mono B7.out.size))
            clear hb
            go_wp2
            go_ret
            exact ⟨rfl, B8.out⟩
theorem walk (w : World) (r : Rs) (A : Option Addr) (n c : Nat) (x : Ac) (t : Int) (k : RsAt w r A n c) (kx : AcAt w x) (w1 : (Lit.int .i64 t).wf = true) (hL : Letters w) :
    Calls Tryd.prog 6 #[r.agg A n c, x.agg, .int .i64 t] w fun e w' => e = .returned (.bool true) ∧ Below w.heap.size w w' := by
  obtain ⟨s, hS⟩ := hL
  cases hm : mayR r with
  | false => exact notOne w r A n c x t k kx s hS hm
  | true => exact main w r A n c x t k kx s hS hm
theorem laidOut : laidOutB Tryd.prog = true := by kernel_rfl
set_option maxRecDepth 100000 in
theorem lifted (os : Os) (started : os.Started) (H : Type) (enc : TypeId × Value → H) :
    ReturnsInHanded {} Tryd.checked os 6 .any (fun w args => (Rows.fenceOwnersSpec.pre enc Tryd.prog Tryd.f6 [] false w args ∧ laidMetH Tryd.prog laidK w) ∧ sizedMet enc Tryd.prog Tryd.f6 (OpenSpec.ofChange Rows.fenceOwnersSpec) false w args)
      (Rows.fenceOwnersSpec.post enc Tryd.prog Tryd.f6 false true false false) := by
  refine returnsInHanded_of_change_and (C := Tryd.checked) (X := fun w _ => laidMetH Tryd.prog laidK w) (fun _ _ _ hh h => h.of_heap hh) own started (by kernel_rfl) Tryd.func6
    (ChangeSpec.witness_shaped (enc := enc) (C := Tryd.checked) (os := os) (X := fun w _ => laidMetH Tryd.prog laidK w) false (World.doorLaid Tryd.prog 400 os) #[.agg #[.int .i64 0, .string ByteArray.empty, .slice none 0 0], .agg #[.int .i64 0, .int .i64 0, .string ByteArray.empty], (.int .i64 0)] 8 rfl (World.shaped_of_RefB (by kernel_rfl) (by kernel_rfl)) (by kernel_rfl) (by kernel_rfl) (by kernel_rfl) (door_met os _)) ?_
  intro W base args ds gs before hval0 hW _ _ hL _
  have hval : ∀ (j : Nat) t v, Tryd.f6.params[j]? = some t → args[j]? = some v → Value.okWide Tryd.prog W .any base t v := hval0
  have hW' := hW
  obtain ⟨p, q, hA0, hV, rfl, hfz, hnd⟩ := hW
  have hA : DataW.TrodAll enc Tryd.prog W 0 (fun _ => true) true Tryd.f6.params.toList args.toList ds p := hA0
  rw [Tryd.params6] at hA hval
  obtain ⟨v0, vs0, d0, ds0, p0, q0, hargs, rfl, rfl, h0, r0⟩ := trodAll_cons hA
  obtain ⟨v1, vs1, d1, ds1, p1, q1, rfl, rfl, rfl, h1, r1⟩ := trodAll_cons r0
  obtain ⟨v2, vs2, d2, ds2, p2, q2, rfl, rfl, rfl, h2, r2⟩ := trodAll_cons r1
  obtain ⟨rfl, rfl, rfl⟩ := trodAll_nil r2
  obtain rfl : args = #[v0, v1, v2] := by cases args; simp_all
  obtain ⟨rfl, rfl⟩ := trodVars_none hV
  obtain ⟨z0, A0, n0, c0, rfl, k0⟩ := open_rs (hval 0 24 v0 rfl rfl) h0
  obtain ⟨x1, rfl, k1⟩ := open_ac (hval 1 34 v1 rfl rfl) h1
  obtain ⟨a2, rfl, rfl, rfl, w2⟩ := open_int Tryd.underlying3 (hval 2 3 v2 rfl rfl) h2
  have hlet := letters_of_laid hL
  clear hA0 hval0 hL
  refine (walk W z0 A0 n0 c0 x1 a2 k0 k1 w2 hlet).mono fun e W' ⟨he, bel⟩ => ?_
  subst he
  exact ⟨_, rfl, _, _, _, [], _, [], hW', trodAll_mk1 (shut_bool Tryd.underlying4 _), (trodAll_cons_mk (Below.trod laidOut (by kernel_rfl) (of_decide_eq_true (by kernel_rfl)) h0 bel (fun x hx => hW'.lt x (by simp [hx]))) (trodAll_cons_mk (Below.trod laidOut (by kernel_rfl) (of_decide_eq_true (by kernel_rfl)) h1 bel (fun x hx => hW'.lt x (by simp [hx]))) (trodAll_cons_mk (shut_int Tryd.underlying3 w2) trodAll_mk0))), rfl, bel.frame _, fun h => by cases h⟩

theorem over : Rows.FenceOwnersSaid :=
  OpenClaim.holds_of_wide 6 Tryd.f6 rfl rfl rfl rfl rfl rfl rfl ⟨rfl, rfl, rfl, rfl, rfl⟩ rfl rfl rfl rfl rfl (by kernel_rfl) Tryd.func6 (by kernel_rfl)
    (of_decide_eq_true (by kernel_rfl)) (by unfold Func.isWrapper; first | (rw [if_pos (by decide +kernel)]; kernel_rfl) | (rw [if_neg (by decide +kernel)]; exact ⟨rfl, rfl⟩))
    (fun os started H enc _ => lifted os started H enc)

theorem plain (f : FuncId) (fn : Func) (hf : Tryd.pinned.checked.prog.funcNamed "baton/batonlaw20.FenceOwners" = some f) (hfn : Tryd.pinned.checked.prog.funcs[f]? = some fn) :
    true = Tryd.pinned.checked.prog.looks [] ∧ ∀ (j : Nat) t, fn.params[j]? = some t → Tryd.pinned.checked.prog.wantsStandIn t = false := by
  obtain rfl : f = 6 := Option.some.inj ((show Tryd.prog.funcNamed "baton/batonlaw20.FenceOwners" = some 6 by kernel_rfl).symm.trans hf) |>.symm
  obtain rfl : fn = Tryd.f6 := (Option.some.inj (Tryd.func6.symm.trans hfn)).symm
  refine ⟨by kernel_rfl, fun j t ht => ?_⟩
  rw [Tryd.params6] at ht
  have hm : t ∈ [24, 34, 3] := by simpa using Array.mem_of_getElem? ht
  have hall : ([24, 34, 3].all fun u => !Tryd.prog.wantsStandIn u) = true := by kernel_rfl
  exact (show Tryd.prog.wantsStandIn t = false by simpa using List.all_eq_true.1 hall t hm)

theorem proved : Rows.FenceOwnersCardSaid :=
  Claim7.holds_tied_plain_at .later [] _ _ _ _ over (fun _ h => by cases h) (by kernel_rfl) (fun _ h => by cases h) fenceOwners_row_tie rfl ⟨rfl, rfl⟩ (by kernel_rfl) rfl plain (by kernel_rfl)
#print axioms proved
end Go.Proofs.YtimbklggifbibaaDoor.fenceOwners
