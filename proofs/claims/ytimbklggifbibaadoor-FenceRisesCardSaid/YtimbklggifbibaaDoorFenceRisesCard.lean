/- For every resource and every list of writes the law FenceRises answers true: of a resource that may be comes one that may be; tokens never fall; what is refused changes nothing. -/
import Derived.Test.YtimbklggifbibaaDoorFeLaid
import Derived.Test.YtimbklggifbibaaDoorKeyTwo
import Derived.Test.YtimbklggifbibaaDoorFeOpen
import Derived.Test.YtimbklggifbibaaDoorFeLive
import Derived.Test.YtimbklggifbibaaDoorFePlain
import Derived.Lib.QuietBelow
namespace Go.Proofs.YtimbklggifbibaaDoor.fenceRises
open Go.ChangeShapes Go.WideShapes Go.ChangeAt Go.RowKit Go.Sort Go.Proofs.YtimbklggifbibaaDoor.P
open Go.ChangeMaps (open_string shut_string)
set_option linter.unusedVariables false
set_option linter.unusedSimpArgs false
set_option maxHeartbeats 4000000
set_option maxRecDepth 100000
theorem notOne (w : World) (r : Rs) (A : Option Addr) (n c : Nat) (A1 : Option Addr) (n1 c1 : Nat) (l : List Ac) (k : RsAt w r A n c) (kl : Acs w A1 n1 c1 l) (s : Nat → Addr) (hS : Sents w s) (hm : mayR r = false) :
    Calls Tryd.prog 4 #[r.agg A n c, .slice A1 n1 c1] w fun e w' => e = .returned (.bool true) ∧ Below w.heap.size w w' := by
  have S0 := Lib.hid hS
  clear hS
  have B0 := Lib.hid (new1 w (.cells #[.int .i64 r.high, .string r.val, .slice A n c] 24))
  have X0 := Lib.hid (own_new w #[.int .i64 r.high, .string r.val, .slice A n c] 24)
  have K0 := Lib.hid (k.keep B0.out)
  have L0 := Lib.hid (kl.keep B0.out)
  clear k kl
  have x_0 := X0.out.cell 0 _ rfl
  have x_1 := X0.out.cell 1 _ rfl
  have x_2 := X0.out.cell 2 _ rfl
  go_enter Tryd.func4, Tryd.ntmps4
  go_wp2_with fail
  refine (may_any r A n c s _ K0.out (S0.out.keep B0.out)).mono ?_; rintro e w1 ⟨rfl, hb⟩
  rw [hm]
  have hz := B0.out.trans (hb.mono B0.out.size)
  have B1 := Lib.hid hz
  have X1 := Lib.hid (X0.out.bel hb)
  have K1 := Lib.hid (K0.out.keep hb)
  have L1 := Lib.hid (L0.out.keep hb)
  clear hb hz X0 K0 L0 B0 x_0 x_1 x_2
  go_wp2_with fail
  refine (live_any s _ (S0.out.keep B1.out)).mono ?_; rintro e w2 ⟨rfl, hb⟩
  have hz := B1.out.trans (hb.mono B1.out.size)
  have B2 := Lib.hid hz
  have X2 := Lib.hid (X1.out.bel hb)
  have K2 := Lib.hid (K1.out.keep hb)
  have L2 := Lib.hid (L1.out.keep hb)
  clear hb hz X1 K1 L1 B1
  go_wp2
  go_ret
  exact ⟨rfl, B2.out⟩
theorem long (w : World) (r : Rs) (A : Option Addr) (n c : Nat) (A1 : Option Addr) (n1 c1 : Nat) (l : List Ac) (k : RsAt w r A n c) (kl : Acs w A1 n1 c1 l) (s : Nat → Addr) (hS : Sents w s) (hm : mayR r = true) (hn : n1 > 50) :
    Calls Tryd.prog 4 #[r.agg A n c, .slice A1 n1 c1] w fun e w' => e = .returned (.bool true) ∧ Below w.heap.size w w' := by
  have S0 := Lib.hid hS
  clear hS
  have B0 := Lib.hid (new1 w (.cells #[.int .i64 r.high, .string r.val, .slice A n c] 24))
  have X0 := Lib.hid (own_new w #[.int .i64 r.high, .string r.val, .slice A n c] 24)
  have K0 := Lib.hid (k.keep B0.out)
  have L0 := Lib.hid (kl.keep B0.out)
  clear k kl
  have hf := may_few hm
  rw [K0.out.len] at hf
  have h1 : ¬ (n : Int) > 40 := by omega
  have h2 : (n1 : Int) > 50 := by omega
  clear hf
  have x_0 := X0.out.cell 0 _ rfl
  have x_1 := X0.out.cell 1 _ rfl
  have x_2 := X0.out.cell 2 _ rfl
  go_enter Tryd.func4, Tryd.ntmps4
  go_wp2_with fail
  refine (may_any r A n c s _ K0.out (S0.out.keep B0.out)).mono ?_; rintro e w1 ⟨rfl, hb⟩
  rw [hm]
  have hz := B0.out.trans (hb.mono B0.out.size)
  have B1 := Lib.hid hz
  have X1 := Lib.hid (X0.out.bel hb)
  have K1 := Lib.hid (K0.out.keep hb)
  have L1 := Lib.hid (L0.out.keep hb)
  clear hb hz X0 K0 L0 B0 x_0 x_1 x_2
  have x_0 := X1.out.cell 0 _ rfl
  have x_1 := X1.out.cell 1 _ rfl
  have x_2 := X1.out.cell 2 _ rfl
  go_wp2_with fail
  refine (live_any s _ (S0.out.keep B1.out)).mono ?_; rintro e w2 ⟨rfl, hb⟩
  have hz := B1.out.trans (hb.mono B1.out.size)
  have B2 := Lib.hid hz
  have X2 := Lib.hid (X1.out.bel hb)
  have K2 := Lib.hid (K1.out.keep hb)
  have L2 := Lib.hid (L1.out.keep hb)
  clear hb hz X1 K1 L1 B1 x_0 x_1 x_2
  go_wp2
  go_ret
  exact ⟨rfl, B2.out⟩
theorem main (w : World) (r : Rs) (A : Option Addr) (n c : Nat) (A1 : Option Addr) (n1 c1 : Nat) (l : List Ac) (k : RsAt w r A n c) (kl : Acs w A1 n1 c1 l) (s : Nat → Addr) (hS : Sents w s) (hm : mayR r = true) (hn : ¬ n1 > 50) :
    Calls Tryd.prog 4 #[r.agg A n c, .slice A1 n1 c1] w fun e w' => e = .returned (.bool true) ∧ Below w.heap.size w w' := by
  have KL0 := Lib.hid kl
  have S0 := Lib.hid hS
  clear hS
  have B0 := Lib.hid (new1 w (.cells #[.int .i64 r.high, .string r.val, .slice A n c] 24))
  have X0 := Lib.hid (own_new w #[.int .i64 r.high, .string r.val, .slice A n c] 24)
  have K0 := Lib.hid (k.keep B0.out)
  have L0 := Lib.hid (kl.keep B0.out)
  clear k kl
  have hf := may_few hm
  rw [K0.out.len] at hf
  have h1 : ¬ (n : Int) > 40 := by omega
  have h2 : ¬ (n1 : Int) > 50 := by omega
  clear hf
  have HM := Lib.hid hm
  have x_0 := X0.out.cell 0 _ rfl
  have x_1 := X0.out.cell 1 _ rfl
  have x_2 := X0.out.cell 2 _ rfl
  go_enter Tryd.func4, Tryd.ntmps4
  go_wp2_with fail
  refine (may_any r A n c s _ K0.out (S0.out.keep B0.out)).mono ?_; rintro e w1 ⟨rfl, hb⟩
  rw [hm]
  clear hm
  have hz := B0.out.trans (hb.mono B0.out.size)
  have B1 := Lib.hid hz
  have X1 := Lib.hid (X0.out.bel hb)
  have K1 := Lib.hid (K0.out.keep hb)
  have L1 := Lib.hid (L0.out.keep hb)
  clear hb hz X0 K0 L0 B0 x_0 x_1 x_2
  have x_0 := X1.out.cell 0 _ rfl
  have x_1 := X1.out.cell 1 _ rfl
  have x_2 := X1.out.cell 2 _ rfl
  have HL := Lib.hid L1.out.len
  go_wp2
  clear x_0 x_1 x_2
  go_loopw [5, 6] (fun hv i wr => ∃ (j : Nat) (st : Rs) (A2 : Option Addr) (n2 c2 : Nat), j ≤ n1 ∧ i = .int .i64 j ∧ hv = .int .i64 st.high ∧ Own wr w.heap.size 24 #[.int .i64 st.high, .string st.val, .slice A2 n2 c2] ∧ RsAt wr st A2 n2 c2 ∧ mayR st = true ∧ Below w.heap.size w wr) (fun _ i _ => n1 - (intOf i).toNat)
  case atStart => exact ⟨0, r, A, n, c, Nat.zero_le _, rfl, rfl, X1.out, K1.out, HM.out, B1.out⟩
  case round =>
    obtain ⟨j, st, A2, n2, c2, hj, rfl, rfl, hx1, hat, hms, hbel⟩ := hrel
    have X2 := Lib.hid hx1; have K2 := Lib.hid hat; have M2 := Lib.hid hms; have L2 := Lib.hid (KL0.out.keep hbel); have B2 := Lib.hid hbel
    clear hx1 hat hms hbel X1 K1 L1 B1 HM
    obtain ⟨sh, sv, sl⟩ := st
    have hf := may_few M2.out
    rw [K2.out.len] at hf
    by_cases hlt : j < n1
    · obtain ⟨a, x, rfl, hbl, hx, hc⟩ := L2.out.at_ hlt
      obtain ⟨d0, d1, d2⟩ := hc
      clear hx hbl
      have bN := new1 wr (.cells #[.int .i64 x.who, .int .i64 x.tok, .string x.val] 34)
      have B3 := Lib.hid (B2.out.trans (bN.mono B2.out.size))
      have X3 := Lib.hid (X2.out.bel bN)
      have K3 := Lib.hid (K2.out.keep bN)
      have L3 := Lib.hid (L2.out.keep bN)
      have P3 := Lib.hid (own_new wr #[.int .i64 x.who, .int .i64 x.tok, .string x.val] 34)
      have hsz : Hid (w.heap.size < wr.heap.size) := Lib.hid X2.out.lt
      have MW := Lib.hid (may_wr (x := x) M2.out)
      have cW := Lib.hid (write_any ⟨sh, sv, sl⟩ A2 n2 c2 x s (wr.alloc (.cells #[.int .i64 x.who, .int .i64 x.tok, .string x.val] 34)) K3.out (S0.out.keep B3.out))
      have x_0 := X3.out.cell 0 _ rfl
      have x_1 := X3.out.cell 1 _ rfl
      have x_2 := X3.out.cell 2 _ rfl
      obtain ⟨who, tok, val⟩ := x
      clear bN X2 K2 L2 B2
      by_cases he : wrE ⟨sh, sv, sl⟩ ⟨who, tok, val⟩ = 0
      · have hz := wrE_zero.1 he
        have hup : ¬ tok < sh := hz.2.1
        have hs := wr_ok he
        rw [he] at cW
        rw [hs] at cW MW
        clear he hz hs
        go_wp2_with fail
        refine cW.out.mono ?_; rintro e w3 ⟨A3, n3, c3, rfl, hat, hb, hf3, -⟩
        have F3 := Lib.hid (hf3 rfl)
        have hn3 : n3 = n2 + 1 := by
          have h1 := hat.len
          have h2 := K3.out.len
          simp only [List.length_append, List.length_singleton] at h1 h2
          omega
        subst hn3
        have hsz3 : Hid (wr.heap.size < w3.heap.size) := Lib.hid (by have := hb.size; simp at this; omega)
        have hw2 : Hid (w.heap.size < (wr.alloc (.cells #[.int .i64 who, .int .i64 tok, .string val] 34)).heap.size) := Lib.hid X3.out.lt
        have bN := new1 w3 (.cells #[.int .i64 tok, .string val, .slice A3 (n2 + 1) c3] 24)
        have B4 := Lib.hid ((B3.out.trans (hb.mono B3.out.size)).trans (bN.mono (B3.out.trans (hb.mono B3.out.size)).size))
        have X4 := Lib.hid ((X3.out.bel hb).bel bN)
        have L4 := Lib.hid ((L3.out.keep hb).keep bN)
        have P4 := Lib.hid ((P3.out.bel hb).bel bN)
        have T4 := Lib.hid (hat.keep bN)
        have Q4 := Lib.hid (own_new w3 #[.int .i64 tok, .string val, .slice A3 (n2 + 1) c3] 24)
        have KL := Lib.hid K3.out.len
        clear hat hb hf3 bN x_0 x_1 x_2 X3 K3 L3 P3 B3
        have cM := Lib.hid (may_any ⟨tok, val, sl ++ [⟨who, tok, val⟩]⟩ A3 (n2 + 1) c3 s _ T4.out (S0.out.keep B4.out))
        rw [MW.out] at cM
        go_wp2_with fail
        refine cM.out.mono ?_; rintro e w4 ⟨rfl, hb⟩
        have B5 := Lib.hid (B4.out.trans (hb.mono B4.out.size))
        have X5 := Lib.hid (X4.out.bel hb)
        have L5 := Lib.hid (L4.out.keep hb)
        have P5 := Lib.hid (P4.out.bel hb)
        have T5 := Lib.hid (T4.out.keep hb)
        have Q5 := Lib.hid (Q4.out.bel hb)
        clear hb X4 L4 P4 T4 Q4 B4
        have x_0 := X5.out.cell 0 _ rfl
        have x_1 := X5.out.cell 1 _ rfl
        have x_2 := X5.out.cell 2 _ rfl
        have xf := X5.out.frozen
        have xl := X5.out.lt
        have p_0 := P5.out.cell 0 _ rfl
        have p_1 := P5.out.cell 1 _ rfl
        have p_2 := P5.out.cell 2 _ rfl
        have q_0 := Q5.out.cell 0 _ rfl
        have q_1 := Q5.out.cell 1 _ rfl
        have q_2 := Q5.out.cell 2 _ rfl
        obtain ⟨a3, y, ha3, hb3, hy, hc⟩ := T5.out.log.at_ (k := n2) (by omega)
        have hyx : y = ⟨who, tok, val⟩ := by
          have hl := KL.out
          simp only at hl hy
          rw [List.getElem?_append_right (by omega), show n2 - sl.length = 0 by omega] at hy
          exact (Option.some.inj hy).symm
        subst hyx
        subst ha3
        obtain ⟨e0, e1, e2⟩ := hc
        have hne := neq_ac ⟨who, tok, val⟩ ⟨who, tok, val⟩ 
        rw [acEq_self] at hne
        have i0 : (0 : Int) ≤ (n2 : Int) := by omega
        have i1 : (n2 : Int) < ((n2 + 1 : Nat) : Int) := by omega
        have dl : decide (tok < sh) = false := decide_eq_false (by omega)
        have c1' : (((n2 + 1 : Nat) : Int) != (n2 : Int) + 1) = false := by simp
        clear hy hb3
        go_wp2
        go_quiet (fail)
        go_wp2
        go_roundw
        case rel =>
          have bq := below_drewN (Below.refl w4.heap.size w4) nq
          have BF := below_set3 (B5.out.trans (bq.mono B5.out.size)) (Nat.le_refl _) (.int .i64 tok) (.string val) (.slice (some a3) (n2 + 1) c3)
          exact ⟨j + 1, ⟨tok, val, sl ++ [⟨who, tok, val⟩]⟩, some a3, n2 + 1, c3, by omega, by go_num, rfl, (X5.out.bel bq).set3, ⟨T5.out.high, T5.out.val, (T5.out.log.keep bq).other3 _ _ _ _ (fun a ha => by have h1 := F3.out a ha; have h2 := hw2.out; omega)⟩, MW.out, BF⟩
        case measure => simp [intOf]; omega
      · have hs := wr_err he
        rw [hs] at cW MW
        have HE := Lib.hid he
        generalize wrE ⟨sh, sv, sl⟩ ⟨who, tok, val⟩ = er at *
        clear hs he
        go_wp2_with fail
        refine cW.out.mono ?_; rintro e w3 ⟨A3, n3, c3, rfl, hat, hb, -⟩
        have bN := new1 w3 (.cells #[.int .i64 sh, .string sv, .slice A3 n3 c3] 24)
        have hz := B3.out.trans (hb.mono B3.out.size)
        have B4 := Lib.hid (hz.trans (bN.mono hz.size))
        have X4 := Lib.hid ((X3.out.bel hb).bel bN)
        have K4 := Lib.hid ((K3.out.keep hb).keep bN)
        have P4 := Lib.hid ((P3.out.bel hb).bel bN)
        have T4 := Lib.hid (hat.keep bN)
        have Q4 := Lib.hid (own_new w3 #[.int .i64 sh, .string sv, .slice A3 n3 c3] 24)
        clear hat hb bN hz x_0 x_1 x_2 X3 K3 L3 P3 B3
        have cM := Lib.hid (may_any ⟨sh, sv, sl⟩ A3 n3 c3 s _ T4.out (S0.out.keep B4.out))
        rw [MW.out] at cM
        go_wp2_with fail
        refine cM.out.mono ?_; rintro e w4 ⟨rfl, hb⟩
        have B5 := Lib.hid (B4.out.trans (hb.mono B4.out.size))
        have X5 := Lib.hid (X4.out.bel hb)
        have K5 := Lib.hid (K4.out.keep hb)
        have P5 := Lib.hid (P4.out.bel hb)
        have T5 := Lib.hid (T4.out.keep hb)
        have Q5 := Lib.hid (Q4.out.bel hb)
        clear hb X4 K4 P4 T4 Q4 B4
        have x_0 := X5.out.cell 0 _ rfl
        have x_1 := X5.out.cell 1 _ rfl
        have x_2 := X5.out.cell 2 _ rfl
        have p_1 := P5.out.cell 1 _ rfl
        have q_0 := Q5.out.cell 0 _ rfl
        have q_1 := Q5.out.cell 1 _ rfl
        have q_2 := Q5.out.cell 2 _ rfl
        have hn2 : n2 ≤ 1000000 := by omega
        have cS := Lib.hid (samer_any ⟨sh, sv, sl⟩ ⟨sh, sv, sl⟩ A2 A3 n2 c2 n3 c3 w4 K5.out T5.out hn2)
        rw [sameR_self] at cS
        have he1 := HE.out
        by_cases ht : tok < sh
        · go_wp2_with fail
          refine cS.out.mono ?_; rintro e w5 ⟨rfl, hb⟩
          have BF := Lib.hid (B5.out.trans (hb.mono B5.out.size))
          have XF := Lib.hid (X5.out.bel hb)
          have KF := Lib.hid (K5.out.keep hb)
          clear hb x_0 x_1 x_2 p_1 q_0 q_1 q_2
          go_wp2
          go_roundw
          case rel => exact ⟨j + 1, ⟨sh, sv, sl⟩, A2, n2, c2, by omega, by go_num, rfl, XF.out, KF.out, MW.out, BF.out⟩
          case measure => simp [intOf]; omega
        · go_wp2_with fail
          refine cS.out.mono ?_; rintro e w5 ⟨rfl, hb⟩
          have BF := Lib.hid (B5.out.trans (hb.mono B5.out.size))
          have XF := Lib.hid (X5.out.bel hb)
          have KF := Lib.hid (K5.out.keep hb)
          clear hb x_0 x_1 x_2 p_1 q_0 q_1 q_2
          go_wp2
          go_roundw
          case rel => exact ⟨j + 1, ⟨sh, sv, sl⟩, A2, n2, c2, by omega, by go_num, rfl, XF.out, KF.out, MW.out, BF.out⟩
          case measure => simp [intOf]; omega
    · obtain rfl : j = n1 := by omega
      have cT := Lib.hid (tokens_any ⟨sh, sv, sl⟩ A2 n2 c2 wr K2.out (by omega))
      have x_0 := X2.out.cell 0 _ rfl
      have x_1 := X2.out.cell 1 _ rfl
      have x_2 := X2.out.cell 2 _ rfl
      go_wp2_with fail
      refine cT.out.mono ?_; rintro e w5 ⟨A5, c5, rfl, ho, hb⟩
      have TI := Lib.hid (ownI_is ho)
      have B5 := Lib.hid (B2.out.trans (hb.mono B2.out.size))
      have X5 := Lib.hid (X2.out.bel hb)
      have K5 := Lib.hid (K2.out.keep hb)
      have HLn := Lib.hid K2.out.len
      clear ho hb x_0 x_1 x_2 X2 K2 L2 B2 cT
      have x_2 := X5.out.cell 2 _ rfl
      have HLs : Hid (sl.length = n2) := HLn
      have L5 : Hid (Acs w5 A2 n2 c2 sl) := Lib.hid K5.out.log
      have hm0 : n2 ≤ 40 := hf
      go_wp2
      go_loopw [11] (fun i wx => ∃ (m q : Nat), 1 ≤ m ∧ (m ≤ n2 ∨ m = 1) ∧ i = .int .i64 m ∧ wx = w5.drewN q) (fun i _ => n2 - (intOf i).toNat)
      case atStart => exact ⟨1, 0, Nat.le_refl _, .inr rfl, rfl, rfl⟩
      case round =>
        obtain ⟨m, q, hm1, hm2, rfl, rfl⟩ := hrel
        by_cases hlm : m < n2
        · obtain ⟨kk, hkk⟩ : ∃ kk, kk + 1 = m := ⟨m - 1, by omega⟩
          have HK := Lib.hid hkk
          obtain ⟨a, y, rfl, hbl, hy, hc⟩ := L5.out.at_ hlm
          obtain ⟨a', x, ha', _, hx, hd⟩ := L5.out.at_ (k := kk) (by omega)
          obtain rfl := Option.some.inj ha'
          obtain ⟨c0', c1', c2'⟩ := hc
          obtain ⟨d0, d1, d2⟩ := hd
          have hno : ¬ x.tok > y.tok := may_next M2.out hx (by rw [HK.out]; exact hy)
          have k0 : (0 : Int) ≤ (kk : Int) := by omega
          have k1 : (kk : Int) < (n2 : Int) := by omega
          have i0 : (0 : Int) ≤ (m : Int) := by omega
          have i1 : (m : Int) < (n2 : Int) := by omega
          have hk1 : (m : Int) - 1 = (kk : Int) := by omega
          clear hx hy ha' hkk hbl
          go_wp2
          go_quiet (fail)
          go_wp2
          go_roundw
          case rel => exact ⟨m + 1, _, by omega, by omega, by go_num, rfl⟩
          case measure => simp [intOf]; omega
        · have hl' : ¬ ((m : Int) < (n2 : Int)) := by omega
          go_wp2
          obtain ⟨V, hV⟩ : ∃ V, V = w5.drewN q := ⟨_, rfl⟩
          have bV : Below w5.heap.size w5 V := by rw [hV]; exact below_drewN (Below.refl _ _) q
          rw [← hV]
          have B6 := Lib.hid (B5.out.trans (bV.mono B5.out.size))
          have X6 := Lib.hid (X5.out.bel bV)
          have T6 := Lib.hid (TI.out.below bV)
          clear bV hV x_2
          have v_0 := X6.out.cell 0 _ rfl
          have rv0 := fun d os => cell_regrown v_0 d os
          have sM := fun d os => S0.out.keep (B6.out.trans ((below_regrown V d os).mono B6.out.size))
          have cL := fun d os => Calls.regrown_of (d := d) (os := os) (w := V) (live_any s _ (sM d os))
          by_cases hn0 : n2 = 0
          · have hT := rise_none (r := ⟨sh, sv, sl⟩) (List.eq_nil_of_length_eq_zero (by rw [HLs.out]; exact hn0))
            simp only at hT
            rw [hT]
            refine wp_region_quiet_below (by kernel_rfl) (by kernel_rfl) ?_
            repeat (go_big_quiet_step (with_reducible exact cL _ _))
            refine wpQuiet_nil ?_
            intro _ hw'
            obtain ⟨⟨d, os⟩, rfl⟩ := hw'
            go_wp2
            go_ret
            exact ⟨rfl, below_grow B6.out B6.out.size _ _⟩
          · obtain ⟨kk, hk1, hk2⟩ := rise_last M2.out (fun e => hn0 (by rw [← HLs.out]; rw [show sl = [] from e]; rfl))
            simp only at hk1 hk2
            obtain ⟨nt, hnt⟩ : ∃ nt, nt = kk + 1 := ⟨_, rfl⟩
            have hbnd : nt ≤ 40 := by have := rise_len (toksL sl); rw [hk1] at this; rw [toks_len] at this; have := HLs.out; omega
            rw [← hnt] at hk1
            rw [hk1]
            obtain ⟨a, z, ha, hbl, hz, t_0⟩ := Is.at_ T6.out (k := kk) (by omega)
            obtain rfl : z = sh := Option.some.inj (hz.symm.trans hk2)
            subst ha
            have rt0 := fun d os => cell_regrown t_0 d os
            have hke : (nt : Int) - 1 = (kk : Int) := by omega
            have k0 : (0 : Int) ≤ (kk : Int) := by omega
            have k1 : (kk : Int) < (nt : Int) := by omega
            have hne : ((nt : Int) == 0) = false := by rw [beq_eq_false_iff_ne]; omega
            clear hk2 hz hbl hk1 hnt
            refine wp_region_quiet_below (by kernel_rfl) (by kernel_rfl) ?_
            repeat (go_big_quiet_step (with_reducible exact cL _ _))
            refine wpQuiet_nil ?_
            intro _ hw'
            obtain ⟨⟨d, os⟩, rfl⟩ := hw'
            go_wp2
            go_ret
            exact ⟨rfl, below_grow B6.out B6.out.size _ _⟩
theorem walk (w : World) (r : Rs) (A : Option Addr) (n c : Nat) (A1 : Option Addr) (n1 c1 : Nat) (l : List Ac) (k : RsAt w r A n c) (kl : Acs w A1 n1 c1 l) (hL : Letters w) :
    Calls Tryd.prog 4 #[r.agg A n c, .slice A1 n1 c1] w fun e w' => e = .returned (.bool true) ∧ Below w.heap.size w w' := by
  obtain ⟨s, hS⟩ := hL
  cases hm : mayR r with
  | false => exact notOne w r A n c A1 n1 c1 l k kl s hS hm
  | true =>
    by_cases hn : n1 > 50
    · exact long w r A n c A1 n1 c1 l k kl s hS hm hn
    · exact main w r A n c A1 n1 c1 l k kl s hS hm hn
theorem laidOut : laidOutB Tryd.prog = true := by kernel_rfl
set_option maxRecDepth 100000 in
theorem lifted (os : Os) (started : os.Started) (H : Type) (enc : TypeId × Value → H) :
    ReturnsInHanded {} Tryd.checked os 4 .any (fun w args => (Rows.fenceRisesSpec.pre enc Tryd.prog Tryd.f4 [] false w args ∧ laidMetH Tryd.prog laidK w) ∧ sizedMet enc Tryd.prog Tryd.f4 (OpenSpec.ofChange Rows.fenceRisesSpec) false w args)
      (Rows.fenceRisesSpec.post enc Tryd.prog Tryd.f4 false true false false) := by
  refine returnsInHanded_of_change_and (C := Tryd.checked) (X := fun w _ => laidMetH Tryd.prog laidK w) (fun _ _ _ hh h => h.of_heap hh) own started (by kernel_rfl) Tryd.func4
    (ChangeSpec.witness_shaped (enc := enc) (C := Tryd.checked) (os := os) (X := fun w _ => laidMetH Tryd.prog laidK w) false (World.doorLaid Tryd.prog 400 os) #[.agg #[.int .i64 0, .string ByteArray.empty, .slice none 0 0], .slice none 0 0] 8 rfl (World.shaped_of_RefB (by kernel_rfl) (by kernel_rfl)) (by kernel_rfl) (by kernel_rfl) (by kernel_rfl) (door_met os _)) ?_
  intro W base args ds gs before hval0 hW _ _ hL _
  have hval : ∀ (j : Nat) t v, Tryd.f4.params[j]? = some t → args[j]? = some v → Value.okWide Tryd.prog W .any base t v := hval0
  have hW' := hW
  obtain ⟨p, q, hA0, hV, rfl, hfz, hnd⟩ := hW
  have hA : DataW.TrodAll enc Tryd.prog W 0 (fun _ => true) true Tryd.f4.params.toList args.toList ds p := hA0
  rw [Tryd.params4] at hA hval
  obtain ⟨v0, vs0, d0, ds0, p0, q0, hargs, rfl, rfl, h0, r0⟩ := trodAll_cons hA
  obtain ⟨v1, vs1, d1, ds1, p1, q1, rfl, rfl, rfl, h1, r1⟩ := trodAll_cons r0
  obtain ⟨rfl, rfl, rfl⟩ := trodAll_nil r1
  obtain rfl : args = #[v0, v1] := by cases args; simp_all
  obtain ⟨rfl, rfl⟩ := trodVars_none hV
  obtain ⟨z0, A0, n0, c0, rfl, k0⟩ := open_rs (hval 0 24 v0 rfl rfl) h0
  obtain ⟨A1, n1, c1, l1, rfl, k1⟩ := open_acs (hval 1 22 v1 rfl rfl) h1
  have hlet := letters_of_laid hL
  clear hA0 hval0 hL
  refine (walk W z0 A0 n0 c0 A1 n1 c1 l1 k0 k1 hlet).mono fun e W' ⟨he, bel⟩ => ?_
  subst he
  exact ⟨_, rfl, _, _, _, [], _, [], hW', trodAll_mk1 (shut_bool Tryd.underlying4 _), (trodAll_cons_mk (Below.trod laidOut (by kernel_rfl) (of_decide_eq_true (by kernel_rfl)) h0 bel (fun x hx => hW'.lt x (by simp [hx]))) (trodAll_cons_mk (Below.trod laidOut (by kernel_rfl) (of_decide_eq_true (by kernel_rfl)) h1 bel (fun x hx => hW'.lt x (by simp [hx]))) trodAll_mk0)), rfl, bel.frame _, fun h => by cases h⟩

theorem over : Rows.FenceRisesSaid :=
  OpenClaim.holds_of_wide 4 Tryd.f4 rfl rfl rfl rfl rfl rfl rfl ⟨rfl, rfl, rfl, rfl, rfl⟩ rfl rfl rfl rfl rfl (by kernel_rfl) Tryd.func4 (by kernel_rfl)
    (of_decide_eq_true (by kernel_rfl)) (by unfold Func.isWrapper; first | (rw [if_pos (by decide +kernel)]; kernel_rfl) | (rw [if_neg (by decide +kernel)]; exact ⟨rfl, rfl⟩))
    (fun os started H enc _ => lifted os started H enc)

theorem plain (f : FuncId) (fn : Func) (hf : Tryd.pinned.checked.prog.funcNamed "baton/batonlaw20.FenceRises" = some f) (hfn : Tryd.pinned.checked.prog.funcs[f]? = some fn) :
    true = Tryd.pinned.checked.prog.looks [] ∧ ∀ (j : Nat) t, fn.params[j]? = some t → Tryd.pinned.checked.prog.wantsStandIn t = false := by
  obtain rfl : f = 4 := Option.some.inj ((show Tryd.prog.funcNamed "baton/batonlaw20.FenceRises" = some 4 by kernel_rfl).symm.trans hf) |>.symm
  obtain rfl : fn = Tryd.f4 := (Option.some.inj (Tryd.func4.symm.trans hfn)).symm
  refine ⟨by kernel_rfl, fun j t ht => ?_⟩
  rw [Tryd.params4] at ht
  have hm : t ∈ [24, 22] := by simpa using Array.mem_of_getElem? ht
  have hall : ([24, 22].all fun u => !Tryd.prog.wantsStandIn u) = true := by kernel_rfl
  exact (show Tryd.prog.wantsStandIn t = false by simpa using List.all_eq_true.1 hall t hm)

theorem proved : Rows.FenceRisesCardSaid :=
  Claim7.holds_tied_plain_at .later [] _ _ _ _ over (fun _ h => by cases h) (by kernel_rfl) (fun _ h => by cases h) fenceRises_row_tie rfl ⟨rfl, rfl⟩ (by kernel_rfl) rfl plain (by kernel_rfl)
#print axioms proved
end Go.Proofs.YtimbklggifbibaaDoor.fenceRises
