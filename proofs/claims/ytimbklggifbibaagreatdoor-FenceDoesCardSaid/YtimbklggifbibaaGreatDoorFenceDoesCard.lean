/- For every resource, every text and every number the law FenceDoes answers true: what comes of the text, the tokens, and whose they are, are the document's. -/
import Derived.Test.YtimbklggifbibaaGreatDoorFeLaid
import Derived.Test.YtimbklggifbibaaGreatDoorKeyTwo
import Derived.Test.YtimbklggifbibaaGreatDoorFeOpen
import Derived.Test.YtimbklggifbibaaGreatDoorFeLive
import Derived.Test.YtimbklggifbibaaGreatDoorFeRef
import Derived.Lib.QuietBelow
namespace Go.Proofs.YtimbklggifbibaaGreatDoor.fenceDoes
open Go.ChangeShapes Go.WideShapes Go.ChangeAt Go.RowKit Go.Sort Go.Proofs.YtimbklggifbibaaGreatDoor.P
open Go.ChangeMaps (open_string shut_string)
set_option linter.unusedVariables false
set_option linter.unusedSimpArgs false
set_option maxHeartbeats 4000000
set_option maxRecDepth 100000

theorem do_len (r : Rs) (b : ByteArray) : (doRs r b).log.length ≤ r.log.length + 1 := by
  unfold doRs
  split
  · unfold wrR; split
    · simp
    · omega
  · omega
theorem at_len {V : World} {A : Option Addr} {n c : Nat} {l : List Int} (h : Is V A n c l) : Is V A l.length c l := by rw [h.len]; exact h
theorem long (w : World) (r : Rs) (A : Option Addr) (n c : Nat) (b : ByteArray) (t : Int) (k : RsAt w r A n c) (s : Nat → Addr) (hS : Sents w s) (hn : n > 60) :
    Calls Tryz.prog 3 #[r.agg A n c, .string b, .int .i64 t] w fun e w' => e = .returned (.bool true) ∧ Below w.heap.size w w' := by
  have S0 := Lib.hid hS
  clear hS
  have B0 := Lib.hid (new1 w (.cells #[.int .i64 r.high, .string r.val, .slice A n c] 24))
  have X0 := Lib.hid (own_new w #[.int .i64 r.high, .string r.val, .slice A n c] 24)
  have K0 := Lib.hid (k.keep B0.out)
  clear k
  have h1 : (n : Int) > 60 := by omega
  go_enter Tryz.func3, Tryz.ntmps3
  go_wp2_with fail
  refine (live_any s _ (S0.out.keep B0.out)).mono ?_; rintro e w1 ⟨rfl, hb⟩
  have hz := B0.out.trans (hb.mono B0.out.size)
  have B1 := Lib.hid hz
  have X1 := Lib.hid (X0.out.bel hb)
  have K1 := Lib.hid (K0.out.keep hb)
  clear hb hz X0 K0 B0
  go_wp2
  go_ret
  exact ⟨rfl, B1.out⟩
theorem wide (w : World) (r : Rs) (A : Option Addr) (n c : Nat) (b : ByteArray) (t : Int) (k : RsAt w r A n c) (s : Nat → Addr) (hS : Sents w s) (hn : ¬ n > 60) (hb : b.size > 600) :
    Calls Tryz.prog 3 #[r.agg A n c, .string b, .int .i64 t] w fun e w' => e = .returned (.bool true) ∧ Below w.heap.size w w' := by
  have S0 := Lib.hid hS
  clear hS
  have B0 := Lib.hid (new1 w (.cells #[.int .i64 r.high, .string r.val, .slice A n c] 24))
  have X0 := Lib.hid (own_new w #[.int .i64 r.high, .string r.val, .slice A n c] 24)
  have K0 := Lib.hid (k.keep B0.out)
  clear k
  have h1 : ¬ (n : Int) > 60 := by omega
  have h2 : (b.size : Int) > 600 := by omega
  go_enter Tryz.func3, Tryz.ntmps3
  go_wp2_with fail
  refine (live_any s _ (S0.out.keep B0.out)).mono ?_; rintro e w1 ⟨rfl, hb⟩
  have hz := B0.out.trans (hb.mono B0.out.size)
  have B1 := Lib.hid hz
  have X1 := Lib.hid (X0.out.bel hb)
  have K1 := Lib.hid (K0.out.keep hb)
  clear hb hz X0 K0 B0
  go_wp2
  go_ret
  exact ⟨rfl, B1.out⟩
theorem samer_self (r : Rs) (A B : Option Addr) (n c m d : Nat) (w : World) (h : RsAt w r A n c) (g : RsAt w r B m d) (hm : n ≤ 1000000) :
    Calls Tryz.prog 7 #[r.agg A n c, r.agg B m d] w fun e w' => e = .returned (.bool true) ∧ Below w.heap.size w w' := by
  have h1 := samer_any r r A B n c m d w h g hm
  rwa [sameR_self] at h1
theorem main (w : World) (r : Rs) (A : Option Addr) (n c : Nat) (b : ByteArray) (t : Int) (k : RsAt w r A n c) (s : Nat → Addr) (hS : Sents w s) (hn : ¬ n > 60) (hb : ¬ b.size > 600) :
    Calls Tryz.prog 3 #[r.agg A n c, .string b, .int .i64 t] w fun e w' => e = .returned (.bool true) ∧ Below w.heap.size w w' := by
  have S0 := Lib.hid hS
  clear hS
  have B0 := Lib.hid (new1 w (.cells #[.int .i64 r.high, .string r.val, .slice A n c] 24))
  have X0 := Lib.hid (own_new w #[.int .i64 r.high, .string r.val, .slice A n c] 24)
  have K0 := Lib.hid (k.keep B0.out)
  clear k
  have h1 : ¬ (n : Int) > 60 := by omega
  have h2 : ¬ (b.size : Int) > 600 := by omega
  have hb6 : b.size ≤ 1000000 := by omega
  have HL : Hid (r.log.length = n) := Lib.hid K0.out.len
  have cD := Lib.hid (do_any r A n c b s _ K0.out (S0.out.keep B0.out) hb6)
  have VR : Hid (∀ V, RsAt V r A n c → Calls Tryz.prog 6 #[r.agg A n c, .string b] V (RsEnd (doRs r b) (doE r b) A n c V)) := Lib.hid (fun V hV => dor_any r A n c b V hV hb6)
  have DL := Lib.hid (do_len r b)
  generalize doRs r b = r2 at *
  generalize doE r b = er at *
  obtain ⟨h9, v9, l9⟩ := r2
  have x_0 := X0.out.cell 0 _ rfl
  have x_1 := X0.out.cell 1 _ rfl
  have x_2 := X0.out.cell 2 _ rfl
  go_enter Tryz.func3, Tryz.ntmps3
  go_wp2_with fail
  refine (cD.out).mono ?_; rintro e w1 ⟨A1, n1, c1, rfl, hat, hb, -⟩
  have bN := new1 w1 (.cells #[.int .i64 h9, .string v9, .slice A1 n1 c1] 24)
  have hz := B0.out.trans (hb.mono B0.out.size)
  have B1 := Lib.hid (hz.trans (bN.mono hz.size))
  have X1 := Lib.hid ((X0.out.bel hb).bel bN)
  have K1 := Lib.hid ((K0.out.keep hb).keep bN)
  have T1 := Lib.hid ((hat).keep bN)
  have P1 := Lib.hid (own_new w1 #[.int .i64 h9, .string v9, .slice A1 n1 c1] 24)
  clear hb hz bN X0 K0 B0 x_0 x_1 x_2
  clear cD hat
  have x_0 := X1.out.cell 0 _ rfl
  have x_1 := X1.out.cell 1 _ rfl
  have x_2 := X1.out.cell 2 _ rfl
  go_wp2_with fail
  refine (VR.out _ K1.out).mono ?_; rintro e w2 ⟨A2, n2, c2, rfl, hat, hb, -⟩
  have bN := new1 w2 (.cells #[.int .i64 h9, .string v9, .slice A2 n2 c2] 24)
  have hz := B1.out.trans (hb.mono B1.out.size)
  have B2 := Lib.hid (hz.trans (bN.mono hz.size))
  have X2 := Lib.hid ((X1.out.bel hb).bel bN)
  have P2 := Lib.hid ((P1.out.bel hb).bel bN)
  have K2 := Lib.hid ((K1.out.keep hb).keep bN)
  have T2 := Lib.hid ((T1.out.keep hb).keep bN)
  have U2 := Lib.hid ((hat).keep bN)
  have Q2 := Lib.hid (own_new w2 #[.int .i64 h9, .string v9, .slice A2 n2 c2] 24)
  clear hb hz bN X1 P1 K1 T1 B1 x_0 x_1 x_2
  clear hat VR
  go_wp2
  generalize w2.alloc (.cells #[.int .i64 h9, .string v9, .slice A2 n2 c2] 24) = V4 at *
  generalize w2.heap.size = g2 at *
  generalize w1.heap.size = g1 at *
  have p_0 := P2.out.cell 0 _ rfl
  have p_1 := P2.out.cell 1 _ rfl
  have p_2 := P2.out.cell 2 _ rfl
  have q_0 := Q2.out.cell 0 _ rfl
  have q_1 := Q2.out.cell 1 _ rfl
  have q_2 := Q2.out.cell 2 _ rfl
  have x_0 := X2.out.cell 0 _ rfl
  have x_1 := X2.out.cell 1 _ rfl
  have x_2 := X2.out.cell 2 _ rfl
  have hl1 := P2.out.lt
  have hl2 := Q2.out.lt
  have hl3 := X2.out.lt
  have hn60 : n ≤ 60 := by omega
  have hn1 : n1 ≤ 1000000 := by have h3 := T2.out.len; have h4 := DL.out; have h5 := HL.out; simp only at h3 h4; omega
  have LT : Hid ((riseL (toksL r.log)).length ≤ 1000000) := Lib.hid (by have h1 := rise_len (toksL r.log); rw [toks_len] at h1; have h3 := HL.out; omega)
  have LO : Hid ((riseL (ownsL r.log t)).length ≤ 1000000) := Lib.hid (by have h1 := rise_len (ownsL r.log t); have h2 := owns_len r.log t; have h3 := HL.out; omega)
  have hee : (er == er) = true := by simp
  have tk1 : True := trivial
  have SS := Lib.hid (sameR_self ⟨h9, v9, l9⟩)
  go_region_held3 (fun w' => w'.cell? ⟨g1, 0, none⟩ = some (.int .i64 h9) ∧ w'.cell? ⟨g1, 1, none⟩ = some (.string v9) ∧ w'.cell? ⟨g1, 2, none⟩ = some (.slice A1 n1 c1) ∧ w'.cell? ⟨g2, 0, none⟩ = some (.int .i64 h9) ∧ w'.cell? ⟨g2, 1, none⟩ = some (.string v9) ∧ w'.cell? ⟨g2, 2, none⟩ = some (.slice A2 n2 c2) ∧ w'.cell? ⟨w.heap.size, 0, none⟩ = some (.int .i64 r.high) ∧ w'.cell? ⟨w.heap.size, 1, none⟩ = some (.string r.val) ∧ w'.cell? ⟨w.heap.size, 2, none⟩ = some (.slice A n c)) (go_keep) (first
    | (go_at_call 7; have _t := tk1; clear _t tk1; (with_reducible refine (samer_self ⟨h9, v9, l9⟩ A1 A2 n1 c1 n2 c2 _ (T2.out.keep (new_drew V4)) (U2.out.keep (new_drew V4)) hn1).mono ?_); rintro e W1 ⟨rfl, hb⟩; have HW1 : Hid (Below V4.heap.size V4 W1) := Lib.hid (then_ (new_drew V4) hb); clear hb; clear p_0 p_1 p_2 q_0 q_1 q_2 x_0 x_1 x_2; have p_0 := (P2.out.bel HW1.out).cell 0 _ rfl; have p_1 := (P2.out.bel HW1.out).cell 1 _ rfl; have p_2 := (P2.out.bel HW1.out).cell 2 _ rfl; have q_0 := (Q2.out.bel HW1.out).cell 0 _ rfl; have q_1 := (Q2.out.bel HW1.out).cell 1 _ rfl; have q_2 := (Q2.out.bel HW1.out).cell 2 _ rfl; have x_0 := (X2.out.bel HW1.out).cell 0 _ rfl; have x_1 := (X2.out.bel HW1.out).cell 1 _ rfl; have x_2 := (X2.out.bel HW1.out).cell 2 _ rfl; have tk2 : True := trivial)
    | (go_at_call 9; have _t := tk2; clear _t tk2; (with_reducible refine (tokens_any r A n c _ (K2.out.keep HW1.out) hn60).mono ?_); rintro e W2 ⟨A5, c5, rfl, ho, hb⟩; have HW2 : Hid (Below V4.heap.size V4 W2) := Lib.hid (then_ HW1.out hb); have TA := Lib.hid (ownI_is ho); clear ho; clear hb; clear p_0 p_1 p_2 q_0 q_1 q_2 x_0 x_1 x_2; have p_0 := (P2.out.bel HW2.out).cell 0 _ rfl; have p_1 := (P2.out.bel HW2.out).cell 1 _ rfl; have p_2 := (P2.out.bel HW2.out).cell 2 _ rfl; have q_0 := (Q2.out.bel HW2.out).cell 0 _ rfl; have q_1 := (Q2.out.bel HW2.out).cell 1 _ rfl; have q_2 := (Q2.out.bel HW2.out).cell 2 _ rfl; have x_0 := (X2.out.bel HW2.out).cell 0 _ rfl; have x_1 := (X2.out.bel HW2.out).cell 1 _ rfl; have x_2 := (X2.out.bel HW2.out).cell 2 _ rfl; have tk3 : True := trivial)
    | (go_at_call 10; have _t := tk3; clear _t tk3; (with_reducible refine (tokensr_any r A n c _ (K2.out.keep HW2.out) hn60).mono ?_); rintro e W3 ⟨A6, n6, c6, rfl, ho, hb⟩; have HW3 : Hid (Below V4.heap.size V4 W3) := Lib.hid (then_ HW2.out hb); have TB := Lib.hid ho; have TA2 := Lib.hid (TA.out.below hb); clear ho; clear hb; clear p_0 p_1 p_2 q_0 q_1 q_2 x_0 x_1 x_2; have p_0 := (P2.out.bel HW3.out).cell 0 _ rfl; have p_1 := (P2.out.bel HW3.out).cell 1 _ rfl; have p_2 := (P2.out.bel HW3.out).cell 2 _ rfl; have q_0 := (Q2.out.bel HW3.out).cell 0 _ rfl; have q_1 := (Q2.out.bel HW3.out).cell 1 _ rfl; have q_2 := (Q2.out.bel HW3.out).cell 2 _ rfl; have x_0 := (X2.out.bel HW3.out).cell 0 _ rfl; have x_1 := (X2.out.bel HW3.out).cell 1 _ rfl; have x_2 := (X2.out.bel HW3.out).cell 2 _ rfl; have tk4 : True := trivial)
    | (go_at_call 8; have _t := tk4; clear _t tk4; (with_reducible refine (ints_any A5 A6 _ c5 n6 c6 (riseL (toksL r.log)) _ TA2.out TB.out LT.out).mono ?_); rintro e W4 ⟨rfl, hb⟩; have HW4 : Hid (Below V4.heap.size V4 W4) := Lib.hid (then_ HW3.out hb); clear hb; clear p_0 p_1 p_2 q_0 q_1 q_2 x_0 x_1 x_2; have p_0 := (P2.out.bel HW4.out).cell 0 _ rfl; have p_1 := (P2.out.bel HW4.out).cell 1 _ rfl; have p_2 := (P2.out.bel HW4.out).cell 2 _ rfl; have q_0 := (Q2.out.bel HW4.out).cell 0 _ rfl; have q_1 := (Q2.out.bel HW4.out).cell 1 _ rfl; have q_2 := (Q2.out.bel HW4.out).cell 2 _ rfl; have x_0 := (X2.out.bel HW4.out).cell 0 _ rfl; have x_1 := (X2.out.bel HW4.out).cell 1 _ rfl; have x_2 := (X2.out.bel HW4.out).cell 2 _ rfl; have tk5 : True := trivial)
    | (go_at_call 11; have _t := tk5; clear _t tk5; (with_reducible refine (owners_any r A n c t _ (K2.out.keep HW4.out) hn60).mono ?_); rintro e W5 ⟨A7, c7, rfl, ho, hb⟩; have HW5 : Hid (Below V4.heap.size V4 W5) := Lib.hid (then_ HW4.out hb); have OA := Lib.hid (ownI_is ho); clear ho; clear hb; clear p_0 p_1 p_2 q_0 q_1 q_2 x_0 x_1 x_2; have p_0 := (P2.out.bel HW5.out).cell 0 _ rfl; have p_1 := (P2.out.bel HW5.out).cell 1 _ rfl; have p_2 := (P2.out.bel HW5.out).cell 2 _ rfl; have q_0 := (Q2.out.bel HW5.out).cell 0 _ rfl; have q_1 := (Q2.out.bel HW5.out).cell 1 _ rfl; have q_2 := (Q2.out.bel HW5.out).cell 2 _ rfl; have x_0 := (X2.out.bel HW5.out).cell 0 _ rfl; have x_1 := (X2.out.bel HW5.out).cell 1 _ rfl; have x_2 := (X2.out.bel HW5.out).cell 2 _ rfl; have tk6 : True := trivial)
    | (go_at_call 12; have _t := tk6; clear _t tk6; (with_reducible refine (ownersr_any r A n c t _ (K2.out.keep HW5.out) hn60).mono ?_); rintro e W6 ⟨A8, n8, c8, rfl, ho, hb⟩; have HW6 : Hid (Below V4.heap.size V4 W6) := Lib.hid (then_ HW5.out hb); have OB := Lib.hid ho; have OA2 := Lib.hid (OA.out.below hb); clear ho; clear hb; clear p_0 p_1 p_2 q_0 q_1 q_2 x_0 x_1 x_2; have p_0 := (P2.out.bel HW6.out).cell 0 _ rfl; have p_1 := (P2.out.bel HW6.out).cell 1 _ rfl; have p_2 := (P2.out.bel HW6.out).cell 2 _ rfl; have q_0 := (Q2.out.bel HW6.out).cell 0 _ rfl; have q_1 := (Q2.out.bel HW6.out).cell 1 _ rfl; have q_2 := (Q2.out.bel HW6.out).cell 2 _ rfl; have x_0 := (X2.out.bel HW6.out).cell 0 _ rfl; have x_1 := (X2.out.bel HW6.out).cell 1 _ rfl; have x_2 := (X2.out.bel HW6.out).cell 2 _ rfl; have tk7 : True := trivial)
    | (go_at_call 8; have _t := tk7; clear _t tk7; (with_reducible refine (ints_any A7 A8 _ c7 n8 c8 (riseL (ownsL r.log t)) _ OA2.out OB.out LO.out).mono ?_); rintro e W7 ⟨rfl, hb⟩; have HW7 : Hid (Below V4.heap.size V4 W7) := Lib.hid (then_ HW6.out hb); clear hb; clear p_0 p_1 p_2 q_0 q_1 q_2 x_0 x_1 x_2; have p_0 := (P2.out.bel HW7.out).cell 0 _ rfl; have p_1 := (P2.out.bel HW7.out).cell 1 _ rfl; have p_2 := (P2.out.bel HW7.out).cell 2 _ rfl; have q_0 := (Q2.out.bel HW7.out).cell 0 _ rfl; have q_1 := (Q2.out.bel HW7.out).cell 1 _ rfl; have q_2 := (Q2.out.bel HW7.out).cell 2 _ rfl; have x_0 := (X2.out.bel HW7.out).cell 0 _ rfl; have x_1 := (X2.out.bel HW7.out).cell 1 _ rfl; have x_2 := (X2.out.bel HW7.out).cell 2 _ rfl; have tk8 : True := trivial)
    | (go_at_call 4; have _t := tk8; clear _t tk8; (with_reducible refine (live_any s _ (S0.out.keep (B2.out.trans (HW7.out.mono B2.out.size)))).mono ?_); rintro e W8 ⟨rfl, hb⟩; have HW8 : Hid (Below V4.heap.size V4 W8) := Lib.hid (then_ HW7.out hb); clear hb; clear p_0 p_1 p_2 q_0 q_1 q_2 x_0 x_1 x_2; have p_0 := (P2.out.bel HW8.out).cell 0 _ rfl; have p_1 := (P2.out.bel HW8.out).cell 1 _ rfl; have p_2 := (P2.out.bel HW8.out).cell 2 _ rfl; have q_0 := (Q2.out.bel HW8.out).cell 0 _ rfl; have q_1 := (Q2.out.bel HW8.out).cell 1 _ rfl; have q_2 := (Q2.out.bel HW8.out).cell 2 _ rfl; have x_0 := (X2.out.bel HW8.out).cell 0 _ rfl; have x_1 := (X2.out.bel HW8.out).cell 1 _ rfl; have x_2 := (X2.out.bel HW8.out).cell 2 _ rfl; have tk9 : True := trivial))
  all_goals
    have BE := Lib.hid (B2.out.trans (HW8.out.mono B2.out.size))
    go_wp2
    go_ret
    exact ⟨rfl, BE.out⟩
theorem walk (w : World) (r : Rs) (A : Option Addr) (n c : Nat) (b : ByteArray) (t : Int) (k : RsAt w r A n c) (w1 : b.size ≤ maxLen) (w2 : (Lit.int .i64 t).wf = true) (hL : Letters w) :
    Calls Tryz.prog 3 #[r.agg A n c, .string b, .int .i64 t] w fun e w' => e = .returned (.bool true) ∧ Below w.heap.size w w' := by
  obtain ⟨s, hS⟩ := hL
  by_cases h1 : n > 60
  · exact long w r A n c b t k s hS h1
  · by_cases h2 : b.size > 600
    · exact wide w r A n c b t k s hS h1 h2
    · exact main w r A n c b t k s hS h1 h2
theorem laidOut : laidOutB Tryz.prog = true := by kernel_rfl
set_option maxRecDepth 100000 in
theorem lifted (os : Os) (started : os.Started) (H : Type) (enc : TypeId × Value → H) :
    ReturnsInHanded {} Tryz.checked os 3 .any (fun w args => (Rows.fenceDoesSpec.pre enc Tryz.prog Tryz.f3 [] false w args ∧ laidMetH Tryz.prog laidK w) ∧ sizedMet enc Tryz.prog Tryz.f3 (OpenSpec.ofChange Rows.fenceDoesSpec) false w args)
      (Rows.fenceDoesSpec.post enc Tryz.prog Tryz.f3 false true false false) := by
  refine returnsInHanded_of_change_and (C := Tryz.checked) (X := fun w _ => laidMetH Tryz.prog laidK w) (fun _ _ _ hh h => h.of_heap hh) own started (by kernel_rfl) Tryz.func3
    (ChangeSpec.witness_shaped (enc := enc) (C := Tryz.checked) (os := os) (X := fun w _ => laidMetH Tryz.prog laidK w) false (World.doorLaid Tryz.prog 400 os) #[.agg #[.int .i64 0, .string ByteArray.empty, .slice none 0 0], .string ByteArray.empty, (.int .i64 0)] 8 rfl (World.shaped_of_RefB (by kernel_rfl) (by kernel_rfl)) (by kernel_rfl) (by kernel_rfl) (by kernel_rfl) (door_met os _)) ?_
  intro W base args ds gs before hval0 hW _ _ hL _
  have hval : ∀ (j : Nat) t v, Tryz.f3.params[j]? = some t → args[j]? = some v → Value.okWide Tryz.prog W .any base t v := hval0
  have hW' := hW
  obtain ⟨p, q, hA0, hV, rfl, hfz, hnd⟩ := hW
  have hA : DataW.TrodAll enc Tryz.prog W 0 (fun _ => true) true Tryz.f3.params.toList args.toList ds p := hA0
  rw [Tryz.params3] at hA hval
  obtain ⟨v0, vs0, d0, ds0, p0, q0, hargs, rfl, rfl, h0, r0⟩ := trodAll_cons hA
  obtain ⟨v1, vs1, d1, ds1, p1, q1, rfl, rfl, rfl, h1, r1⟩ := trodAll_cons r0
  obtain ⟨v2, vs2, d2, ds2, p2, q2, rfl, rfl, rfl, h2, r2⟩ := trodAll_cons r1
  obtain ⟨rfl, rfl, rfl⟩ := trodAll_nil r2
  obtain rfl : args = #[v0, v1, v2] := by cases args; simp_all
  obtain ⟨rfl, rfl⟩ := trodVars_none hV
  obtain ⟨z0, A0, n0, c0, rfl, k0⟩ := open_rs (hval 0 24 v0 rfl rfl) h0
  obtain ⟨a1, rfl, rfl, rfl, w1⟩ := open_string Tryz.underlying9 (hval 1 9 v1 rfl rfl) h1
  obtain ⟨a2, rfl, rfl, rfl, w2⟩ := open_int Tryz.underlying3 (hval 2 3 v2 rfl rfl) h2
  have hlet := letters_of_laid hL
  clear hA0 hval0 hL
  refine (walk W z0 A0 n0 c0 a1 a2 k0 w1 w2 hlet).mono fun e W' ⟨he, bel⟩ => ?_
  subst he
  exact ⟨_, rfl, _, _, _, [], _, [], hW', trodAll_mk1 (shut_bool Tryz.underlying4 _), (trodAll_cons_mk (Below.trod laidOut (by kernel_rfl) (of_decide_eq_true (by kernel_rfl)) h0 bel (fun x hx => hW'.lt x (by simp [hx]))) (trodAll_cons_mk (shut_string Tryz.underlying9 w1) (trodAll_cons_mk (shut_int Tryz.underlying3 w2) trodAll_mk0))), rfl, bel.frame _, fun h => by cases h⟩

theorem over : Rows.FenceDoesSaid :=
  OpenClaim.holds_of_wide 3 Tryz.f3 rfl rfl rfl rfl rfl rfl rfl ⟨rfl, rfl, rfl, rfl, rfl⟩ rfl rfl rfl rfl rfl (by kernel_rfl) Tryz.func3 (by kernel_rfl)
    (of_decide_eq_true (by kernel_rfl)) (by unfold Func.isWrapper; first | (rw [if_pos (by decide +kernel)]; kernel_rfl) | (rw [if_neg (by decide +kernel)]; exact ⟨rfl, rfl⟩))
    (fun os started H enc _ => lifted os started H enc)

theorem plain (f : FuncId) (fn : Func) (hf : Tryz.pinned.checked.prog.funcNamed "baton/batonlaw20.FenceDoes" = some f) (hfn : Tryz.pinned.checked.prog.funcs[f]? = some fn) :
    true = Tryz.pinned.checked.prog.looks [] ∧ ∀ (j : Nat) t, fn.params[j]? = some t → Tryz.pinned.checked.prog.wantsStandIn t = false := by
  obtain rfl : f = 3 := Option.some.inj ((show Tryz.prog.funcNamed "baton/batonlaw20.FenceDoes" = some 3 by kernel_rfl).symm.trans hf) |>.symm
  obtain rfl : fn = Tryz.f3 := (Option.some.inj (Tryz.func3.symm.trans hfn)).symm
  refine ⟨by kernel_rfl, fun j t ht => ?_⟩
  rw [Tryz.params3] at ht
  have hm : t ∈ [24, 9, 3] := by simpa using Array.mem_of_getElem? ht
  have hall : ([24, 9, 3].all fun u => !Tryz.prog.wantsStandIn u) = true := by kernel_rfl
  exact (show Tryz.prog.wantsStandIn t = false by simpa using List.all_eq_true.1 hall t hm)

theorem proved : Rows.FenceDoesCardSaid :=
  Claim7.holds_tied_plain_at .later [] _ _ _ _ over (fun _ h => by cases h) (by kernel_rfl) (fun _ h => by cases h) fenceDoes_row_tie rfl ⟨rfl, rfl⟩ (by kernel_rfl) rfl plain (by kernel_rfl)
#print axioms proved
end Go.Proofs.YtimbklggifbibaaGreatDoor.fenceDoes
