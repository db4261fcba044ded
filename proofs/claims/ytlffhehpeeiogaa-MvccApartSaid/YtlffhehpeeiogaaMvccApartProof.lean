/- For every store and any two lists of things to be done the law MvccApart answers true: two lists that name no key both, done one behind the other in either order, leave the same keys, with the same values, leases and versions. No condition. -/
import Derived.Test.YtlffhehpeeiogaaMvLaysPure
import Derived.Test.YtlffhehpeeiogaaMvOpen
import Derived.Test.YtlffhehpeeiogaaRows
namespace Go.Proofs.Ytlffhehpeeiogaa.mvccApart
open Go.ChangeShapes Go.WideShapes Go.ChangeAt Go.RowKit Go.Proofs.Ytlffhehpeeiogaa.P
open Go.ChangeMaps (open_string shut_string)
set_option linter.unusedVariables false
set_option linter.unusedSimpArgs false
set_option maxHeartbeats 4000000
set_option maxRecDepth 100000

/-- The first j of a have no key of b; the j-th one has none of the first i. -/
structure ApartTo (a b : List Mu) (j : Nat) : Prop where
  out : ∀ x ∈ a.take j, ∀ y ∈ b, teq x.key y.key = false
structure ApartIn (x : Mu) (b : List Mu) (i : Nat) : Prop where
  out : ∀ y ∈ b.take i, teq x.key y.key = false
theorem ApartTo.next {a b : List Mu} {j i : Nat} {x : Mu} (h : ApartTo a b j) (hx : a[j]? = some x) (hi : ApartIn x b i) (hl : b.length = i) : ApartTo a b (j + 1) := ⟨fun z hz y hy => by
  rw [take_succ a j x hx] at hz
  rcases List.mem_append.1 hz with hz | hz
  · exact h.out z hz y hy
  · simp at hz; subst hz
    have := hi.out
    rw [take_full b i hl] at this
    exact this y hy⟩
theorem ApartIn.next {b : List Mu} {i : Nat} {x y : Mu} (h : ApartIn x b i) (hy : b[i]? = some y) (hk : teq x.key y.key = false) : ApartIn x b (i + 1) := ⟨fun z hz => by
  rw [take_succ b i y hy] at hz
  rcases List.mem_append.1 hz with hz | hz
  · exact h.out z hz
  · simp at hz; subst hz; exact hk⟩
theorem apart_zero (a b : List Mu) : ApartTo a b 0 := ⟨fun x hx => by simp at hx⟩
theorem apart_in0 (x : Mu) (b : List Mu) : ApartIn x b 0 := ⟨fun x hx => by simp at hx⟩
theorem proj_at {l m : List KV} (h : l.map projK = m.map projK) {j : Nat} {x y : KV} (hx : l[j]? = some x) (hy : m[j]? = some y) : x.key = y.key ∧ x.val = y.val ∧ x.lea = y.lea ∧ x.ver = y.ver := by
  have h1 : (l.map projK)[j]? = some (projK x) := by rw [List.getElem?_map, hx]; rfl
  have h2 : (m.map projK)[j]? = some (projK y) := by rw [List.getElem?_map, hy]; rfl
  rw [h, h2] at h1
  injection h1 with h1
  injection h1 with e1 e2 _ _ e5 e6
  exact ⟨e1.symm, e2.symm, e6.symm, e5.symm⟩
theorem no_few (w : World) (s0 : St) (A0 : Option Addr) (n0 c0 : Nat) (B0 : Option Addr) (m0 d0 : Nat) (A1 : Option Addr) (n1 c1 : Nat) (l1 : List Mu) (A2 : Option Addr) (n2 c2 : Nat) (l2 : List Mu) (k0 : StAt w s0 A0 n0 c0 B0 m0 d0) (k1 : Mus w A1 n1 c1 l1) (k2 : Mus w A2 n2 c2 l2) (hf : fewS s0 = false) :
    Calls Try.prog 8 #[s0.agg A0 n0 c0 B0 m0 d0, .slice A1 n1 c1, .slice A2 n2 c2] w fun e w' => e = .returned (.bool true) ∧ Below w.heap.size w w' := by
  have HF := Lib.hid hf; clear hf
  have K_0 := Lib.hid (k0.keep (new1 w (.cells (stCells s0 A0 n0 c0 B0 m0 d0) 25)))
  have X_0 := Lib.hid (own_new w (stCells s0 A0 n0 c0 B0 m0 d0) 25)
  have M_0 := Lib.hid (k1.keep (new1 w (.cells (stCells s0 A0 n0 c0 B0 m0 d0) 25)))
  have N_0 := Lib.hid (k2.keep (new1 w (.cells (stCells s0 A0 n0 c0 B0 m0 d0) 25)))
  have B_0 := Lib.hid (new1 w (.cells (stCells s0 A0 n0 c0 B0 m0 d0) 25))
  clear k0 k1 k2
  go_enter Try.func8, Try.ntmps8
  have x0 := X_0.out.cell 0 _ rfl
  have x1 := X_0.out.cell 1 _ rfl
  have x2 := X_0.out.cell 2 _ rfl
  have x3 := X_0.out.cell 3 _ rfl
  go_wp2_with fail
  refine (few_st s0 A0 n0 c0 B0 m0 d0 _ K_0.out).mono ?_; rintro e w1 ⟨rfl, hb⟩
  rw [HF.out]
  have S_1 := Lib.hid hb; clear hb
  have K_2 := Lib.hid (K_0.out.keep S_1.out)
  have X_3 := Lib.hid (X_0.out.below S_1.out)
  have M_4 := Lib.hid (M_0.out.keep S_1.out)
  have N_5 := Lib.hid (N_0.out.keep S_1.out)
  have B_6 := Lib.hid (then_ B_0.out S_1.out)
  clear K_0 X_0 M_0 N_0 B_0
  clear S_1
  clear x0 x1 x2 x3
  go_wp2_with fail
  refine (live_any _).mono ?_; rintro e w2 ⟨rfl, hb⟩
  have S_7 := Lib.hid hb; clear hb
  have K_8 := Lib.hid (K_2.out.keep S_7.out)
  have X_9 := Lib.hid (X_3.out.below S_7.out)
  have M_10 := Lib.hid (M_4.out.keep S_7.out)
  have N_11 := Lib.hid (N_5.out.keep S_7.out)
  have B_12 := Lib.hid (then_ B_6.out S_7.out)
  clear K_2 X_3 M_4 N_5 B_6
  clear S_7
  go_wp2
  go_ret
  exact ⟨rfl, B_12.out⟩
theorem no_may (w : World) (s0 : St) (A0 : Option Addr) (n0 c0 : Nat) (B0 : Option Addr) (m0 d0 : Nat) (A1 : Option Addr) (n1 c1 : Nat) (l1 : List Mu) (A2 : Option Addr) (n2 c2 : Nat) (l2 : List Mu) (k0 : StAt w s0 A0 n0 c0 B0 m0 d0) (k1 : Mus w A1 n1 c1 l1) (k2 : Mus w A2 n2 c2 l2) (hf : fewS s0 = true) (hm : mayB s0 = false) :
    Calls Try.prog 8 #[s0.agg A0 n0 c0 B0 m0 d0, .slice A1 n1 c1, .slice A2 n2 c2] w fun e w' => e = .returned (.bool true) ∧ Below w.heap.size w w' := by
  have HF := Lib.hid hf; clear hf
  have HM := Lib.hid hm; clear hm
  have K_0 := Lib.hid (k0.keep (new1 w (.cells (stCells s0 A0 n0 c0 B0 m0 d0) 25)))
  have X_0 := Lib.hid (own_new w (stCells s0 A0 n0 c0 B0 m0 d0) 25)
  have M_0 := Lib.hid (k1.keep (new1 w (.cells (stCells s0 A0 n0 c0 B0 m0 d0) 25)))
  have N_0 := Lib.hid (k2.keep (new1 w (.cells (stCells s0 A0 n0 c0 B0 m0 d0) 25)))
  have B_0 := Lib.hid (new1 w (.cells (stCells s0 A0 n0 c0 B0 m0 d0) 25))
  clear k0 k1 k2
  go_enter Try.func8, Try.ntmps8
  have x0 := X_0.out.cell 0 _ rfl
  have x1 := X_0.out.cell 1 _ rfl
  have x2 := X_0.out.cell 2 _ rfl
  have x3 := X_0.out.cell 3 _ rfl
  go_wp2_with fail
  refine (few_st s0 A0 n0 c0 B0 m0 d0 _ K_0.out).mono ?_; rintro e w1 ⟨rfl, hb⟩
  rw [HF.out]
  have S_1 := Lib.hid hb; clear hb
  have K_2 := Lib.hid (K_0.out.keep S_1.out)
  have X_3 := Lib.hid (X_0.out.below S_1.out)
  have M_4 := Lib.hid (M_0.out.keep S_1.out)
  have N_5 := Lib.hid (N_0.out.keep S_1.out)
  have B_6 := Lib.hid (then_ B_0.out S_1.out)
  clear K_0 X_0 M_0 N_0 B_0
  clear S_1
  clear x0 x1 x2 x3
  have x0 := X_3.out.cell 0 _ rfl
  have x1 := X_3.out.cell 1 _ rfl
  have x2 := X_3.out.cell 2 _ rfl
  have x3 := X_3.out.cell 3 _ rfl
  go_wp2_with fail
  refine (mvmay_any s0 A0 n0 c0 B0 m0 d0 _ K_2.out).mono ?_; rintro e w2 ⟨rfl, hb⟩
  rw [HM.out]
  have S_7 := Lib.hid hb; clear hb
  have K_8 := Lib.hid (K_2.out.keep S_7.out)
  have X_9 := Lib.hid (X_3.out.below S_7.out)
  have M_10 := Lib.hid (M_4.out.keep S_7.out)
  have N_11 := Lib.hid (N_5.out.keep S_7.out)
  have B_12 := Lib.hid (then_ B_6.out S_7.out)
  clear K_2 X_3 M_4 N_5 B_6
  clear S_7
  clear x0 x1 x2 x3
  go_wp2_with fail
  refine (live_any _).mono ?_; rintro e w3 ⟨rfl, hb⟩
  have S_13 := Lib.hid hb; clear hb
  have K_14 := Lib.hid (K_8.out.keep S_13.out)
  have X_15 := Lib.hid (X_9.out.below S_13.out)
  have M_16 := Lib.hid (M_10.out.keep S_13.out)
  have N_17 := Lib.hid (N_11.out.keep S_13.out)
  have B_18 := Lib.hid (then_ B_12.out S_13.out)
  clear K_8 X_9 M_10 N_11 B_12
  clear S_13
  go_wp2
  go_ret
  exact ⟨rfl, B_18.out⟩
theorem no_len (w : World) (s0 : St) (A0 : Option Addr) (n0 c0 : Nat) (B0 : Option Addr) (m0 d0 : Nat) (A1 : Option Addr) (n1 c1 : Nat) (l1 : List Mu) (A2 : Option Addr) (n2 c2 : Nat) (l2 : List Mu) (k0 : StAt w s0 A0 n0 c0 B0 m0 d0) (k1 : Mus w A1 n1 c1 l1) (k2 : Mus w A2 n2 c2 l2) (hf : fewS s0 = true) (hm : mayB s0 = true) (hn1 : 20 < n1) :
    Calls Try.prog 8 #[s0.agg A0 n0 c0 B0 m0 d0, .slice A1 n1 c1, .slice A2 n2 c2] w fun e w' => e = .returned (.bool true) ∧ Below w.heap.size w w' := by
  have HF := Lib.hid hf; clear hf
  have HM := Lib.hid hm; clear hm
  have K_0 := Lib.hid (k0.keep (new1 w (.cells (stCells s0 A0 n0 c0 B0 m0 d0) 25)))
  have X_0 := Lib.hid (own_new w (stCells s0 A0 n0 c0 B0 m0 d0) 25)
  have M_0 := Lib.hid (k1.keep (new1 w (.cells (stCells s0 A0 n0 c0 B0 m0 d0) 25)))
  have N_0 := Lib.hid (k2.keep (new1 w (.cells (stCells s0 A0 n0 c0 B0 m0 d0) 25)))
  have B_0 := Lib.hid (new1 w (.cells (stCells s0 A0 n0 c0 B0 m0 d0) 25))
  clear k0 k1 k2
  go_enter Try.func8, Try.ntmps8
  have x0 := X_0.out.cell 0 _ rfl
  have x1 := X_0.out.cell 1 _ rfl
  have x2 := X_0.out.cell 2 _ rfl
  have x3 := X_0.out.cell 3 _ rfl
  go_wp2_with fail
  refine (few_st s0 A0 n0 c0 B0 m0 d0 _ K_0.out).mono ?_; rintro e w1 ⟨rfl, hb⟩
  rw [HF.out]
  have S_1 := Lib.hid hb; clear hb
  have K_2 := Lib.hid (K_0.out.keep S_1.out)
  have X_3 := Lib.hid (X_0.out.below S_1.out)
  have M_4 := Lib.hid (M_0.out.keep S_1.out)
  have N_5 := Lib.hid (N_0.out.keep S_1.out)
  have B_6 := Lib.hid (then_ B_0.out S_1.out)
  clear K_0 X_0 M_0 N_0 B_0
  clear S_1
  clear x0 x1 x2 x3
  have x0 := X_3.out.cell 0 _ rfl
  have x1 := X_3.out.cell 1 _ rfl
  have x2 := X_3.out.cell 2 _ rfl
  have x3 := X_3.out.cell 3 _ rfl
  go_wp2_with fail
  refine (mvmay_any s0 A0 n0 c0 B0 m0 d0 _ K_2.out).mono ?_; rintro e w2 ⟨rfl, hb⟩
  rw [HM.out]
  have S_7 := Lib.hid hb; clear hb
  have K_8 := Lib.hid (K_2.out.keep S_7.out)
  have X_9 := Lib.hid (X_3.out.below S_7.out)
  have M_10 := Lib.hid (M_4.out.keep S_7.out)
  have N_11 := Lib.hid (N_5.out.keep S_7.out)
  have B_12 := Lib.hid (then_ B_6.out S_7.out)
  clear K_2 X_3 M_4 N_5 B_6
  clear S_7
  clear x0 x1 x2 x3
  go_wp2_with fail
  refine (live_any _).mono ?_; rintro e w3 ⟨rfl, hb⟩
  have S_13 := Lib.hid hb; clear hb
  have K_14 := Lib.hid (K_8.out.keep S_13.out)
  have X_15 := Lib.hid (X_9.out.below S_13.out)
  have M_16 := Lib.hid (M_10.out.keep S_13.out)
  have N_17 := Lib.hid (N_11.out.keep S_13.out)
  have B_18 := Lib.hid (then_ B_12.out S_13.out)
  clear K_8 X_9 M_10 N_11 B_12
  clear S_13
  go_wp2
  go_ret
  exact ⟨rfl, B_18.out⟩
theorem no_len2 (w : World) (s0 : St) (A0 : Option Addr) (n0 c0 : Nat) (B0 : Option Addr) (m0 d0 : Nat) (A1 : Option Addr) (n1 c1 : Nat) (l1 : List Mu) (A2 : Option Addr) (n2 c2 : Nat) (l2 : List Mu) (k0 : StAt w s0 A0 n0 c0 B0 m0 d0) (k1 : Mus w A1 n1 c1 l1) (k2 : Mus w A2 n2 c2 l2) (hf : fewS s0 = true) (hm : mayB s0 = true) (hn1 : n1 ≤ 20) (hn2 : 20 < n2) :
    Calls Try.prog 8 #[s0.agg A0 n0 c0 B0 m0 d0, .slice A1 n1 c1, .slice A2 n2 c2] w fun e w' => e = .returned (.bool true) ∧ Below w.heap.size w w' := by
  have HF := Lib.hid hf; clear hf
  have HM := Lib.hid hm; clear hm
  have K_0 := Lib.hid (k0.keep (new1 w (.cells (stCells s0 A0 n0 c0 B0 m0 d0) 25)))
  have X_0 := Lib.hid (own_new w (stCells s0 A0 n0 c0 B0 m0 d0) 25)
  have M_0 := Lib.hid (k1.keep (new1 w (.cells (stCells s0 A0 n0 c0 B0 m0 d0) 25)))
  have N_0 := Lib.hid (k2.keep (new1 w (.cells (stCells s0 A0 n0 c0 B0 m0 d0) 25)))
  have B_0 := Lib.hid (new1 w (.cells (stCells s0 A0 n0 c0 B0 m0 d0) 25))
  clear k0 k1 k2
  go_enter Try.func8, Try.ntmps8
  have x0 := X_0.out.cell 0 _ rfl
  have x1 := X_0.out.cell 1 _ rfl
  have x2 := X_0.out.cell 2 _ rfl
  have x3 := X_0.out.cell 3 _ rfl
  go_wp2_with fail
  refine (few_st s0 A0 n0 c0 B0 m0 d0 _ K_0.out).mono ?_; rintro e w1 ⟨rfl, hb⟩
  rw [HF.out]
  have S_1 := Lib.hid hb; clear hb
  have K_2 := Lib.hid (K_0.out.keep S_1.out)
  have X_3 := Lib.hid (X_0.out.below S_1.out)
  have M_4 := Lib.hid (M_0.out.keep S_1.out)
  have N_5 := Lib.hid (N_0.out.keep S_1.out)
  have B_6 := Lib.hid (then_ B_0.out S_1.out)
  clear K_0 X_0 M_0 N_0 B_0
  clear S_1
  clear x0 x1 x2 x3
  have x0 := X_3.out.cell 0 _ rfl
  have x1 := X_3.out.cell 1 _ rfl
  have x2 := X_3.out.cell 2 _ rfl
  have x3 := X_3.out.cell 3 _ rfl
  go_wp2_with fail
  refine (mvmay_any s0 A0 n0 c0 B0 m0 d0 _ K_2.out).mono ?_; rintro e w2 ⟨rfl, hb⟩
  rw [HM.out]
  have S_7 := Lib.hid hb; clear hb
  have K_8 := Lib.hid (K_2.out.keep S_7.out)
  have X_9 := Lib.hid (X_3.out.below S_7.out)
  have M_10 := Lib.hid (M_4.out.keep S_7.out)
  have N_11 := Lib.hid (N_5.out.keep S_7.out)
  have B_12 := Lib.hid (then_ B_6.out S_7.out)
  clear K_2 X_3 M_4 N_5 B_6
  clear S_7
  clear x0 x1 x2 x3
  go_wp2_with fail
  refine (live_any _).mono ?_; rintro e w3 ⟨rfl, hb⟩
  have S_13 := Lib.hid hb; clear hb
  have K_14 := Lib.hid (K_8.out.keep S_13.out)
  have X_15 := Lib.hid (X_9.out.below S_13.out)
  have M_16 := Lib.hid (M_10.out.keep S_13.out)
  have N_17 := Lib.hid (N_11.out.keep S_13.out)
  have B_18 := Lib.hid (then_ B_12.out S_13.out)
  clear K_8 X_9 M_10 N_11 B_12
  clear S_13
  go_wp2
  go_ret
  exact ⟨rfl, B_18.out⟩
theorem no_short (w : World) (s0 : St) (A0 : Option Addr) (n0 c0 : Nat) (B0 : Option Addr) (m0 d0 : Nat) (A1 : Option Addr) (n1 c1 : Nat) (l1 : List Mu) (A2 : Option Addr) (n2 c2 : Nat) (l2 : List Mu) (k0 : StAt w s0 A0 n0 c0 B0 m0 d0) (k1 : Mus w A1 n1 c1 l1) (k2 : Mus w A2 n2 c2 l2) (hf : fewS s0 = true) (hm : mayB s0 = true) (hn1 : n1 ≤ 20) (hn2 : n2 ≤ 20) (hs : l1.all shMu = false) :
    Calls Try.prog 8 #[s0.agg A0 n0 c0 B0 m0 d0, .slice A1 n1 c1, .slice A2 n2 c2] w fun e w' => e = .returned (.bool true) ∧ Below w.heap.size w w' := by
  have HF := Lib.hid hf; clear hf
  have HM := Lib.hid hm; clear hm
  have HS := Lib.hid hs; clear hs
  have K_0 := Lib.hid (k0.keep (new1 w (.cells (stCells s0 A0 n0 c0 B0 m0 d0) 25)))
  have X_0 := Lib.hid (own_new w (stCells s0 A0 n0 c0 B0 m0 d0) 25)
  have M_0 := Lib.hid (k1.keep (new1 w (.cells (stCells s0 A0 n0 c0 B0 m0 d0) 25)))
  have N_0 := Lib.hid (k2.keep (new1 w (.cells (stCells s0 A0 n0 c0 B0 m0 d0) 25)))
  have B_0 := Lib.hid (new1 w (.cells (stCells s0 A0 n0 c0 B0 m0 d0) 25))
  clear k0 k1 k2
  go_enter Try.func8, Try.ntmps8
  have x0 := X_0.out.cell 0 _ rfl
  have x1 := X_0.out.cell 1 _ rfl
  have x2 := X_0.out.cell 2 _ rfl
  have x3 := X_0.out.cell 3 _ rfl
  go_wp2_with fail
  refine (few_st s0 A0 n0 c0 B0 m0 d0 _ K_0.out).mono ?_; rintro e w1 ⟨rfl, hb⟩
  rw [HF.out]
  have S_1 := Lib.hid hb; clear hb
  have K_2 := Lib.hid (K_0.out.keep S_1.out)
  have X_3 := Lib.hid (X_0.out.below S_1.out)
  have M_4 := Lib.hid (M_0.out.keep S_1.out)
  have N_5 := Lib.hid (N_0.out.keep S_1.out)
  have B_6 := Lib.hid (then_ B_0.out S_1.out)
  clear K_0 X_0 M_0 N_0 B_0
  clear S_1
  clear x0 x1 x2 x3
  have x0 := X_3.out.cell 0 _ rfl
  have x1 := X_3.out.cell 1 _ rfl
  have x2 := X_3.out.cell 2 _ rfl
  have x3 := X_3.out.cell 3 _ rfl
  go_wp2_with fail
  refine (mvmay_any s0 A0 n0 c0 B0 m0 d0 _ K_2.out).mono ?_; rintro e w2 ⟨rfl, hb⟩
  rw [HM.out]
  have S_7 := Lib.hid hb; clear hb
  have K_8 := Lib.hid (K_2.out.keep S_7.out)
  have X_9 := Lib.hid (X_3.out.below S_7.out)
  have M_10 := Lib.hid (M_4.out.keep S_7.out)
  have N_11 := Lib.hid (N_5.out.keep S_7.out)
  have B_12 := Lib.hid (then_ B_6.out S_7.out)
  clear K_2 X_3 M_4 N_5 B_6
  clear S_7
  clear x0 x1 x2 x3
  go_wp2_with fail
  refine (short_any A1 n1 c1 l1 _ M_10.out).mono ?_; rintro e w' ⟨rfl, rfl⟩
  rw [HS.out]
  go_wp2_with fail
  refine (live_any _).mono ?_; rintro e w3 ⟨rfl, hb⟩
  have S_13 := Lib.hid hb; clear hb
  have K_14 := Lib.hid (K_8.out.keep S_13.out)
  have X_15 := Lib.hid (X_9.out.below S_13.out)
  have M_16 := Lib.hid (M_10.out.keep S_13.out)
  have N_17 := Lib.hid (N_11.out.keep S_13.out)
  have B_18 := Lib.hid (then_ B_12.out S_13.out)
  clear K_8 X_9 M_10 N_11 B_12
  clear S_13
  go_wp2
  go_ret
  exact ⟨rfl, B_18.out⟩
theorem no_short2 (w : World) (s0 : St) (A0 : Option Addr) (n0 c0 : Nat) (B0 : Option Addr) (m0 d0 : Nat) (A1 : Option Addr) (n1 c1 : Nat) (l1 : List Mu) (A2 : Option Addr) (n2 c2 : Nat) (l2 : List Mu) (k0 : StAt w s0 A0 n0 c0 B0 m0 d0) (k1 : Mus w A1 n1 c1 l1) (k2 : Mus w A2 n2 c2 l2) (hf : fewS s0 = true) (hm : mayB s0 = true) (hn1 : n1 ≤ 20) (hn2 : n2 ≤ 20) (hs : l1.all shMu = true) (ht : l2.all shMu = false) :
    Calls Try.prog 8 #[s0.agg A0 n0 c0 B0 m0 d0, .slice A1 n1 c1, .slice A2 n2 c2] w fun e w' => e = .returned (.bool true) ∧ Below w.heap.size w w' := by
  have HF := Lib.hid hf; clear hf
  have HM := Lib.hid hm; clear hm
  have HS := Lib.hid hs; clear hs
  have HT := Lib.hid ht; clear ht
  have K_0 := Lib.hid (k0.keep (new1 w (.cells (stCells s0 A0 n0 c0 B0 m0 d0) 25)))
  have X_0 := Lib.hid (own_new w (stCells s0 A0 n0 c0 B0 m0 d0) 25)
  have M_0 := Lib.hid (k1.keep (new1 w (.cells (stCells s0 A0 n0 c0 B0 m0 d0) 25)))
  have N_0 := Lib.hid (k2.keep (new1 w (.cells (stCells s0 A0 n0 c0 B0 m0 d0) 25)))
  have B_0 := Lib.hid (new1 w (.cells (stCells s0 A0 n0 c0 B0 m0 d0) 25))
  clear k0 k1 k2
  go_enter Try.func8, Try.ntmps8
  have x0 := X_0.out.cell 0 _ rfl
  have x1 := X_0.out.cell 1 _ rfl
  have x2 := X_0.out.cell 2 _ rfl
  have x3 := X_0.out.cell 3 _ rfl
  go_wp2_with fail
  refine (few_st s0 A0 n0 c0 B0 m0 d0 _ K_0.out).mono ?_; rintro e w1 ⟨rfl, hb⟩
  rw [HF.out]
  have S_1 := Lib.hid hb; clear hb
  have K_2 := Lib.hid (K_0.out.keep S_1.out)
  have X_3 := Lib.hid (X_0.out.below S_1.out)
  have M_4 := Lib.hid (M_0.out.keep S_1.out)
  have N_5 := Lib.hid (N_0.out.keep S_1.out)
  have B_6 := Lib.hid (then_ B_0.out S_1.out)
  clear K_0 X_0 M_0 N_0 B_0
  clear S_1
  clear x0 x1 x2 x3
  have x0 := X_3.out.cell 0 _ rfl
  have x1 := X_3.out.cell 1 _ rfl
  have x2 := X_3.out.cell 2 _ rfl
  have x3 := X_3.out.cell 3 _ rfl
  go_wp2_with fail
  refine (mvmay_any s0 A0 n0 c0 B0 m0 d0 _ K_2.out).mono ?_; rintro e w2 ⟨rfl, hb⟩
  rw [HM.out]
  have S_7 := Lib.hid hb; clear hb
  have K_8 := Lib.hid (K_2.out.keep S_7.out)
  have X_9 := Lib.hid (X_3.out.below S_7.out)
  have M_10 := Lib.hid (M_4.out.keep S_7.out)
  have N_11 := Lib.hid (N_5.out.keep S_7.out)
  have B_12 := Lib.hid (then_ B_6.out S_7.out)
  clear K_2 X_3 M_4 N_5 B_6
  clear S_7
  clear x0 x1 x2 x3
  go_wp2_with fail
  refine (short_any A1 n1 c1 l1 _ M_10.out).mono ?_; rintro e w' ⟨rfl, rfl⟩
  rw [HS.out]
  go_wp2_with fail
  refine (short_any A2 n2 c2 l2 _ N_11.out).mono ?_; rintro e w' ⟨rfl, rfl⟩
  rw [HT.out]
  go_wp2_with fail
  refine (live_any _).mono ?_; rintro e w3 ⟨rfl, hb⟩
  have S_13 := Lib.hid hb; clear hb
  have K_14 := Lib.hid (K_8.out.keep S_13.out)
  have X_15 := Lib.hid (X_9.out.below S_13.out)
  have M_16 := Lib.hid (M_10.out.keep S_13.out)
  have N_17 := Lib.hid (N_11.out.keep S_13.out)
  have B_18 := Lib.hid (then_ B_12.out S_13.out)
  clear K_8 X_9 M_10 N_11 B_12
  clear S_13
  go_wp2
  go_ret
  exact ⟨rfl, B_18.out⟩
theorem err1 (w : World) (s0 : St) (A0 : Option Addr) (n0 c0 : Nat) (B0 : Option Addr) (m0 d0 : Nat) (A1 : Option Addr) (n1 c1 : Nat) (l1 : List Mu) (A2 : Option Addr) (n2 c2 : Nat) (l2 : List Mu) (k0 : StAt w s0 A0 n0 c0 B0 m0 d0) (k1 : Mus w A1 n1 c1 l1) (k2 : Mus w A2 n2 c2 l2) (hf : fewS s0 = true) (hm : mayB s0 = true) (hn1 : n1 ≤ 20) (hn2 : n2 ≤ 20) (hs : l1.all shMu = true) (ht : l2.all shMu = true)  (e1 : applyE s0 l1 ≠ 0) :
    Calls Try.prog 8 #[s0.agg A0 n0 c0 B0 m0 d0, .slice A1 n1 c1, .slice A2 n2 c2] w fun e w' => e = .returned (.bool true) ∧ Below w.heap.size w w' := by
  have HF := Lib.hid hf; have HM := Lib.hid hm; have HS := Lib.hid hs; have HT := Lib.hid ht; have MS := Lib.hid (may_st.1 hm)
  have hb0 := k0.kv.len; have hb1 := k0.ev.len; have hb2 := MS.out.good.len; have hb3 := MS.out.len
  have M1 := Lib.hid (apply_may MS.out l1); have M2 := Lib.hid (apply_may M1.out l2); have M3 := Lib.hid (apply_may MS.out l2); have M4 := Lib.hid (apply_may M3.out l1)
  have he1 : (applyE s0 l1 != 0) = true := by simp [e1]
  clear hf hm hs ht e1
  have HL1 := Lib.hid k1.len; have HL2 := Lib.hid k2.len
  have K_0 := Lib.hid (k0.keep (new1 w (.cells (stCells s0 A0 n0 c0 B0 m0 d0) 25)))
  have X_0 := Lib.hid (own_new w (stCells s0 A0 n0 c0 B0 m0 d0) 25)
  have M_0 := Lib.hid (k1.keep (new1 w (.cells (stCells s0 A0 n0 c0 B0 m0 d0) 25)))
  have N_0 := Lib.hid (k2.keep (new1 w (.cells (stCells s0 A0 n0 c0 B0 m0 d0) 25)))
  have B_0 := Lib.hid (new1 w (.cells (stCells s0 A0 n0 c0 B0 m0 d0) 25))
  clear k0 k1 k2
  go_enter Try.func8, Try.ntmps8
  have x0 := X_0.out.cell 0 _ rfl
  have x1 := X_0.out.cell 1 _ rfl
  have x2 := X_0.out.cell 2 _ rfl
  have x3 := X_0.out.cell 3 _ rfl
  go_wp2_with fail
  refine (few_st s0 A0 n0 c0 B0 m0 d0 _ K_0.out).mono ?_; rintro e w1 ⟨rfl, hb⟩
  rw [HF.out]
  have S_1 := Lib.hid hb; clear hb
  have K_2 := Lib.hid (K_0.out.keep S_1.out)
  have X_3 := Lib.hid (X_0.out.below S_1.out)
  have M_4 := Lib.hid (M_0.out.keep S_1.out)
  have N_5 := Lib.hid (N_0.out.keep S_1.out)
  have B_6 := Lib.hid (then_ B_0.out S_1.out)
  clear K_0 X_0 M_0 N_0 B_0
  clear S_1
  clear x0 x1 x2 x3
  have x0 := X_3.out.cell 0 _ rfl
  have x1 := X_3.out.cell 1 _ rfl
  have x2 := X_3.out.cell 2 _ rfl
  have x3 := X_3.out.cell 3 _ rfl
  go_wp2_with fail
  refine (mvmay_any s0 A0 n0 c0 B0 m0 d0 _ K_2.out).mono ?_; rintro e w2 ⟨rfl, hb⟩
  rw [HM.out]
  have S_7 := Lib.hid hb; clear hb
  have K_8 := Lib.hid (K_2.out.keep S_7.out)
  have X_9 := Lib.hid (X_3.out.below S_7.out)
  have M_10 := Lib.hid (M_4.out.keep S_7.out)
  have N_11 := Lib.hid (N_5.out.keep S_7.out)
  have B_12 := Lib.hid (then_ B_6.out S_7.out)
  clear K_2 X_3 M_4 N_5 B_6
  clear S_7
  clear x0 x1 x2 x3
  go_wp2_with fail
  refine (short_any A1 n1 c1 l1 _ M_10.out).mono ?_; rintro e w' ⟨rfl, rfl⟩
  rw [HS.out]
  go_wp2_with fail
  refine (short_any A2 n2 c2 l2 _ N_11.out).mono ?_; rintro e w' ⟨rfl, rfl⟩
  rw [HT.out]
  go_wp2
  go_loopw [7] (fun iv wr => ∃ j q : Nat, j ≤ n1 ∧ iv = .int .i64 j ∧ ApartTo l1 l2 j ∧ wr = w2.drewN q) (fun iv _ => n1 - (intOf iv).toNat)
  case atStart => exact ⟨0, 0, Nat.zero_le _, rfl, apart_zero _ _, rfl⟩
  case round =>
    obtain ⟨j, q, hj, rfl, hap, rfl⟩ := hrel
    have AT := Lib.hid hap
    clear hap
    by_cases hlt : j < n1
    · obtain ⟨a, x, rfl, hbl, hx, hok, hc⟩ := M_10.out.at_ hlt
      obtain ⟨c0, c1, c2, c3⟩ := hc
      have HX := Lib.hid hx
      clear hx hok hbl
      go_wp2
      go_loopw [8] (fun kv wr => ∃ i r : Nat, i ≤ n2 ∧ kv = .int .i64 i ∧ ApartIn x l2 i ∧ wr = w2.drewN r) (fun kv _ => n2 - (intOf kv).toNat)
      case atStart => exact ⟨0, q, Nat.zero_le _, rfl, apart_in0 _ _, rfl⟩
      case round =>
        obtain ⟨i, r, hi, rfl, hin, rfl⟩ := hrel
        have AI := Lib.hid hin
        clear hin
        by_cases hlt2 : i < n2
        · obtain ⟨b, y, rfl, gbl, hy, gok, gc⟩ := N_11.out.at_ hlt2
          obtain ⟨g0, g1, g2, g3⟩ := gc
          have HY := Lib.hid hy
          clear hy gok gbl
          cases hk : teq x.key y.key with
          | true =>
            unfold teq at hk
            go_wp2
            go_quiet (fail)
            go_wp2_with fail
            refine (live_any _).mono ?_; rintro e w9 ⟨rfl, hb⟩
            have BB := Lib.hid (then_ B_12.out (then_ (below_drewN (Below.refl _ _) _) hb)); clear hb
            go_wp2
            go_ret
            exact ⟨rfl, BB.out⟩
          | false =>
            have NX := Lib.hid (AI.out.next HY.out hk)
            unfold teq at hk
            go_wp2
            go_quiet (fail)
            go_wp2
            go_roundw
            case rel => exact ⟨i + 1, _, by omega, by go_num, NX.out, rfl⟩
            case measure => simp [intOf]; omega
        · obtain rfl : i = n2 := by omega
          have NX := Lib.hid (AT.out.next HX.out AI.out HL2.out)
          go_wp2
          go_roundw
          case rel => exact ⟨j + 1, _, by omega, by go_num, NX.out, rfl⟩
          case measure => simp [intOf]; omega
    · obtain rfl : n1 = j := by omega
      obtain ⟨wz, hwz⟩ : ∃ wz, wz = w2.drewN q := ⟨_, rfl⟩
      rw [← hwz]
      have SZ : Hid (Below w2.heap.size w2 wz) := Lib.hid (by rw [hwz]; exact below_drewN (Below.refl _ _) _)
      clear hwz hlt hj
      have K_13 := Lib.hid (K_8.out.keep SZ.out)
      have X_14 := Lib.hid (X_9.out.below SZ.out)
      have M_15 := Lib.hid (M_10.out.keep SZ.out)
      have N_16 := Lib.hid (N_11.out.keep SZ.out)
      have B_17 := Lib.hid (then_ B_12.out SZ.out)
      clear K_8 X_9 M_10 N_11 B_12
      clear SZ
      have x0 := X_14.out.cell 0 _ rfl
      have x1 := X_14.out.cell 1 _ rfl
      have x2 := X_14.out.cell 2 _ rfl
      have x3 := X_14.out.cell 3 _ rfl
      go_wp2_with fail
      refine (apply_any s0 A0 n0 c0 B0 m0 d0 A1 n1 c1 l1 _ K_13.out M_15.out MS.out).mono ?_; rintro e w3 ⟨P1, p1, q1, Q1, u1, v1, E1, en1, ec1, rfl, h1, _, hb⟩
      have S_18 := Lib.hid hb; clear hb
      have K_19 := Lib.hid (K_13.out.keep S_18.out)
      have X_20 := Lib.hid (X_14.out.below S_18.out)
      have M_21 := Lib.hid (M_15.out.keep S_18.out)
      have N_22 := Lib.hid (N_16.out.keep S_18.out)
      have B_23 := Lib.hid (then_ B_17.out S_18.out)
      clear K_13 X_14 M_15 N_16 B_17
      clear S_18
      clear x0 x1 x2 x3
      have L1_24 := Lib.hid (h1)
      clear h1
      have K_25 := Lib.hid (K_19.out.keep (new1 w3 (.cells (#[.int .i64 (applyS s0 l1).rev, .int .i64 (applyS s0 l1).low, .slice P1 p1 q1, .slice Q1 u1 v1]) 25)))
      have X_26 := Lib.hid (X_20.out.below (new1 w3 (.cells (#[.int .i64 (applyS s0 l1).rev, .int .i64 (applyS s0 l1).low, .slice P1 p1 q1, .slice Q1 u1 v1]) 25)))
      have M_27 := Lib.hid (M_21.out.keep (new1 w3 (.cells (#[.int .i64 (applyS s0 l1).rev, .int .i64 (applyS s0 l1).low, .slice P1 p1 q1, .slice Q1 u1 v1]) 25)))
      have N_28 := Lib.hid (N_22.out.keep (new1 w3 (.cells (#[.int .i64 (applyS s0 l1).rev, .int .i64 (applyS s0 l1).low, .slice P1 p1 q1, .slice Q1 u1 v1]) 25)))
      have L1_29 := Lib.hid (L1_24.out.keep (new1 w3 (.cells (#[.int .i64 (applyS s0 l1).rev, .int .i64 (applyS s0 l1).low, .slice P1 p1 q1, .slice Q1 u1 v1]) 25)))
      have B_30 := Lib.hid (then_ B_23.out (new1 w3 (.cells (#[.int .i64 (applyS s0 l1).rev, .int .i64 (applyS s0 l1).low, .slice P1 p1 q1, .slice Q1 u1 v1]) 25)))
      clear K_19 X_20 M_21 N_22 L1_24 B_23
      have R1_31 := Lib.hid (own_new w3 (#[.int .i64 (applyS s0 l1).rev, .int .i64 (applyS s0 l1).low, .slice P1 p1 q1, .slice Q1 u1 v1]) 25)
      have x0 := R1_31.out.cell 0 _ rfl
      have x1 := R1_31.out.cell 1 _ rfl
      have x2 := R1_31.out.cell 2 _ rfl
      have x3 := R1_31.out.cell 3 _ rfl
      go_wp2_with fail
      refine (apply_any (applyS s0 l1) P1 p1 q1 Q1 u1 v1 A2 n2 c2 l2 _ L1_29.out N_28.out M1.out).mono ?_; rintro e w4 ⟨P2, p2, q2, Q2, u2, v2, E2, en2, ec2, rfl, h2, _, hb⟩
      have S_32 := Lib.hid hb; clear hb
      have K_33 := Lib.hid (K_25.out.keep S_32.out)
      have X_34 := Lib.hid (X_26.out.below S_32.out)
      have M_35 := Lib.hid (M_27.out.keep S_32.out)
      have N_36 := Lib.hid (N_28.out.keep S_32.out)
      have L1_37 := Lib.hid (L1_29.out.keep S_32.out)
      have R1_38 := Lib.hid (R1_31.out.below S_32.out)
      have B_39 := Lib.hid (then_ B_30.out S_32.out)
      clear K_25 X_26 M_27 N_28 L1_29 R1_31 B_30
      clear S_32
      clear x0 x1 x2 x3
      have L2_40 := Lib.hid (h2)
      clear h2
      have K_41 := Lib.hid (K_33.out.keep (new1 w4 (.cells (#[.int .i64 (applyS (applyS s0 l1) l2).rev, .int .i64 (applyS (applyS s0 l1) l2).low, .slice P2 p2 q2, .slice Q2 u2 v2]) 25)))
      have X_42 := Lib.hid (X_34.out.below (new1 w4 (.cells (#[.int .i64 (applyS (applyS s0 l1) l2).rev, .int .i64 (applyS (applyS s0 l1) l2).low, .slice P2 p2 q2, .slice Q2 u2 v2]) 25)))
      have M_43 := Lib.hid (M_35.out.keep (new1 w4 (.cells (#[.int .i64 (applyS (applyS s0 l1) l2).rev, .int .i64 (applyS (applyS s0 l1) l2).low, .slice P2 p2 q2, .slice Q2 u2 v2]) 25)))
      have N_44 := Lib.hid (N_36.out.keep (new1 w4 (.cells (#[.int .i64 (applyS (applyS s0 l1) l2).rev, .int .i64 (applyS (applyS s0 l1) l2).low, .slice P2 p2 q2, .slice Q2 u2 v2]) 25)))
      have L1_45 := Lib.hid (L1_37.out.keep (new1 w4 (.cells (#[.int .i64 (applyS (applyS s0 l1) l2).rev, .int .i64 (applyS (applyS s0 l1) l2).low, .slice P2 p2 q2, .slice Q2 u2 v2]) 25)))
      have R1_46 := Lib.hid (R1_38.out.below (new1 w4 (.cells (#[.int .i64 (applyS (applyS s0 l1) l2).rev, .int .i64 (applyS (applyS s0 l1) l2).low, .slice P2 p2 q2, .slice Q2 u2 v2]) 25)))
      have L2_47 := Lib.hid (L2_40.out.keep (new1 w4 (.cells (#[.int .i64 (applyS (applyS s0 l1) l2).rev, .int .i64 (applyS (applyS s0 l1) l2).low, .slice P2 p2 q2, .slice Q2 u2 v2]) 25)))
      have B_48 := Lib.hid (then_ B_39.out (new1 w4 (.cells (#[.int .i64 (applyS (applyS s0 l1) l2).rev, .int .i64 (applyS (applyS s0 l1) l2).low, .slice P2 p2 q2, .slice Q2 u2 v2]) 25)))
      clear K_33 X_34 M_35 N_36 L1_37 R1_38 L2_40 B_39
      have R2_49 := Lib.hid (own_new w4 (#[.int .i64 (applyS (applyS s0 l1) l2).rev, .int .i64 (applyS (applyS s0 l1) l2).low, .slice P2 p2 q2, .slice Q2 u2 v2]) 25)
      have x0 := X_42.out.cell 0 _ rfl
      have x1 := X_42.out.cell 1 _ rfl
      have x2 := X_42.out.cell 2 _ rfl
      have x3 := X_42.out.cell 3 _ rfl
      go_wp2_with fail
      refine (apply_any s0 A0 n0 c0 B0 m0 d0 A2 n2 c2 l2 _ K_41.out N_44.out MS.out).mono ?_; rintro e w5 ⟨P3, p3, q3, Q3, u3, v3, E3, en3, ec3, rfl, h3, _, hb⟩
      have S_50 := Lib.hid hb; clear hb
      have K_51 := Lib.hid (K_41.out.keep S_50.out)
      have X_52 := Lib.hid (X_42.out.below S_50.out)
      have M_53 := Lib.hid (M_43.out.keep S_50.out)
      have N_54 := Lib.hid (N_44.out.keep S_50.out)
      have L1_55 := Lib.hid (L1_45.out.keep S_50.out)
      have R1_56 := Lib.hid (R1_46.out.below S_50.out)
      have L2_57 := Lib.hid (L2_47.out.keep S_50.out)
      have R2_58 := Lib.hid (R2_49.out.below S_50.out)
      have B_59 := Lib.hid (then_ B_48.out S_50.out)
      clear K_41 X_42 M_43 N_44 L1_45 R1_46 L2_47 R2_49 B_48
      clear S_50
      clear x0 x1 x2 x3
      have L3_60 := Lib.hid (h3)
      clear h3
      have K_61 := Lib.hid (K_51.out.keep (new1 w5 (.cells (#[.int .i64 (applyS s0 l2).rev, .int .i64 (applyS s0 l2).low, .slice P3 p3 q3, .slice Q3 u3 v3]) 25)))
      have X_62 := Lib.hid (X_52.out.below (new1 w5 (.cells (#[.int .i64 (applyS s0 l2).rev, .int .i64 (applyS s0 l2).low, .slice P3 p3 q3, .slice Q3 u3 v3]) 25)))
      have M_63 := Lib.hid (M_53.out.keep (new1 w5 (.cells (#[.int .i64 (applyS s0 l2).rev, .int .i64 (applyS s0 l2).low, .slice P3 p3 q3, .slice Q3 u3 v3]) 25)))
      have N_64 := Lib.hid (N_54.out.keep (new1 w5 (.cells (#[.int .i64 (applyS s0 l2).rev, .int .i64 (applyS s0 l2).low, .slice P3 p3 q3, .slice Q3 u3 v3]) 25)))
      have L1_65 := Lib.hid (L1_55.out.keep (new1 w5 (.cells (#[.int .i64 (applyS s0 l2).rev, .int .i64 (applyS s0 l2).low, .slice P3 p3 q3, .slice Q3 u3 v3]) 25)))
      have R1_66 := Lib.hid (R1_56.out.below (new1 w5 (.cells (#[.int .i64 (applyS s0 l2).rev, .int .i64 (applyS s0 l2).low, .slice P3 p3 q3, .slice Q3 u3 v3]) 25)))
      have L2_67 := Lib.hid (L2_57.out.keep (new1 w5 (.cells (#[.int .i64 (applyS s0 l2).rev, .int .i64 (applyS s0 l2).low, .slice P3 p3 q3, .slice Q3 u3 v3]) 25)))
      have R2_68 := Lib.hid (R2_58.out.below (new1 w5 (.cells (#[.int .i64 (applyS s0 l2).rev, .int .i64 (applyS s0 l2).low, .slice P3 p3 q3, .slice Q3 u3 v3]) 25)))
      have L3_69 := Lib.hid (L3_60.out.keep (new1 w5 (.cells (#[.int .i64 (applyS s0 l2).rev, .int .i64 (applyS s0 l2).low, .slice P3 p3 q3, .slice Q3 u3 v3]) 25)))
      have B_70 := Lib.hid (then_ B_59.out (new1 w5 (.cells (#[.int .i64 (applyS s0 l2).rev, .int .i64 (applyS s0 l2).low, .slice P3 p3 q3, .slice Q3 u3 v3]) 25)))
      clear K_51 X_52 M_53 N_54 L1_55 R1_56 L2_57 R2_58 L3_60 B_59
      have R3_71 := Lib.hid (own_new w5 (#[.int .i64 (applyS s0 l2).rev, .int .i64 (applyS s0 l2).low, .slice P3 p3 q3, .slice Q3 u3 v3]) 25)
      have x0 := R3_71.out.cell 0 _ rfl
      have x1 := R3_71.out.cell 1 _ rfl
      have x2 := R3_71.out.cell 2 _ rfl
      have x3 := R3_71.out.cell 3 _ rfl
      go_wp2_with fail
      refine (apply_any (applyS s0 l2) P3 p3 q3 Q3 u3 v3 A1 n1 c1 l1 _ L3_69.out M_63.out M3.out).mono ?_; rintro e w6 ⟨P4, p4, q4, Q4, u4, v4, E4, en4, ec4, rfl, h4, _, hb⟩
      have S_72 := Lib.hid hb; clear hb
      have K_73 := Lib.hid (K_61.out.keep S_72.out)
      have X_74 := Lib.hid (X_62.out.below S_72.out)
      have M_75 := Lib.hid (M_63.out.keep S_72.out)
      have N_76 := Lib.hid (N_64.out.keep S_72.out)
      have L1_77 := Lib.hid (L1_65.out.keep S_72.out)
      have R1_78 := Lib.hid (R1_66.out.below S_72.out)
      have L2_79 := Lib.hid (L2_67.out.keep S_72.out)
      have R2_80 := Lib.hid (R2_68.out.below S_72.out)
      have L3_81 := Lib.hid (L3_69.out.keep S_72.out)
      have R3_82 := Lib.hid (R3_71.out.below S_72.out)
      have B_83 := Lib.hid (then_ B_70.out S_72.out)
      clear K_61 X_62 M_63 N_64 L1_65 R1_66 L2_67 R2_68 L3_69 R3_71 B_70
      clear S_72
      clear x0 x1 x2 x3
      have L4_84 := Lib.hid (h4)
      clear h4
      have K_85 := Lib.hid (K_73.out.keep (new1 w6 (.cells (#[.int .i64 (applyS (applyS s0 l2) l1).rev, .int .i64 (applyS (applyS s0 l2) l1).low, .slice P4 p4 q4, .slice Q4 u4 v4]) 25)))
      have X_86 := Lib.hid (X_74.out.below (new1 w6 (.cells (#[.int .i64 (applyS (applyS s0 l2) l1).rev, .int .i64 (applyS (applyS s0 l2) l1).low, .slice P4 p4 q4, .slice Q4 u4 v4]) 25)))
      have M_87 := Lib.hid (M_75.out.keep (new1 w6 (.cells (#[.int .i64 (applyS (applyS s0 l2) l1).rev, .int .i64 (applyS (applyS s0 l2) l1).low, .slice P4 p4 q4, .slice Q4 u4 v4]) 25)))
      have N_88 := Lib.hid (N_76.out.keep (new1 w6 (.cells (#[.int .i64 (applyS (applyS s0 l2) l1).rev, .int .i64 (applyS (applyS s0 l2) l1).low, .slice P4 p4 q4, .slice Q4 u4 v4]) 25)))
      have L1_89 := Lib.hid (L1_77.out.keep (new1 w6 (.cells (#[.int .i64 (applyS (applyS s0 l2) l1).rev, .int .i64 (applyS (applyS s0 l2) l1).low, .slice P4 p4 q4, .slice Q4 u4 v4]) 25)))
      have R1_90 := Lib.hid (R1_78.out.below (new1 w6 (.cells (#[.int .i64 (applyS (applyS s0 l2) l1).rev, .int .i64 (applyS (applyS s0 l2) l1).low, .slice P4 p4 q4, .slice Q4 u4 v4]) 25)))
      have L2_91 := Lib.hid (L2_79.out.keep (new1 w6 (.cells (#[.int .i64 (applyS (applyS s0 l2) l1).rev, .int .i64 (applyS (applyS s0 l2) l1).low, .slice P4 p4 q4, .slice Q4 u4 v4]) 25)))
      have R2_92 := Lib.hid (R2_80.out.below (new1 w6 (.cells (#[.int .i64 (applyS (applyS s0 l2) l1).rev, .int .i64 (applyS (applyS s0 l2) l1).low, .slice P4 p4 q4, .slice Q4 u4 v4]) 25)))
      have L3_93 := Lib.hid (L3_81.out.keep (new1 w6 (.cells (#[.int .i64 (applyS (applyS s0 l2) l1).rev, .int .i64 (applyS (applyS s0 l2) l1).low, .slice P4 p4 q4, .slice Q4 u4 v4]) 25)))
      have R3_94 := Lib.hid (R3_82.out.below (new1 w6 (.cells (#[.int .i64 (applyS (applyS s0 l2) l1).rev, .int .i64 (applyS (applyS s0 l2) l1).low, .slice P4 p4 q4, .slice Q4 u4 v4]) 25)))
      have L4_95 := Lib.hid (L4_84.out.keep (new1 w6 (.cells (#[.int .i64 (applyS (applyS s0 l2) l1).rev, .int .i64 (applyS (applyS s0 l2) l1).low, .slice P4 p4 q4, .slice Q4 u4 v4]) 25)))
      have B_96 := Lib.hid (then_ B_83.out (new1 w6 (.cells (#[.int .i64 (applyS (applyS s0 l2) l1).rev, .int .i64 (applyS (applyS s0 l2) l1).low, .slice P4 p4 q4, .slice Q4 u4 v4]) 25)))
      clear K_73 X_74 M_75 N_76 L1_77 R1_78 L2_79 R2_80 L3_81 R3_82 L4_84 B_83
      have R4_97 := Lib.hid (own_new w6 (#[.int .i64 (applyS (applyS s0 l2) l1).rev, .int .i64 (applyS (applyS s0 l2) l1).low, .slice P4 p4 q4, .slice Q4 u4 v4]) 25)
      go_wp2_with fail
      refine (live_any _).mono ?_; rintro e w7 ⟨rfl, hb⟩
      have S_98 := Lib.hid hb; clear hb
      have K_99 := Lib.hid (K_85.out.keep S_98.out)
      have X_100 := Lib.hid (X_86.out.below S_98.out)
      have M_101 := Lib.hid (M_87.out.keep S_98.out)
      have N_102 := Lib.hid (N_88.out.keep S_98.out)
      have L1_103 := Lib.hid (L1_89.out.keep S_98.out)
      have R1_104 := Lib.hid (R1_90.out.below S_98.out)
      have L2_105 := Lib.hid (L2_91.out.keep S_98.out)
      have R2_106 := Lib.hid (R2_92.out.below S_98.out)
      have L3_107 := Lib.hid (L3_93.out.keep S_98.out)
      have R3_108 := Lib.hid (R3_94.out.below S_98.out)
      have L4_109 := Lib.hid (L4_95.out.keep S_98.out)
      have R4_110 := Lib.hid (R4_97.out.below S_98.out)
      have B_111 := Lib.hid (then_ B_96.out S_98.out)
      clear K_85 X_86 M_87 N_88 L1_89 R1_90 L2_91 R2_92 L3_93 R3_94 L4_95 R4_97 B_96
      clear S_98
      go_wp2
      go_ret
      exact ⟨rfl, B_111.out⟩
theorem err2 (w : World) (s0 : St) (A0 : Option Addr) (n0 c0 : Nat) (B0 : Option Addr) (m0 d0 : Nat) (A1 : Option Addr) (n1 c1 : Nat) (l1 : List Mu) (A2 : Option Addr) (n2 c2 : Nat) (l2 : List Mu) (k0 : StAt w s0 A0 n0 c0 B0 m0 d0) (k1 : Mus w A1 n1 c1 l1) (k2 : Mus w A2 n2 c2 l2) (hf : fewS s0 = true) (hm : mayB s0 = true) (hn1 : n1 ≤ 20) (hn2 : n2 ≤ 20) (hs : l1.all shMu = true) (ht : l2.all shMu = true) (e1 : applyE s0 l1 = 0) (e2 : applyE (applyS s0 l1) l2 ≠ 0) :
    Calls Try.prog 8 #[s0.agg A0 n0 c0 B0 m0 d0, .slice A1 n1 c1, .slice A2 n2 c2] w fun e w' => e = .returned (.bool true) ∧ Below w.heap.size w w' := by
  have HF := Lib.hid hf; have HM := Lib.hid hm; have HS := Lib.hid hs; have HT := Lib.hid ht; have MS := Lib.hid (may_st.1 hm)
  have hb0 := k0.kv.len; have hb1 := k0.ev.len; have hb2 := MS.out.good.len; have hb3 := MS.out.len
  have M1 := Lib.hid (apply_may MS.out l1); have M2 := Lib.hid (apply_may M1.out l2); have M3 := Lib.hid (apply_may MS.out l2); have M4 := Lib.hid (apply_may M3.out l1)
  have he1 : (applyE s0 l1 != 0) = false := by simp [e1]
  have he2 : (applyE (applyS s0 l1) l2 != 0) = true := by simp [e2]
  clear hf hm hs ht e1 e2
  have HL1 := Lib.hid k1.len; have HL2 := Lib.hid k2.len
  have K_0 := Lib.hid (k0.keep (new1 w (.cells (stCells s0 A0 n0 c0 B0 m0 d0) 25)))
  have X_0 := Lib.hid (own_new w (stCells s0 A0 n0 c0 B0 m0 d0) 25)
  have M_0 := Lib.hid (k1.keep (new1 w (.cells (stCells s0 A0 n0 c0 B0 m0 d0) 25)))
  have N_0 := Lib.hid (k2.keep (new1 w (.cells (stCells s0 A0 n0 c0 B0 m0 d0) 25)))
  have B_0 := Lib.hid (new1 w (.cells (stCells s0 A0 n0 c0 B0 m0 d0) 25))
  clear k0 k1 k2
  go_enter Try.func8, Try.ntmps8
  have x0 := X_0.out.cell 0 _ rfl
  have x1 := X_0.out.cell 1 _ rfl
  have x2 := X_0.out.cell 2 _ rfl
  have x3 := X_0.out.cell 3 _ rfl
  go_wp2_with fail
  refine (few_st s0 A0 n0 c0 B0 m0 d0 _ K_0.out).mono ?_; rintro e w1 ⟨rfl, hb⟩
  rw [HF.out]
  have S_1 := Lib.hid hb; clear hb
  have K_2 := Lib.hid (K_0.out.keep S_1.out)
  have X_3 := Lib.hid (X_0.out.below S_1.out)
  have M_4 := Lib.hid (M_0.out.keep S_1.out)
  have N_5 := Lib.hid (N_0.out.keep S_1.out)
  have B_6 := Lib.hid (then_ B_0.out S_1.out)
  clear K_0 X_0 M_0 N_0 B_0
  clear S_1
  clear x0 x1 x2 x3
  have x0 := X_3.out.cell 0 _ rfl
  have x1 := X_3.out.cell 1 _ rfl
  have x2 := X_3.out.cell 2 _ rfl
  have x3 := X_3.out.cell 3 _ rfl
  go_wp2_with fail
  refine (mvmay_any s0 A0 n0 c0 B0 m0 d0 _ K_2.out).mono ?_; rintro e w2 ⟨rfl, hb⟩
  rw [HM.out]
  have S_7 := Lib.hid hb; clear hb
  have K_8 := Lib.hid (K_2.out.keep S_7.out)
  have X_9 := Lib.hid (X_3.out.below S_7.out)
  have M_10 := Lib.hid (M_4.out.keep S_7.out)
  have N_11 := Lib.hid (N_5.out.keep S_7.out)
  have B_12 := Lib.hid (then_ B_6.out S_7.out)
  clear K_2 X_3 M_4 N_5 B_6
  clear S_7
  clear x0 x1 x2 x3
  go_wp2_with fail
  refine (short_any A1 n1 c1 l1 _ M_10.out).mono ?_; rintro e w' ⟨rfl, rfl⟩
  rw [HS.out]
  go_wp2_with fail
  refine (short_any A2 n2 c2 l2 _ N_11.out).mono ?_; rintro e w' ⟨rfl, rfl⟩
  rw [HT.out]
  go_wp2
  go_loopw [7] (fun iv wr => ∃ j q : Nat, j ≤ n1 ∧ iv = .int .i64 j ∧ ApartTo l1 l2 j ∧ wr = w2.drewN q) (fun iv _ => n1 - (intOf iv).toNat)
  case atStart => exact ⟨0, 0, Nat.zero_le _, rfl, apart_zero _ _, rfl⟩
  case round =>
    obtain ⟨j, q, hj, rfl, hap, rfl⟩ := hrel
    have AT := Lib.hid hap
    clear hap
    by_cases hlt : j < n1
    · obtain ⟨a, x, rfl, hbl, hx, hok, hc⟩ := M_10.out.at_ hlt
      obtain ⟨c0, c1, c2, c3⟩ := hc
      have HX := Lib.hid hx
      clear hx hok hbl
      go_wp2
      go_loopw [8] (fun kv wr => ∃ i r : Nat, i ≤ n2 ∧ kv = .int .i64 i ∧ ApartIn x l2 i ∧ wr = w2.drewN r) (fun kv _ => n2 - (intOf kv).toNat)
      case atStart => exact ⟨0, q, Nat.zero_le _, rfl, apart_in0 _ _, rfl⟩
      case round =>
        obtain ⟨i, r, hi, rfl, hin, rfl⟩ := hrel
        have AI := Lib.hid hin
        clear hin
        by_cases hlt2 : i < n2
        · obtain ⟨b, y, rfl, gbl, hy, gok, gc⟩ := N_11.out.at_ hlt2
          obtain ⟨g0, g1, g2, g3⟩ := gc
          have HY := Lib.hid hy
          clear hy gok gbl
          cases hk : teq x.key y.key with
          | true =>
            unfold teq at hk
            go_wp2
            go_quiet (fail)
            go_wp2_with fail
            refine (live_any _).mono ?_; rintro e w9 ⟨rfl, hb⟩
            have BB := Lib.hid (then_ B_12.out (then_ (below_drewN (Below.refl _ _) _) hb)); clear hb
            go_wp2
            go_ret
            exact ⟨rfl, BB.out⟩
          | false =>
            have NX := Lib.hid (AI.out.next HY.out hk)
            unfold teq at hk
            go_wp2
            go_quiet (fail)
            go_wp2
            go_roundw
            case rel => exact ⟨i + 1, _, by omega, by go_num, NX.out, rfl⟩
            case measure => simp [intOf]; omega
        · obtain rfl : i = n2 := by omega
          have NX := Lib.hid (AT.out.next HX.out AI.out HL2.out)
          go_wp2
          go_roundw
          case rel => exact ⟨j + 1, _, by omega, by go_num, NX.out, rfl⟩
          case measure => simp [intOf]; omega
    · obtain rfl : n1 = j := by omega
      obtain ⟨wz, hwz⟩ : ∃ wz, wz = w2.drewN q := ⟨_, rfl⟩
      rw [← hwz]
      have SZ : Hid (Below w2.heap.size w2 wz) := Lib.hid (by rw [hwz]; exact below_drewN (Below.refl _ _) _)
      clear hwz hlt hj
      have K_13 := Lib.hid (K_8.out.keep SZ.out)
      have X_14 := Lib.hid (X_9.out.below SZ.out)
      have M_15 := Lib.hid (M_10.out.keep SZ.out)
      have N_16 := Lib.hid (N_11.out.keep SZ.out)
      have B_17 := Lib.hid (then_ B_12.out SZ.out)
      clear K_8 X_9 M_10 N_11 B_12
      clear SZ
      have x0 := X_14.out.cell 0 _ rfl
      have x1 := X_14.out.cell 1 _ rfl
      have x2 := X_14.out.cell 2 _ rfl
      have x3 := X_14.out.cell 3 _ rfl
      go_wp2_with fail
      refine (apply_any s0 A0 n0 c0 B0 m0 d0 A1 n1 c1 l1 _ K_13.out M_15.out MS.out).mono ?_; rintro e w3 ⟨P1, p1, q1, Q1, u1, v1, E1, en1, ec1, rfl, h1, _, hb⟩
      have S_18 := Lib.hid hb; clear hb
      have K_19 := Lib.hid (K_13.out.keep S_18.out)
      have X_20 := Lib.hid (X_14.out.below S_18.out)
      have M_21 := Lib.hid (M_15.out.keep S_18.out)
      have N_22 := Lib.hid (N_16.out.keep S_18.out)
      have B_23 := Lib.hid (then_ B_17.out S_18.out)
      clear K_13 X_14 M_15 N_16 B_17
      clear S_18
      clear x0 x1 x2 x3
      have L1_24 := Lib.hid (h1)
      clear h1
      have K_25 := Lib.hid (K_19.out.keep (new1 w3 (.cells (#[.int .i64 (applyS s0 l1).rev, .int .i64 (applyS s0 l1).low, .slice P1 p1 q1, .slice Q1 u1 v1]) 25)))
      have X_26 := Lib.hid (X_20.out.below (new1 w3 (.cells (#[.int .i64 (applyS s0 l1).rev, .int .i64 (applyS s0 l1).low, .slice P1 p1 q1, .slice Q1 u1 v1]) 25)))
      have M_27 := Lib.hid (M_21.out.keep (new1 w3 (.cells (#[.int .i64 (applyS s0 l1).rev, .int .i64 (applyS s0 l1).low, .slice P1 p1 q1, .slice Q1 u1 v1]) 25)))
      have N_28 := Lib.hid (N_22.out.keep (new1 w3 (.cells (#[.int .i64 (applyS s0 l1).rev, .int .i64 (applyS s0 l1).low, .slice P1 p1 q1, .slice Q1 u1 v1]) 25)))
      have L1_29 := Lib.hid (L1_24.out.keep (new1 w3 (.cells (#[.int .i64 (applyS s0 l1).rev, .int .i64 (applyS s0 l1).low, .slice P1 p1 q1, .slice Q1 u1 v1]) 25)))
      have B_30 := Lib.hid (then_ B_23.out (new1 w3 (.cells (#[.int .i64 (applyS s0 l1).rev, .int .i64 (applyS s0 l1).low, .slice P1 p1 q1, .slice Q1 u1 v1]) 25)))
      clear K_19 X_20 M_21 N_22 L1_24 B_23
      have R1_31 := Lib.hid (own_new w3 (#[.int .i64 (applyS s0 l1).rev, .int .i64 (applyS s0 l1).low, .slice P1 p1 q1, .slice Q1 u1 v1]) 25)
      have x0 := R1_31.out.cell 0 _ rfl
      have x1 := R1_31.out.cell 1 _ rfl
      have x2 := R1_31.out.cell 2 _ rfl
      have x3 := R1_31.out.cell 3 _ rfl
      go_wp2_with fail
      refine (apply_any (applyS s0 l1) P1 p1 q1 Q1 u1 v1 A2 n2 c2 l2 _ L1_29.out N_28.out M1.out).mono ?_; rintro e w4 ⟨P2, p2, q2, Q2, u2, v2, E2, en2, ec2, rfl, h2, _, hb⟩
      have S_32 := Lib.hid hb; clear hb
      have K_33 := Lib.hid (K_25.out.keep S_32.out)
      have X_34 := Lib.hid (X_26.out.below S_32.out)
      have M_35 := Lib.hid (M_27.out.keep S_32.out)
      have N_36 := Lib.hid (N_28.out.keep S_32.out)
      have L1_37 := Lib.hid (L1_29.out.keep S_32.out)
      have R1_38 := Lib.hid (R1_31.out.below S_32.out)
      have B_39 := Lib.hid (then_ B_30.out S_32.out)
      clear K_25 X_26 M_27 N_28 L1_29 R1_31 B_30
      clear S_32
      clear x0 x1 x2 x3
      have L2_40 := Lib.hid (h2)
      clear h2
      have K_41 := Lib.hid (K_33.out.keep (new1 w4 (.cells (#[.int .i64 (applyS (applyS s0 l1) l2).rev, .int .i64 (applyS (applyS s0 l1) l2).low, .slice P2 p2 q2, .slice Q2 u2 v2]) 25)))
      have X_42 := Lib.hid (X_34.out.below (new1 w4 (.cells (#[.int .i64 (applyS (applyS s0 l1) l2).rev, .int .i64 (applyS (applyS s0 l1) l2).low, .slice P2 p2 q2, .slice Q2 u2 v2]) 25)))
      have M_43 := Lib.hid (M_35.out.keep (new1 w4 (.cells (#[.int .i64 (applyS (applyS s0 l1) l2).rev, .int .i64 (applyS (applyS s0 l1) l2).low, .slice P2 p2 q2, .slice Q2 u2 v2]) 25)))
      have N_44 := Lib.hid (N_36.out.keep (new1 w4 (.cells (#[.int .i64 (applyS (applyS s0 l1) l2).rev, .int .i64 (applyS (applyS s0 l1) l2).low, .slice P2 p2 q2, .slice Q2 u2 v2]) 25)))
      have L1_45 := Lib.hid (L1_37.out.keep (new1 w4 (.cells (#[.int .i64 (applyS (applyS s0 l1) l2).rev, .int .i64 (applyS (applyS s0 l1) l2).low, .slice P2 p2 q2, .slice Q2 u2 v2]) 25)))
      have R1_46 := Lib.hid (R1_38.out.below (new1 w4 (.cells (#[.int .i64 (applyS (applyS s0 l1) l2).rev, .int .i64 (applyS (applyS s0 l1) l2).low, .slice P2 p2 q2, .slice Q2 u2 v2]) 25)))
      have L2_47 := Lib.hid (L2_40.out.keep (new1 w4 (.cells (#[.int .i64 (applyS (applyS s0 l1) l2).rev, .int .i64 (applyS (applyS s0 l1) l2).low, .slice P2 p2 q2, .slice Q2 u2 v2]) 25)))
      have B_48 := Lib.hid (then_ B_39.out (new1 w4 (.cells (#[.int .i64 (applyS (applyS s0 l1) l2).rev, .int .i64 (applyS (applyS s0 l1) l2).low, .slice P2 p2 q2, .slice Q2 u2 v2]) 25)))
      clear K_33 X_34 M_35 N_36 L1_37 R1_38 L2_40 B_39
      have R2_49 := Lib.hid (own_new w4 (#[.int .i64 (applyS (applyS s0 l1) l2).rev, .int .i64 (applyS (applyS s0 l1) l2).low, .slice P2 p2 q2, .slice Q2 u2 v2]) 25)
      have x0 := X_42.out.cell 0 _ rfl
      have x1 := X_42.out.cell 1 _ rfl
      have x2 := X_42.out.cell 2 _ rfl
      have x3 := X_42.out.cell 3 _ rfl
      go_wp2_with fail
      refine (apply_any s0 A0 n0 c0 B0 m0 d0 A2 n2 c2 l2 _ K_41.out N_44.out MS.out).mono ?_; rintro e w5 ⟨P3, p3, q3, Q3, u3, v3, E3, en3, ec3, rfl, h3, _, hb⟩
      have S_50 := Lib.hid hb; clear hb
      have K_51 := Lib.hid (K_41.out.keep S_50.out)
      have X_52 := Lib.hid (X_42.out.below S_50.out)
      have M_53 := Lib.hid (M_43.out.keep S_50.out)
      have N_54 := Lib.hid (N_44.out.keep S_50.out)
      have L1_55 := Lib.hid (L1_45.out.keep S_50.out)
      have R1_56 := Lib.hid (R1_46.out.below S_50.out)
      have L2_57 := Lib.hid (L2_47.out.keep S_50.out)
      have R2_58 := Lib.hid (R2_49.out.below S_50.out)
      have B_59 := Lib.hid (then_ B_48.out S_50.out)
      clear K_41 X_42 M_43 N_44 L1_45 R1_46 L2_47 R2_49 B_48
      clear S_50
      clear x0 x1 x2 x3
      have L3_60 := Lib.hid (h3)
      clear h3
      have K_61 := Lib.hid (K_51.out.keep (new1 w5 (.cells (#[.int .i64 (applyS s0 l2).rev, .int .i64 (applyS s0 l2).low, .slice P3 p3 q3, .slice Q3 u3 v3]) 25)))
      have X_62 := Lib.hid (X_52.out.below (new1 w5 (.cells (#[.int .i64 (applyS s0 l2).rev, .int .i64 (applyS s0 l2).low, .slice P3 p3 q3, .slice Q3 u3 v3]) 25)))
      have M_63 := Lib.hid (M_53.out.keep (new1 w5 (.cells (#[.int .i64 (applyS s0 l2).rev, .int .i64 (applyS s0 l2).low, .slice P3 p3 q3, .slice Q3 u3 v3]) 25)))
      have N_64 := Lib.hid (N_54.out.keep (new1 w5 (.cells (#[.int .i64 (applyS s0 l2).rev, .int .i64 (applyS s0 l2).low, .slice P3 p3 q3, .slice Q3 u3 v3]) 25)))
      have L1_65 := Lib.hid (L1_55.out.keep (new1 w5 (.cells (#[.int .i64 (applyS s0 l2).rev, .int .i64 (applyS s0 l2).low, .slice P3 p3 q3, .slice Q3 u3 v3]) 25)))
      have R1_66 := Lib.hid (R1_56.out.below (new1 w5 (.cells (#[.int .i64 (applyS s0 l2).rev, .int .i64 (applyS s0 l2).low, .slice P3 p3 q3, .slice Q3 u3 v3]) 25)))
      have L2_67 := Lib.hid (L2_57.out.keep (new1 w5 (.cells (#[.int .i64 (applyS s0 l2).rev, .int .i64 (applyS s0 l2).low, .slice P3 p3 q3, .slice Q3 u3 v3]) 25)))
      have R2_68 := Lib.hid (R2_58.out.below (new1 w5 (.cells (#[.int .i64 (applyS s0 l2).rev, .int .i64 (applyS s0 l2).low, .slice P3 p3 q3, .slice Q3 u3 v3]) 25)))
      have L3_69 := Lib.hid (L3_60.out.keep (new1 w5 (.cells (#[.int .i64 (applyS s0 l2).rev, .int .i64 (applyS s0 l2).low, .slice P3 p3 q3, .slice Q3 u3 v3]) 25)))
      have B_70 := Lib.hid (then_ B_59.out (new1 w5 (.cells (#[.int .i64 (applyS s0 l2).rev, .int .i64 (applyS s0 l2).low, .slice P3 p3 q3, .slice Q3 u3 v3]) 25)))
      clear K_51 X_52 M_53 N_54 L1_55 R1_56 L2_57 R2_58 L3_60 B_59
      have R3_71 := Lib.hid (own_new w5 (#[.int .i64 (applyS s0 l2).rev, .int .i64 (applyS s0 l2).low, .slice P3 p3 q3, .slice Q3 u3 v3]) 25)
      have x0 := R3_71.out.cell 0 _ rfl
      have x1 := R3_71.out.cell 1 _ rfl
      have x2 := R3_71.out.cell 2 _ rfl
      have x3 := R3_71.out.cell 3 _ rfl
      go_wp2_with fail
      refine (apply_any (applyS s0 l2) P3 p3 q3 Q3 u3 v3 A1 n1 c1 l1 _ L3_69.out M_63.out M3.out).mono ?_; rintro e w6 ⟨P4, p4, q4, Q4, u4, v4, E4, en4, ec4, rfl, h4, _, hb⟩
      have S_72 := Lib.hid hb; clear hb
      have K_73 := Lib.hid (K_61.out.keep S_72.out)
      have X_74 := Lib.hid (X_62.out.below S_72.out)
      have M_75 := Lib.hid (M_63.out.keep S_72.out)
      have N_76 := Lib.hid (N_64.out.keep S_72.out)
      have L1_77 := Lib.hid (L1_65.out.keep S_72.out)
      have R1_78 := Lib.hid (R1_66.out.below S_72.out)
      have L2_79 := Lib.hid (L2_67.out.keep S_72.out)
      have R2_80 := Lib.hid (R2_68.out.below S_72.out)
      have L3_81 := Lib.hid (L3_69.out.keep S_72.out)
      have R3_82 := Lib.hid (R3_71.out.below S_72.out)
      have B_83 := Lib.hid (then_ B_70.out S_72.out)
      clear K_61 X_62 M_63 N_64 L1_65 R1_66 L2_67 R2_68 L3_69 R3_71 B_70
      clear S_72
      clear x0 x1 x2 x3
      have L4_84 := Lib.hid (h4)
      clear h4
      have K_85 := Lib.hid (K_73.out.keep (new1 w6 (.cells (#[.int .i64 (applyS (applyS s0 l2) l1).rev, .int .i64 (applyS (applyS s0 l2) l1).low, .slice P4 p4 q4, .slice Q4 u4 v4]) 25)))
      have X_86 := Lib.hid (X_74.out.below (new1 w6 (.cells (#[.int .i64 (applyS (applyS s0 l2) l1).rev, .int .i64 (applyS (applyS s0 l2) l1).low, .slice P4 p4 q4, .slice Q4 u4 v4]) 25)))
      have M_87 := Lib.hid (M_75.out.keep (new1 w6 (.cells (#[.int .i64 (applyS (applyS s0 l2) l1).rev, .int .i64 (applyS (applyS s0 l2) l1).low, .slice P4 p4 q4, .slice Q4 u4 v4]) 25)))
      have N_88 := Lib.hid (N_76.out.keep (new1 w6 (.cells (#[.int .i64 (applyS (applyS s0 l2) l1).rev, .int .i64 (applyS (applyS s0 l2) l1).low, .slice P4 p4 q4, .slice Q4 u4 v4]) 25)))
      have L1_89 := Lib.hid (L1_77.out.keep (new1 w6 (.cells (#[.int .i64 (applyS (applyS s0 l2) l1).rev, .int .i64 (applyS (applyS s0 l2) l1).low, .slice P4 p4 q4, .slice Q4 u4 v4]) 25)))
      have R1_90 := Lib.hid (R1_78.out.below (new1 w6 (.cells (#[.int .i64 (applyS (applyS s0 l2) l1).rev, .int .i64 (applyS (applyS s0 l2) l1).low, .slice P4 p4 q4, .slice Q4 u4 v4]) 25)))
      have L2_91 := Lib.hid (L2_79.out.keep (new1 w6 (.cells (#[.int .i64 (applyS (applyS s0 l2) l1).rev, .int .i64 (applyS (applyS s0 l2) l1).low, .slice P4 p4 q4, .slice Q4 u4 v4]) 25)))
      have R2_92 := Lib.hid (R2_80.out.below (new1 w6 (.cells (#[.int .i64 (applyS (applyS s0 l2) l1).rev, .int .i64 (applyS (applyS s0 l2) l1).low, .slice P4 p4 q4, .slice Q4 u4 v4]) 25)))
      have L3_93 := Lib.hid (L3_81.out.keep (new1 w6 (.cells (#[.int .i64 (applyS (applyS s0 l2) l1).rev, .int .i64 (applyS (applyS s0 l2) l1).low, .slice P4 p4 q4, .slice Q4 u4 v4]) 25)))
      have R3_94 := Lib.hid (R3_82.out.below (new1 w6 (.cells (#[.int .i64 (applyS (applyS s0 l2) l1).rev, .int .i64 (applyS (applyS s0 l2) l1).low, .slice P4 p4 q4, .slice Q4 u4 v4]) 25)))
      have L4_95 := Lib.hid (L4_84.out.keep (new1 w6 (.cells (#[.int .i64 (applyS (applyS s0 l2) l1).rev, .int .i64 (applyS (applyS s0 l2) l1).low, .slice P4 p4 q4, .slice Q4 u4 v4]) 25)))
      have B_96 := Lib.hid (then_ B_83.out (new1 w6 (.cells (#[.int .i64 (applyS (applyS s0 l2) l1).rev, .int .i64 (applyS (applyS s0 l2) l1).low, .slice P4 p4 q4, .slice Q4 u4 v4]) 25)))
      clear K_73 X_74 M_75 N_76 L1_77 R1_78 L2_79 R2_80 L3_81 R3_82 L4_84 B_83
      have R4_97 := Lib.hid (own_new w6 (#[.int .i64 (applyS (applyS s0 l2) l1).rev, .int .i64 (applyS (applyS s0 l2) l1).low, .slice P4 p4 q4, .slice Q4 u4 v4]) 25)
      go_wp2_with fail
      refine (live_any _).mono ?_; rintro e w7 ⟨rfl, hb⟩
      have S_98 := Lib.hid hb; clear hb
      have K_99 := Lib.hid (K_85.out.keep S_98.out)
      have X_100 := Lib.hid (X_86.out.below S_98.out)
      have M_101 := Lib.hid (M_87.out.keep S_98.out)
      have N_102 := Lib.hid (N_88.out.keep S_98.out)
      have L1_103 := Lib.hid (L1_89.out.keep S_98.out)
      have R1_104 := Lib.hid (R1_90.out.below S_98.out)
      have L2_105 := Lib.hid (L2_91.out.keep S_98.out)
      have R2_106 := Lib.hid (R2_92.out.below S_98.out)
      have L3_107 := Lib.hid (L3_93.out.keep S_98.out)
      have R3_108 := Lib.hid (R3_94.out.below S_98.out)
      have L4_109 := Lib.hid (L4_95.out.keep S_98.out)
      have R4_110 := Lib.hid (R4_97.out.below S_98.out)
      have B_111 := Lib.hid (then_ B_96.out S_98.out)
      clear K_85 X_86 M_87 N_88 L1_89 R1_90 L2_91 R2_92 L3_93 R3_94 L4_95 R4_97 B_96
      clear S_98
      go_wp2
      go_ret
      exact ⟨rfl, B_111.out⟩
theorem err3 (w : World) (s0 : St) (A0 : Option Addr) (n0 c0 : Nat) (B0 : Option Addr) (m0 d0 : Nat) (A1 : Option Addr) (n1 c1 : Nat) (l1 : List Mu) (A2 : Option Addr) (n2 c2 : Nat) (l2 : List Mu) (k0 : StAt w s0 A0 n0 c0 B0 m0 d0) (k1 : Mus w A1 n1 c1 l1) (k2 : Mus w A2 n2 c2 l2) (hf : fewS s0 = true) (hm : mayB s0 = true) (hn1 : n1 ≤ 20) (hn2 : n2 ≤ 20) (hs : l1.all shMu = true) (ht : l2.all shMu = true) (e1 : applyE s0 l1 = 0) (e2 : applyE (applyS s0 l1) l2 = 0) (e3 : applyE s0 l2 ≠ 0) :
    Calls Try.prog 8 #[s0.agg A0 n0 c0 B0 m0 d0, .slice A1 n1 c1, .slice A2 n2 c2] w fun e w' => e = .returned (.bool true) ∧ Below w.heap.size w w' := by
  have HF := Lib.hid hf; have HM := Lib.hid hm; have HS := Lib.hid hs; have HT := Lib.hid ht; have MS := Lib.hid (may_st.1 hm)
  have hb0 := k0.kv.len; have hb1 := k0.ev.len; have hb2 := MS.out.good.len; have hb3 := MS.out.len
  have M1 := Lib.hid (apply_may MS.out l1); have M2 := Lib.hid (apply_may M1.out l2); have M3 := Lib.hid (apply_may MS.out l2); have M4 := Lib.hid (apply_may M3.out l1)
  have he1 : (applyE s0 l1 != 0) = false := by simp [e1]
  have he2 : (applyE (applyS s0 l1) l2 != 0) = false := by simp [e2]
  have he3 : (applyE s0 l2 != 0) = true := by simp [e3]
  clear hf hm hs ht e1 e2 e3
  have HL1 := Lib.hid k1.len; have HL2 := Lib.hid k2.len
  have K_0 := Lib.hid (k0.keep (new1 w (.cells (stCells s0 A0 n0 c0 B0 m0 d0) 25)))
  have X_0 := Lib.hid (own_new w (stCells s0 A0 n0 c0 B0 m0 d0) 25)
  have M_0 := Lib.hid (k1.keep (new1 w (.cells (stCells s0 A0 n0 c0 B0 m0 d0) 25)))
  have N_0 := Lib.hid (k2.keep (new1 w (.cells (stCells s0 A0 n0 c0 B0 m0 d0) 25)))
  have B_0 := Lib.hid (new1 w (.cells (stCells s0 A0 n0 c0 B0 m0 d0) 25))
  clear k0 k1 k2
  go_enter Try.func8, Try.ntmps8
  have x0 := X_0.out.cell 0 _ rfl
  have x1 := X_0.out.cell 1 _ rfl
  have x2 := X_0.out.cell 2 _ rfl
  have x3 := X_0.out.cell 3 _ rfl
  go_wp2_with fail
  refine (few_st s0 A0 n0 c0 B0 m0 d0 _ K_0.out).mono ?_; rintro e w1 ⟨rfl, hb⟩
  rw [HF.out]
  have S_1 := Lib.hid hb; clear hb
  have K_2 := Lib.hid (K_0.out.keep S_1.out)
  have X_3 := Lib.hid (X_0.out.below S_1.out)
  have M_4 := Lib.hid (M_0.out.keep S_1.out)
  have N_5 := Lib.hid (N_0.out.keep S_1.out)
  have B_6 := Lib.hid (then_ B_0.out S_1.out)
  clear K_0 X_0 M_0 N_0 B_0
  clear S_1
  clear x0 x1 x2 x3
  have x0 := X_3.out.cell 0 _ rfl
  have x1 := X_3.out.cell 1 _ rfl
  have x2 := X_3.out.cell 2 _ rfl
  have x3 := X_3.out.cell 3 _ rfl
  go_wp2_with fail
  refine (mvmay_any s0 A0 n0 c0 B0 m0 d0 _ K_2.out).mono ?_; rintro e w2 ⟨rfl, hb⟩
  rw [HM.out]
  have S_7 := Lib.hid hb; clear hb
  have K_8 := Lib.hid (K_2.out.keep S_7.out)
  have X_9 := Lib.hid (X_3.out.below S_7.out)
  have M_10 := Lib.hid (M_4.out.keep S_7.out)
  have N_11 := Lib.hid (N_5.out.keep S_7.out)
  have B_12 := Lib.hid (then_ B_6.out S_7.out)
  clear K_2 X_3 M_4 N_5 B_6
  clear S_7
  clear x0 x1 x2 x3
  go_wp2_with fail
  refine (short_any A1 n1 c1 l1 _ M_10.out).mono ?_; rintro e w' ⟨rfl, rfl⟩
  rw [HS.out]
  go_wp2_with fail
  refine (short_any A2 n2 c2 l2 _ N_11.out).mono ?_; rintro e w' ⟨rfl, rfl⟩
  rw [HT.out]
  go_wp2
  go_loopw [7] (fun iv wr => ∃ j q : Nat, j ≤ n1 ∧ iv = .int .i64 j ∧ ApartTo l1 l2 j ∧ wr = w2.drewN q) (fun iv _ => n1 - (intOf iv).toNat)
  case atStart => exact ⟨0, 0, Nat.zero_le _, rfl, apart_zero _ _, rfl⟩
  case round =>
    obtain ⟨j, q, hj, rfl, hap, rfl⟩ := hrel
    have AT := Lib.hid hap
    clear hap
    by_cases hlt : j < n1
    · obtain ⟨a, x, rfl, hbl, hx, hok, hc⟩ := M_10.out.at_ hlt
      obtain ⟨c0, c1, c2, c3⟩ := hc
      have HX := Lib.hid hx
      clear hx hok hbl
      go_wp2
      go_loopw [8] (fun kv wr => ∃ i r : Nat, i ≤ n2 ∧ kv = .int .i64 i ∧ ApartIn x l2 i ∧ wr = w2.drewN r) (fun kv _ => n2 - (intOf kv).toNat)
      case atStart => exact ⟨0, q, Nat.zero_le _, rfl, apart_in0 _ _, rfl⟩
      case round =>
        obtain ⟨i, r, hi, rfl, hin, rfl⟩ := hrel
        have AI := Lib.hid hin
        clear hin
        by_cases hlt2 : i < n2
        · obtain ⟨b, y, rfl, gbl, hy, gok, gc⟩ := N_11.out.at_ hlt2
          obtain ⟨g0, g1, g2, g3⟩ := gc
          have HY := Lib.hid hy
          clear hy gok gbl
          cases hk : teq x.key y.key with
          | true =>
            unfold teq at hk
            go_wp2
            go_quiet (fail)
            go_wp2_with fail
            refine (live_any _).mono ?_; rintro e w9 ⟨rfl, hb⟩
            have BB := Lib.hid (then_ B_12.out (then_ (below_drewN (Below.refl _ _) _) hb)); clear hb
            go_wp2
            go_ret
            exact ⟨rfl, BB.out⟩
          | false =>
            have NX := Lib.hid (AI.out.next HY.out hk)
            unfold teq at hk
            go_wp2
            go_quiet (fail)
            go_wp2
            go_roundw
            case rel => exact ⟨i + 1, _, by omega, by go_num, NX.out, rfl⟩
            case measure => simp [intOf]; omega
        · obtain rfl : i = n2 := by omega
          have NX := Lib.hid (AT.out.next HX.out AI.out HL2.out)
          go_wp2
          go_roundw
          case rel => exact ⟨j + 1, _, by omega, by go_num, NX.out, rfl⟩
          case measure => simp [intOf]; omega
    · obtain rfl : n1 = j := by omega
      obtain ⟨wz, hwz⟩ : ∃ wz, wz = w2.drewN q := ⟨_, rfl⟩
      rw [← hwz]
      have SZ : Hid (Below w2.heap.size w2 wz) := Lib.hid (by rw [hwz]; exact below_drewN (Below.refl _ _) _)
      clear hwz hlt hj
      have K_13 := Lib.hid (K_8.out.keep SZ.out)
      have X_14 := Lib.hid (X_9.out.below SZ.out)
      have M_15 := Lib.hid (M_10.out.keep SZ.out)
      have N_16 := Lib.hid (N_11.out.keep SZ.out)
      have B_17 := Lib.hid (then_ B_12.out SZ.out)
      clear K_8 X_9 M_10 N_11 B_12
      clear SZ
      have x0 := X_14.out.cell 0 _ rfl
      have x1 := X_14.out.cell 1 _ rfl
      have x2 := X_14.out.cell 2 _ rfl
      have x3 := X_14.out.cell 3 _ rfl
      go_wp2_with fail
      refine (apply_any s0 A0 n0 c0 B0 m0 d0 A1 n1 c1 l1 _ K_13.out M_15.out MS.out).mono ?_; rintro e w3 ⟨P1, p1, q1, Q1, u1, v1, E1, en1, ec1, rfl, h1, _, hb⟩
      have S_18 := Lib.hid hb; clear hb
      have K_19 := Lib.hid (K_13.out.keep S_18.out)
      have X_20 := Lib.hid (X_14.out.below S_18.out)
      have M_21 := Lib.hid (M_15.out.keep S_18.out)
      have N_22 := Lib.hid (N_16.out.keep S_18.out)
      have B_23 := Lib.hid (then_ B_17.out S_18.out)
      clear K_13 X_14 M_15 N_16 B_17
      clear S_18
      clear x0 x1 x2 x3
      have L1_24 := Lib.hid (h1)
      clear h1
      have K_25 := Lib.hid (K_19.out.keep (new1 w3 (.cells (#[.int .i64 (applyS s0 l1).rev, .int .i64 (applyS s0 l1).low, .slice P1 p1 q1, .slice Q1 u1 v1]) 25)))
      have X_26 := Lib.hid (X_20.out.below (new1 w3 (.cells (#[.int .i64 (applyS s0 l1).rev, .int .i64 (applyS s0 l1).low, .slice P1 p1 q1, .slice Q1 u1 v1]) 25)))
      have M_27 := Lib.hid (M_21.out.keep (new1 w3 (.cells (#[.int .i64 (applyS s0 l1).rev, .int .i64 (applyS s0 l1).low, .slice P1 p1 q1, .slice Q1 u1 v1]) 25)))
      have N_28 := Lib.hid (N_22.out.keep (new1 w3 (.cells (#[.int .i64 (applyS s0 l1).rev, .int .i64 (applyS s0 l1).low, .slice P1 p1 q1, .slice Q1 u1 v1]) 25)))
      have L1_29 := Lib.hid (L1_24.out.keep (new1 w3 (.cells (#[.int .i64 (applyS s0 l1).rev, .int .i64 (applyS s0 l1).low, .slice P1 p1 q1, .slice Q1 u1 v1]) 25)))
      have B_30 := Lib.hid (then_ B_23.out (new1 w3 (.cells (#[.int .i64 (applyS s0 l1).rev, .int .i64 (applyS s0 l1).low, .slice P1 p1 q1, .slice Q1 u1 v1]) 25)))
      clear K_19 X_20 M_21 N_22 L1_24 B_23
      have R1_31 := Lib.hid (own_new w3 (#[.int .i64 (applyS s0 l1).rev, .int .i64 (applyS s0 l1).low, .slice P1 p1 q1, .slice Q1 u1 v1]) 25)
      have x0 := R1_31.out.cell 0 _ rfl
      have x1 := R1_31.out.cell 1 _ rfl
      have x2 := R1_31.out.cell 2 _ rfl
      have x3 := R1_31.out.cell 3 _ rfl
      go_wp2_with fail
      refine (apply_any (applyS s0 l1) P1 p1 q1 Q1 u1 v1 A2 n2 c2 l2 _ L1_29.out N_28.out M1.out).mono ?_; rintro e w4 ⟨P2, p2, q2, Q2, u2, v2, E2, en2, ec2, rfl, h2, _, hb⟩
      have S_32 := Lib.hid hb; clear hb
      have K_33 := Lib.hid (K_25.out.keep S_32.out)
      have X_34 := Lib.hid (X_26.out.below S_32.out)
      have M_35 := Lib.hid (M_27.out.keep S_32.out)
      have N_36 := Lib.hid (N_28.out.keep S_32.out)
      have L1_37 := Lib.hid (L1_29.out.keep S_32.out)
      have R1_38 := Lib.hid (R1_31.out.below S_32.out)
      have B_39 := Lib.hid (then_ B_30.out S_32.out)
      clear K_25 X_26 M_27 N_28 L1_29 R1_31 B_30
      clear S_32
      clear x0 x1 x2 x3
      have L2_40 := Lib.hid (h2)
      clear h2
      have K_41 := Lib.hid (K_33.out.keep (new1 w4 (.cells (#[.int .i64 (applyS (applyS s0 l1) l2).rev, .int .i64 (applyS (applyS s0 l1) l2).low, .slice P2 p2 q2, .slice Q2 u2 v2]) 25)))
      have X_42 := Lib.hid (X_34.out.below (new1 w4 (.cells (#[.int .i64 (applyS (applyS s0 l1) l2).rev, .int .i64 (applyS (applyS s0 l1) l2).low, .slice P2 p2 q2, .slice Q2 u2 v2]) 25)))
      have M_43 := Lib.hid (M_35.out.keep (new1 w4 (.cells (#[.int .i64 (applyS (applyS s0 l1) l2).rev, .int .i64 (applyS (applyS s0 l1) l2).low, .slice P2 p2 q2, .slice Q2 u2 v2]) 25)))
      have N_44 := Lib.hid (N_36.out.keep (new1 w4 (.cells (#[.int .i64 (applyS (applyS s0 l1) l2).rev, .int .i64 (applyS (applyS s0 l1) l2).low, .slice P2 p2 q2, .slice Q2 u2 v2]) 25)))
      have L1_45 := Lib.hid (L1_37.out.keep (new1 w4 (.cells (#[.int .i64 (applyS (applyS s0 l1) l2).rev, .int .i64 (applyS (applyS s0 l1) l2).low, .slice P2 p2 q2, .slice Q2 u2 v2]) 25)))
      have R1_46 := Lib.hid (R1_38.out.below (new1 w4 (.cells (#[.int .i64 (applyS (applyS s0 l1) l2).rev, .int .i64 (applyS (applyS s0 l1) l2).low, .slice P2 p2 q2, .slice Q2 u2 v2]) 25)))
      have L2_47 := Lib.hid (L2_40.out.keep (new1 w4 (.cells (#[.int .i64 (applyS (applyS s0 l1) l2).rev, .int .i64 (applyS (applyS s0 l1) l2).low, .slice P2 p2 q2, .slice Q2 u2 v2]) 25)))
      have B_48 := Lib.hid (then_ B_39.out (new1 w4 (.cells (#[.int .i64 (applyS (applyS s0 l1) l2).rev, .int .i64 (applyS (applyS s0 l1) l2).low, .slice P2 p2 q2, .slice Q2 u2 v2]) 25)))
      clear K_33 X_34 M_35 N_36 L1_37 R1_38 L2_40 B_39
      have R2_49 := Lib.hid (own_new w4 (#[.int .i64 (applyS (applyS s0 l1) l2).rev, .int .i64 (applyS (applyS s0 l1) l2).low, .slice P2 p2 q2, .slice Q2 u2 v2]) 25)
      have x0 := X_42.out.cell 0 _ rfl
      have x1 := X_42.out.cell 1 _ rfl
      have x2 := X_42.out.cell 2 _ rfl
      have x3 := X_42.out.cell 3 _ rfl
      go_wp2_with fail
      refine (apply_any s0 A0 n0 c0 B0 m0 d0 A2 n2 c2 l2 _ K_41.out N_44.out MS.out).mono ?_; rintro e w5 ⟨P3, p3, q3, Q3, u3, v3, E3, en3, ec3, rfl, h3, _, hb⟩
      have S_50 := Lib.hid hb; clear hb
      have K_51 := Lib.hid (K_41.out.keep S_50.out)
      have X_52 := Lib.hid (X_42.out.below S_50.out)
      have M_53 := Lib.hid (M_43.out.keep S_50.out)
      have N_54 := Lib.hid (N_44.out.keep S_50.out)
      have L1_55 := Lib.hid (L1_45.out.keep S_50.out)
      have R1_56 := Lib.hid (R1_46.out.below S_50.out)
      have L2_57 := Lib.hid (L2_47.out.keep S_50.out)
      have R2_58 := Lib.hid (R2_49.out.below S_50.out)
      have B_59 := Lib.hid (then_ B_48.out S_50.out)
      clear K_41 X_42 M_43 N_44 L1_45 R1_46 L2_47 R2_49 B_48
      clear S_50
      clear x0 x1 x2 x3
      have L3_60 := Lib.hid (h3)
      clear h3
      have K_61 := Lib.hid (K_51.out.keep (new1 w5 (.cells (#[.int .i64 (applyS s0 l2).rev, .int .i64 (applyS s0 l2).low, .slice P3 p3 q3, .slice Q3 u3 v3]) 25)))
      have X_62 := Lib.hid (X_52.out.below (new1 w5 (.cells (#[.int .i64 (applyS s0 l2).rev, .int .i64 (applyS s0 l2).low, .slice P3 p3 q3, .slice Q3 u3 v3]) 25)))
      have M_63 := Lib.hid (M_53.out.keep (new1 w5 (.cells (#[.int .i64 (applyS s0 l2).rev, .int .i64 (applyS s0 l2).low, .slice P3 p3 q3, .slice Q3 u3 v3]) 25)))
      have N_64 := Lib.hid (N_54.out.keep (new1 w5 (.cells (#[.int .i64 (applyS s0 l2).rev, .int .i64 (applyS s0 l2).low, .slice P3 p3 q3, .slice Q3 u3 v3]) 25)))
      have L1_65 := Lib.hid (L1_55.out.keep (new1 w5 (.cells (#[.int .i64 (applyS s0 l2).rev, .int .i64 (applyS s0 l2).low, .slice P3 p3 q3, .slice Q3 u3 v3]) 25)))
      have R1_66 := Lib.hid (R1_56.out.below (new1 w5 (.cells (#[.int .i64 (applyS s0 l2).rev, .int .i64 (applyS s0 l2).low, .slice P3 p3 q3, .slice Q3 u3 v3]) 25)))
      have L2_67 := Lib.hid (L2_57.out.keep (new1 w5 (.cells (#[.int .i64 (applyS s0 l2).rev, .int .i64 (applyS s0 l2).low, .slice P3 p3 q3, .slice Q3 u3 v3]) 25)))
      have R2_68 := Lib.hid (R2_58.out.below (new1 w5 (.cells (#[.int .i64 (applyS s0 l2).rev, .int .i64 (applyS s0 l2).low, .slice P3 p3 q3, .slice Q3 u3 v3]) 25)))
      have L3_69 := Lib.hid (L3_60.out.keep (new1 w5 (.cells (#[.int .i64 (applyS s0 l2).rev, .int .i64 (applyS s0 l2).low, .slice P3 p3 q3, .slice Q3 u3 v3]) 25)))
      have B_70 := Lib.hid (then_ B_59.out (new1 w5 (.cells (#[.int .i64 (applyS s0 l2).rev, .int .i64 (applyS s0 l2).low, .slice P3 p3 q3, .slice Q3 u3 v3]) 25)))
      clear K_51 X_52 M_53 N_54 L1_55 R1_56 L2_57 R2_58 L3_60 B_59
      have R3_71 := Lib.hid (own_new w5 (#[.int .i64 (applyS s0 l2).rev, .int .i64 (applyS s0 l2).low, .slice P3 p3 q3, .slice Q3 u3 v3]) 25)
      have x0 := R3_71.out.cell 0 _ rfl
      have x1 := R3_71.out.cell 1 _ rfl
      have x2 := R3_71.out.cell 2 _ rfl
      have x3 := R3_71.out.cell 3 _ rfl
      go_wp2_with fail
      refine (apply_any (applyS s0 l2) P3 p3 q3 Q3 u3 v3 A1 n1 c1 l1 _ L3_69.out M_63.out M3.out).mono ?_; rintro e w6 ⟨P4, p4, q4, Q4, u4, v4, E4, en4, ec4, rfl, h4, _, hb⟩
      have S_72 := Lib.hid hb; clear hb
      have K_73 := Lib.hid (K_61.out.keep S_72.out)
      have X_74 := Lib.hid (X_62.out.below S_72.out)
      have M_75 := Lib.hid (M_63.out.keep S_72.out)
      have N_76 := Lib.hid (N_64.out.keep S_72.out)
      have L1_77 := Lib.hid (L1_65.out.keep S_72.out)
      have R1_78 := Lib.hid (R1_66.out.below S_72.out)
      have L2_79 := Lib.hid (L2_67.out.keep S_72.out)
      have R2_80 := Lib.hid (R2_68.out.below S_72.out)
      have L3_81 := Lib.hid (L3_69.out.keep S_72.out)
      have R3_82 := Lib.hid (R3_71.out.below S_72.out)
      have B_83 := Lib.hid (then_ B_70.out S_72.out)
      clear K_61 X_62 M_63 N_64 L1_65 R1_66 L2_67 R2_68 L3_69 R3_71 B_70
      clear S_72
      clear x0 x1 x2 x3
      have L4_84 := Lib.hid (h4)
      clear h4
      have K_85 := Lib.hid (K_73.out.keep (new1 w6 (.cells (#[.int .i64 (applyS (applyS s0 l2) l1).rev, .int .i64 (applyS (applyS s0 l2) l1).low, .slice P4 p4 q4, .slice Q4 u4 v4]) 25)))
      have X_86 := Lib.hid (X_74.out.below (new1 w6 (.cells (#[.int .i64 (applyS (applyS s0 l2) l1).rev, .int .i64 (applyS (applyS s0 l2) l1).low, .slice P4 p4 q4, .slice Q4 u4 v4]) 25)))
      have M_87 := Lib.hid (M_75.out.keep (new1 w6 (.cells (#[.int .i64 (applyS (applyS s0 l2) l1).rev, .int .i64 (applyS (applyS s0 l2) l1).low, .slice P4 p4 q4, .slice Q4 u4 v4]) 25)))
      have N_88 := Lib.hid (N_76.out.keep (new1 w6 (.cells (#[.int .i64 (applyS (applyS s0 l2) l1).rev, .int .i64 (applyS (applyS s0 l2) l1).low, .slice P4 p4 q4, .slice Q4 u4 v4]) 25)))
      have L1_89 := Lib.hid (L1_77.out.keep (new1 w6 (.cells (#[.int .i64 (applyS (applyS s0 l2) l1).rev, .int .i64 (applyS (applyS s0 l2) l1).low, .slice P4 p4 q4, .slice Q4 u4 v4]) 25)))
      have R1_90 := Lib.hid (R1_78.out.below (new1 w6 (.cells (#[.int .i64 (applyS (applyS s0 l2) l1).rev, .int .i64 (applyS (applyS s0 l2) l1).low, .slice P4 p4 q4, .slice Q4 u4 v4]) 25)))
      have L2_91 := Lib.hid (L2_79.out.keep (new1 w6 (.cells (#[.int .i64 (applyS (applyS s0 l2) l1).rev, .int .i64 (applyS (applyS s0 l2) l1).low, .slice P4 p4 q4, .slice Q4 u4 v4]) 25)))
      have R2_92 := Lib.hid (R2_80.out.below (new1 w6 (.cells (#[.int .i64 (applyS (applyS s0 l2) l1).rev, .int .i64 (applyS (applyS s0 l2) l1).low, .slice P4 p4 q4, .slice Q4 u4 v4]) 25)))
      have L3_93 := Lib.hid (L3_81.out.keep (new1 w6 (.cells (#[.int .i64 (applyS (applyS s0 l2) l1).rev, .int .i64 (applyS (applyS s0 l2) l1).low, .slice P4 p4 q4, .slice Q4 u4 v4]) 25)))
      have R3_94 := Lib.hid (R3_82.out.below (new1 w6 (.cells (#[.int .i64 (applyS (applyS s0 l2) l1).rev, .int .i64 (applyS (applyS s0 l2) l1).low, .slice P4 p4 q4, .slice Q4 u4 v4]) 25)))
      have L4_95 := Lib.hid (L4_84.out.keep (new1 w6 (.cells (#[.int .i64 (applyS (applyS s0 l2) l1).rev, .int .i64 (applyS (applyS s0 l2) l1).low, .slice P4 p4 q4, .slice Q4 u4 v4]) 25)))
      have B_96 := Lib.hid (then_ B_83.out (new1 w6 (.cells (#[.int .i64 (applyS (applyS s0 l2) l1).rev, .int .i64 (applyS (applyS s0 l2) l1).low, .slice P4 p4 q4, .slice Q4 u4 v4]) 25)))
      clear K_73 X_74 M_75 N_76 L1_77 R1_78 L2_79 R2_80 L3_81 R3_82 L4_84 B_83
      have R4_97 := Lib.hid (own_new w6 (#[.int .i64 (applyS (applyS s0 l2) l1).rev, .int .i64 (applyS (applyS s0 l2) l1).low, .slice P4 p4 q4, .slice Q4 u4 v4]) 25)
      go_wp2_with fail
      refine (live_any _).mono ?_; rintro e w7 ⟨rfl, hb⟩
      have S_98 := Lib.hid hb; clear hb
      have K_99 := Lib.hid (K_85.out.keep S_98.out)
      have X_100 := Lib.hid (X_86.out.below S_98.out)
      have M_101 := Lib.hid (M_87.out.keep S_98.out)
      have N_102 := Lib.hid (N_88.out.keep S_98.out)
      have L1_103 := Lib.hid (L1_89.out.keep S_98.out)
      have R1_104 := Lib.hid (R1_90.out.below S_98.out)
      have L2_105 := Lib.hid (L2_91.out.keep S_98.out)
      have R2_106 := Lib.hid (R2_92.out.below S_98.out)
      have L3_107 := Lib.hid (L3_93.out.keep S_98.out)
      have R3_108 := Lib.hid (R3_94.out.below S_98.out)
      have L4_109 := Lib.hid (L4_95.out.keep S_98.out)
      have R4_110 := Lib.hid (R4_97.out.below S_98.out)
      have B_111 := Lib.hid (then_ B_96.out S_98.out)
      clear K_85 X_86 M_87 N_88 L1_89 R1_90 L2_91 R2_92 L3_93 R3_94 L4_95 R4_97 B_96
      clear S_98
      go_wp2
      go_ret
      exact ⟨rfl, B_111.out⟩
theorem err4 (w : World) (s0 : St) (A0 : Option Addr) (n0 c0 : Nat) (B0 : Option Addr) (m0 d0 : Nat) (A1 : Option Addr) (n1 c1 : Nat) (l1 : List Mu) (A2 : Option Addr) (n2 c2 : Nat) (l2 : List Mu) (k0 : StAt w s0 A0 n0 c0 B0 m0 d0) (k1 : Mus w A1 n1 c1 l1) (k2 : Mus w A2 n2 c2 l2) (hf : fewS s0 = true) (hm : mayB s0 = true) (hn1 : n1 ≤ 20) (hn2 : n2 ≤ 20) (hs : l1.all shMu = true) (ht : l2.all shMu = true) (e1 : applyE s0 l1 = 0) (e2 : applyE (applyS s0 l1) l2 = 0) (e3 : applyE s0 l2 = 0) (e4 : applyE (applyS s0 l2) l1 ≠ 0) :
    Calls Try.prog 8 #[s0.agg A0 n0 c0 B0 m0 d0, .slice A1 n1 c1, .slice A2 n2 c2] w fun e w' => e = .returned (.bool true) ∧ Below w.heap.size w w' := by
  have HF := Lib.hid hf; have HM := Lib.hid hm; have HS := Lib.hid hs; have HT := Lib.hid ht; have MS := Lib.hid (may_st.1 hm)
  have hb0 := k0.kv.len; have hb1 := k0.ev.len; have hb2 := MS.out.good.len; have hb3 := MS.out.len
  have M1 := Lib.hid (apply_may MS.out l1); have M2 := Lib.hid (apply_may M1.out l2); have M3 := Lib.hid (apply_may MS.out l2); have M4 := Lib.hid (apply_may M3.out l1)
  have he1 : (applyE s0 l1 != 0) = false := by simp [e1]
  have he2 : (applyE (applyS s0 l1) l2 != 0) = false := by simp [e2]
  have he3 : (applyE s0 l2 != 0) = false := by simp [e3]
  have he4 : (applyE (applyS s0 l2) l1 != 0) = true := by simp [e4]
  clear hf hm hs ht e1 e2 e3 e4
  have HL1 := Lib.hid k1.len; have HL2 := Lib.hid k2.len
  have K_0 := Lib.hid (k0.keep (new1 w (.cells (stCells s0 A0 n0 c0 B0 m0 d0) 25)))
  have X_0 := Lib.hid (own_new w (stCells s0 A0 n0 c0 B0 m0 d0) 25)
  have M_0 := Lib.hid (k1.keep (new1 w (.cells (stCells s0 A0 n0 c0 B0 m0 d0) 25)))
  have N_0 := Lib.hid (k2.keep (new1 w (.cells (stCells s0 A0 n0 c0 B0 m0 d0) 25)))
  have B_0 := Lib.hid (new1 w (.cells (stCells s0 A0 n0 c0 B0 m0 d0) 25))
  clear k0 k1 k2
  go_enter Try.func8, Try.ntmps8
  have x0 := X_0.out.cell 0 _ rfl
  have x1 := X_0.out.cell 1 _ rfl
  have x2 := X_0.out.cell 2 _ rfl
  have x3 := X_0.out.cell 3 _ rfl
  go_wp2_with fail
  refine (few_st s0 A0 n0 c0 B0 m0 d0 _ K_0.out).mono ?_; rintro e w1 ⟨rfl, hb⟩
  rw [HF.out]
  have S_1 := Lib.hid hb; clear hb
  have K_2 := Lib.hid (K_0.out.keep S_1.out)
  have X_3 := Lib.hid (X_0.out.below S_1.out)
  have M_4 := Lib.hid (M_0.out.keep S_1.out)
  have N_5 := Lib.hid (N_0.out.keep S_1.out)
  have B_6 := Lib.hid (then_ B_0.out S_1.out)
  clear K_0 X_0 M_0 N_0 B_0
  clear S_1
  clear x0 x1 x2 x3
  have x0 := X_3.out.cell 0 _ rfl
  have x1 := X_3.out.cell 1 _ rfl
  have x2 := X_3.out.cell 2 _ rfl
  have x3 := X_3.out.cell 3 _ rfl
  go_wp2_with fail
  refine (mvmay_any s0 A0 n0 c0 B0 m0 d0 _ K_2.out).mono ?_; rintro e w2 ⟨rfl, hb⟩
  rw [HM.out]
  have S_7 := Lib.hid hb; clear hb
  have K_8 := Lib.hid (K_2.out.keep S_7.out)
  have X_9 := Lib.hid (X_3.out.below S_7.out)
  have M_10 := Lib.hid (M_4.out.keep S_7.out)
  have N_11 := Lib.hid (N_5.out.keep S_7.out)
  have B_12 := Lib.hid (then_ B_6.out S_7.out)
  clear K_2 X_3 M_4 N_5 B_6
  clear S_7
  clear x0 x1 x2 x3
  go_wp2_with fail
  refine (short_any A1 n1 c1 l1 _ M_10.out).mono ?_; rintro e w' ⟨rfl, rfl⟩
  rw [HS.out]
  go_wp2_with fail
  refine (short_any A2 n2 c2 l2 _ N_11.out).mono ?_; rintro e w' ⟨rfl, rfl⟩
  rw [HT.out]
  go_wp2
  go_loopw [7] (fun iv wr => ∃ j q : Nat, j ≤ n1 ∧ iv = .int .i64 j ∧ ApartTo l1 l2 j ∧ wr = w2.drewN q) (fun iv _ => n1 - (intOf iv).toNat)
  case atStart => exact ⟨0, 0, Nat.zero_le _, rfl, apart_zero _ _, rfl⟩
  case round =>
    obtain ⟨j, q, hj, rfl, hap, rfl⟩ := hrel
    have AT := Lib.hid hap
    clear hap
    by_cases hlt : j < n1
    · obtain ⟨a, x, rfl, hbl, hx, hok, hc⟩ := M_10.out.at_ hlt
      obtain ⟨c0, c1, c2, c3⟩ := hc
      have HX := Lib.hid hx
      clear hx hok hbl
      go_wp2
      go_loopw [8] (fun kv wr => ∃ i r : Nat, i ≤ n2 ∧ kv = .int .i64 i ∧ ApartIn x l2 i ∧ wr = w2.drewN r) (fun kv _ => n2 - (intOf kv).toNat)
      case atStart => exact ⟨0, q, Nat.zero_le _, rfl, apart_in0 _ _, rfl⟩
      case round =>
        obtain ⟨i, r, hi, rfl, hin, rfl⟩ := hrel
        have AI := Lib.hid hin
        clear hin
        by_cases hlt2 : i < n2
        · obtain ⟨b, y, rfl, gbl, hy, gok, gc⟩ := N_11.out.at_ hlt2
          obtain ⟨g0, g1, g2, g3⟩ := gc
          have HY := Lib.hid hy
          clear hy gok gbl
          cases hk : teq x.key y.key with
          | true =>
            unfold teq at hk
            go_wp2
            go_quiet (fail)
            go_wp2_with fail
            refine (live_any _).mono ?_; rintro e w9 ⟨rfl, hb⟩
            have BB := Lib.hid (then_ B_12.out (then_ (below_drewN (Below.refl _ _) _) hb)); clear hb
            go_wp2
            go_ret
            exact ⟨rfl, BB.out⟩
          | false =>
            have NX := Lib.hid (AI.out.next HY.out hk)
            unfold teq at hk
            go_wp2
            go_quiet (fail)
            go_wp2
            go_roundw
            case rel => exact ⟨i + 1, _, by omega, by go_num, NX.out, rfl⟩
            case measure => simp [intOf]; omega
        · obtain rfl : i = n2 := by omega
          have NX := Lib.hid (AT.out.next HX.out AI.out HL2.out)
          go_wp2
          go_roundw
          case rel => exact ⟨j + 1, _, by omega, by go_num, NX.out, rfl⟩
          case measure => simp [intOf]; omega
    · obtain rfl : n1 = j := by omega
      obtain ⟨wz, hwz⟩ : ∃ wz, wz = w2.drewN q := ⟨_, rfl⟩
      rw [← hwz]
      have SZ : Hid (Below w2.heap.size w2 wz) := Lib.hid (by rw [hwz]; exact below_drewN (Below.refl _ _) _)
      clear hwz hlt hj
      have K_13 := Lib.hid (K_8.out.keep SZ.out)
      have X_14 := Lib.hid (X_9.out.below SZ.out)
      have M_15 := Lib.hid (M_10.out.keep SZ.out)
      have N_16 := Lib.hid (N_11.out.keep SZ.out)
      have B_17 := Lib.hid (then_ B_12.out SZ.out)
      clear K_8 X_9 M_10 N_11 B_12
      clear SZ
      have x0 := X_14.out.cell 0 _ rfl
      have x1 := X_14.out.cell 1 _ rfl
      have x2 := X_14.out.cell 2 _ rfl
      have x3 := X_14.out.cell 3 _ rfl
      go_wp2_with fail
      refine (apply_any s0 A0 n0 c0 B0 m0 d0 A1 n1 c1 l1 _ K_13.out M_15.out MS.out).mono ?_; rintro e w3 ⟨P1, p1, q1, Q1, u1, v1, E1, en1, ec1, rfl, h1, _, hb⟩
      have S_18 := Lib.hid hb; clear hb
      have K_19 := Lib.hid (K_13.out.keep S_18.out)
      have X_20 := Lib.hid (X_14.out.below S_18.out)
      have M_21 := Lib.hid (M_15.out.keep S_18.out)
      have N_22 := Lib.hid (N_16.out.keep S_18.out)
      have B_23 := Lib.hid (then_ B_17.out S_18.out)
      clear K_13 X_14 M_15 N_16 B_17
      clear S_18
      clear x0 x1 x2 x3
      have L1_24 := Lib.hid (h1)
      clear h1
      have K_25 := Lib.hid (K_19.out.keep (new1 w3 (.cells (#[.int .i64 (applyS s0 l1).rev, .int .i64 (applyS s0 l1).low, .slice P1 p1 q1, .slice Q1 u1 v1]) 25)))
      have X_26 := Lib.hid (X_20.out.below (new1 w3 (.cells (#[.int .i64 (applyS s0 l1).rev, .int .i64 (applyS s0 l1).low, .slice P1 p1 q1, .slice Q1 u1 v1]) 25)))
      have M_27 := Lib.hid (M_21.out.keep (new1 w3 (.cells (#[.int .i64 (applyS s0 l1).rev, .int .i64 (applyS s0 l1).low, .slice P1 p1 q1, .slice Q1 u1 v1]) 25)))
      have N_28 := Lib.hid (N_22.out.keep (new1 w3 (.cells (#[.int .i64 (applyS s0 l1).rev, .int .i64 (applyS s0 l1).low, .slice P1 p1 q1, .slice Q1 u1 v1]) 25)))
      have L1_29 := Lib.hid (L1_24.out.keep (new1 w3 (.cells (#[.int .i64 (applyS s0 l1).rev, .int .i64 (applyS s0 l1).low, .slice P1 p1 q1, .slice Q1 u1 v1]) 25)))
      have B_30 := Lib.hid (then_ B_23.out (new1 w3 (.cells (#[.int .i64 (applyS s0 l1).rev, .int .i64 (applyS s0 l1).low, .slice P1 p1 q1, .slice Q1 u1 v1]) 25)))
      clear K_19 X_20 M_21 N_22 L1_24 B_23
      have R1_31 := Lib.hid (own_new w3 (#[.int .i64 (applyS s0 l1).rev, .int .i64 (applyS s0 l1).low, .slice P1 p1 q1, .slice Q1 u1 v1]) 25)
      have x0 := R1_31.out.cell 0 _ rfl
      have x1 := R1_31.out.cell 1 _ rfl
      have x2 := R1_31.out.cell 2 _ rfl
      have x3 := R1_31.out.cell 3 _ rfl
      go_wp2_with fail
      refine (apply_any (applyS s0 l1) P1 p1 q1 Q1 u1 v1 A2 n2 c2 l2 _ L1_29.out N_28.out M1.out).mono ?_; rintro e w4 ⟨P2, p2, q2, Q2, u2, v2, E2, en2, ec2, rfl, h2, _, hb⟩
      have S_32 := Lib.hid hb; clear hb
      have K_33 := Lib.hid (K_25.out.keep S_32.out)
      have X_34 := Lib.hid (X_26.out.below S_32.out)
      have M_35 := Lib.hid (M_27.out.keep S_32.out)
      have N_36 := Lib.hid (N_28.out.keep S_32.out)
      have L1_37 := Lib.hid (L1_29.out.keep S_32.out)
      have R1_38 := Lib.hid (R1_31.out.below S_32.out)
      have B_39 := Lib.hid (then_ B_30.out S_32.out)
      clear K_25 X_26 M_27 N_28 L1_29 R1_31 B_30
      clear S_32
      clear x0 x1 x2 x3
      have L2_40 := Lib.hid (h2)
      clear h2
      have K_41 := Lib.hid (K_33.out.keep (new1 w4 (.cells (#[.int .i64 (applyS (applyS s0 l1) l2).rev, .int .i64 (applyS (applyS s0 l1) l2).low, .slice P2 p2 q2, .slice Q2 u2 v2]) 25)))
      have X_42 := Lib.hid (X_34.out.below (new1 w4 (.cells (#[.int .i64 (applyS (applyS s0 l1) l2).rev, .int .i64 (applyS (applyS s0 l1) l2).low, .slice P2 p2 q2, .slice Q2 u2 v2]) 25)))
      have M_43 := Lib.hid (M_35.out.keep (new1 w4 (.cells (#[.int .i64 (applyS (applyS s0 l1) l2).rev, .int .i64 (applyS (applyS s0 l1) l2).low, .slice P2 p2 q2, .slice Q2 u2 v2]) 25)))
      have N_44 := Lib.hid (N_36.out.keep (new1 w4 (.cells (#[.int .i64 (applyS (applyS s0 l1) l2).rev, .int .i64 (applyS (applyS s0 l1) l2).low, .slice P2 p2 q2, .slice Q2 u2 v2]) 25)))
      have L1_45 := Lib.hid (L1_37.out.keep (new1 w4 (.cells (#[.int .i64 (applyS (applyS s0 l1) l2).rev, .int .i64 (applyS (applyS s0 l1) l2).low, .slice P2 p2 q2, .slice Q2 u2 v2]) 25)))
      have R1_46 := Lib.hid (R1_38.out.below (new1 w4 (.cells (#[.int .i64 (applyS (applyS s0 l1) l2).rev, .int .i64 (applyS (applyS s0 l1) l2).low, .slice P2 p2 q2, .slice Q2 u2 v2]) 25)))
      have L2_47 := Lib.hid (L2_40.out.keep (new1 w4 (.cells (#[.int .i64 (applyS (applyS s0 l1) l2).rev, .int .i64 (applyS (applyS s0 l1) l2).low, .slice P2 p2 q2, .slice Q2 u2 v2]) 25)))
      have B_48 := Lib.hid (then_ B_39.out (new1 w4 (.cells (#[.int .i64 (applyS (applyS s0 l1) l2).rev, .int .i64 (applyS (applyS s0 l1) l2).low, .slice P2 p2 q2, .slice Q2 u2 v2]) 25)))
      clear K_33 X_34 M_35 N_36 L1_37 R1_38 L2_40 B_39
      have R2_49 := Lib.hid (own_new w4 (#[.int .i64 (applyS (applyS s0 l1) l2).rev, .int .i64 (applyS (applyS s0 l1) l2).low, .slice P2 p2 q2, .slice Q2 u2 v2]) 25)
      have x0 := X_42.out.cell 0 _ rfl
      have x1 := X_42.out.cell 1 _ rfl
      have x2 := X_42.out.cell 2 _ rfl
      have x3 := X_42.out.cell 3 _ rfl
      go_wp2_with fail
      refine (apply_any s0 A0 n0 c0 B0 m0 d0 A2 n2 c2 l2 _ K_41.out N_44.out MS.out).mono ?_; rintro e w5 ⟨P3, p3, q3, Q3, u3, v3, E3, en3, ec3, rfl, h3, _, hb⟩
      have S_50 := Lib.hid hb; clear hb
      have K_51 := Lib.hid (K_41.out.keep S_50.out)
      have X_52 := Lib.hid (X_42.out.below S_50.out)
      have M_53 := Lib.hid (M_43.out.keep S_50.out)
      have N_54 := Lib.hid (N_44.out.keep S_50.out)
      have L1_55 := Lib.hid (L1_45.out.keep S_50.out)
      have R1_56 := Lib.hid (R1_46.out.below S_50.out)
      have L2_57 := Lib.hid (L2_47.out.keep S_50.out)
      have R2_58 := Lib.hid (R2_49.out.below S_50.out)
      have B_59 := Lib.hid (then_ B_48.out S_50.out)
      clear K_41 X_42 M_43 N_44 L1_45 R1_46 L2_47 R2_49 B_48
      clear S_50
      clear x0 x1 x2 x3
      have L3_60 := Lib.hid (h3)
      clear h3
      have K_61 := Lib.hid (K_51.out.keep (new1 w5 (.cells (#[.int .i64 (applyS s0 l2).rev, .int .i64 (applyS s0 l2).low, .slice P3 p3 q3, .slice Q3 u3 v3]) 25)))
      have X_62 := Lib.hid (X_52.out.below (new1 w5 (.cells (#[.int .i64 (applyS s0 l2).rev, .int .i64 (applyS s0 l2).low, .slice P3 p3 q3, .slice Q3 u3 v3]) 25)))
      have M_63 := Lib.hid (M_53.out.keep (new1 w5 (.cells (#[.int .i64 (applyS s0 l2).rev, .int .i64 (applyS s0 l2).low, .slice P3 p3 q3, .slice Q3 u3 v3]) 25)))
      have N_64 := Lib.hid (N_54.out.keep (new1 w5 (.cells (#[.int .i64 (applyS s0 l2).rev, .int .i64 (applyS s0 l2).low, .slice P3 p3 q3, .slice Q3 u3 v3]) 25)))
      have L1_65 := Lib.hid (L1_55.out.keep (new1 w5 (.cells (#[.int .i64 (applyS s0 l2).rev, .int .i64 (applyS s0 l2).low, .slice P3 p3 q3, .slice Q3 u3 v3]) 25)))
      have R1_66 := Lib.hid (R1_56.out.below (new1 w5 (.cells (#[.int .i64 (applyS s0 l2).rev, .int .i64 (applyS s0 l2).low, .slice P3 p3 q3, .slice Q3 u3 v3]) 25)))
      have L2_67 := Lib.hid (L2_57.out.keep (new1 w5 (.cells (#[.int .i64 (applyS s0 l2).rev, .int .i64 (applyS s0 l2).low, .slice P3 p3 q3, .slice Q3 u3 v3]) 25)))
      have R2_68 := Lib.hid (R2_58.out.below (new1 w5 (.cells (#[.int .i64 (applyS s0 l2).rev, .int .i64 (applyS s0 l2).low, .slice P3 p3 q3, .slice Q3 u3 v3]) 25)))
      have L3_69 := Lib.hid (L3_60.out.keep (new1 w5 (.cells (#[.int .i64 (applyS s0 l2).rev, .int .i64 (applyS s0 l2).low, .slice P3 p3 q3, .slice Q3 u3 v3]) 25)))
      have B_70 := Lib.hid (then_ B_59.out (new1 w5 (.cells (#[.int .i64 (applyS s0 l2).rev, .int .i64 (applyS s0 l2).low, .slice P3 p3 q3, .slice Q3 u3 v3]) 25)))
      clear K_51 X_52 M_53 N_54 L1_55 R1_56 L2_57 R2_58 L3_60 B_59
      have R3_71 := Lib.hid (own_new w5 (#[.int .i64 (applyS s0 l2).rev, .int .i64 (applyS s0 l2).low, .slice P3 p3 q3, .slice Q3 u3 v3]) 25)
      have x0 := R3_71.out.cell 0 _ rfl
      have x1 := R3_71.out.cell 1 _ rfl
      have x2 := R3_71.out.cell 2 _ rfl
      have x3 := R3_71.out.cell 3 _ rfl
      go_wp2_with fail
      refine (apply_any (applyS s0 l2) P3 p3 q3 Q3 u3 v3 A1 n1 c1 l1 _ L3_69.out M_63.out M3.out).mono ?_; rintro e w6 ⟨P4, p4, q4, Q4, u4, v4, E4, en4, ec4, rfl, h4, _, hb⟩
      have S_72 := Lib.hid hb; clear hb
      have K_73 := Lib.hid (K_61.out.keep S_72.out)
      have X_74 := Lib.hid (X_62.out.below S_72.out)
      have M_75 := Lib.hid (M_63.out.keep S_72.out)
      have N_76 := Lib.hid (N_64.out.keep S_72.out)
      have L1_77 := Lib.hid (L1_65.out.keep S_72.out)
      have R1_78 := Lib.hid (R1_66.out.below S_72.out)
      have L2_79 := Lib.hid (L2_67.out.keep S_72.out)
      have R2_80 := Lib.hid (R2_68.out.below S_72.out)
      have L3_81 := Lib.hid (L3_69.out.keep S_72.out)
      have R3_82 := Lib.hid (R3_71.out.below S_72.out)
      have B_83 := Lib.hid (then_ B_70.out S_72.out)
      clear K_61 X_62 M_63 N_64 L1_65 R1_66 L2_67 R2_68 L3_69 R3_71 B_70
      clear S_72
      clear x0 x1 x2 x3
      have L4_84 := Lib.hid (h4)
      clear h4
      have K_85 := Lib.hid (K_73.out.keep (new1 w6 (.cells (#[.int .i64 (applyS (applyS s0 l2) l1).rev, .int .i64 (applyS (applyS s0 l2) l1).low, .slice P4 p4 q4, .slice Q4 u4 v4]) 25)))
      have X_86 := Lib.hid (X_74.out.below (new1 w6 (.cells (#[.int .i64 (applyS (applyS s0 l2) l1).rev, .int .i64 (applyS (applyS s0 l2) l1).low, .slice P4 p4 q4, .slice Q4 u4 v4]) 25)))
      have M_87 := Lib.hid (M_75.out.keep (new1 w6 (.cells (#[.int .i64 (applyS (applyS s0 l2) l1).rev, .int .i64 (applyS (applyS s0 l2) l1).low, .slice P4 p4 q4, .slice Q4 u4 v4]) 25)))
      have N_88 := Lib.hid (N_76.out.keep (new1 w6 (.cells (#[.int .i64 (applyS (applyS s0 l2) l1).rev, .int .i64 (applyS (applyS s0 l2) l1).low, .slice P4 p4 q4, .slice Q4 u4 v4]) 25)))
      have L1_89 := Lib.hid (L1_77.out.keep (new1 w6 (.cells (#[.int .i64 (applyS (applyS s0 l2) l1).rev, .int .i64 (applyS (applyS s0 l2) l1).low, .slice P4 p4 q4, .slice Q4 u4 v4]) 25)))
      have R1_90 := Lib.hid (R1_78.out.below (new1 w6 (.cells (#[.int .i64 (applyS (applyS s0 l2) l1).rev, .int .i64 (applyS (applyS s0 l2) l1).low, .slice P4 p4 q4, .slice Q4 u4 v4]) 25)))
      have L2_91 := Lib.hid (L2_79.out.keep (new1 w6 (.cells (#[.int .i64 (applyS (applyS s0 l2) l1).rev, .int .i64 (applyS (applyS s0 l2) l1).low, .slice P4 p4 q4, .slice Q4 u4 v4]) 25)))
      have R2_92 := Lib.hid (R2_80.out.below (new1 w6 (.cells (#[.int .i64 (applyS (applyS s0 l2) l1).rev, .int .i64 (applyS (applyS s0 l2) l1).low, .slice P4 p4 q4, .slice Q4 u4 v4]) 25)))
      have L3_93 := Lib.hid (L3_81.out.keep (new1 w6 (.cells (#[.int .i64 (applyS (applyS s0 l2) l1).rev, .int .i64 (applyS (applyS s0 l2) l1).low, .slice P4 p4 q4, .slice Q4 u4 v4]) 25)))
      have R3_94 := Lib.hid (R3_82.out.below (new1 w6 (.cells (#[.int .i64 (applyS (applyS s0 l2) l1).rev, .int .i64 (applyS (applyS s0 l2) l1).low, .slice P4 p4 q4, .slice Q4 u4 v4]) 25)))
      have L4_95 := Lib.hid (L4_84.out.keep (new1 w6 (.cells (#[.int .i64 (applyS (applyS s0 l2) l1).rev, .int .i64 (applyS (applyS s0 l2) l1).low, .slice P4 p4 q4, .slice Q4 u4 v4]) 25)))
      have B_96 := Lib.hid (then_ B_83.out (new1 w6 (.cells (#[.int .i64 (applyS (applyS s0 l2) l1).rev, .int .i64 (applyS (applyS s0 l2) l1).low, .slice P4 p4 q4, .slice Q4 u4 v4]) 25)))
      clear K_73 X_74 M_75 N_76 L1_77 R1_78 L2_79 R2_80 L3_81 R3_82 L4_84 B_83
      have R4_97 := Lib.hid (own_new w6 (#[.int .i64 (applyS (applyS s0 l2) l1).rev, .int .i64 (applyS (applyS s0 l2) l1).low, .slice P4 p4 q4, .slice Q4 u4 v4]) 25)
      go_wp2_with fail
      refine (live_any _).mono ?_; rintro e w7 ⟨rfl, hb⟩
      have S_98 := Lib.hid hb; clear hb
      have K_99 := Lib.hid (K_85.out.keep S_98.out)
      have X_100 := Lib.hid (X_86.out.below S_98.out)
      have M_101 := Lib.hid (M_87.out.keep S_98.out)
      have N_102 := Lib.hid (N_88.out.keep S_98.out)
      have L1_103 := Lib.hid (L1_89.out.keep S_98.out)
      have R1_104 := Lib.hid (R1_90.out.below S_98.out)
      have L2_105 := Lib.hid (L2_91.out.keep S_98.out)
      have R2_106 := Lib.hid (R2_92.out.below S_98.out)
      have L3_107 := Lib.hid (L3_93.out.keep S_98.out)
      have R3_108 := Lib.hid (R3_94.out.below S_98.out)
      have L4_109 := Lib.hid (L4_95.out.keep S_98.out)
      have R4_110 := Lib.hid (R4_97.out.below S_98.out)
      have B_111 := Lib.hid (then_ B_96.out S_98.out)
      clear K_85 X_86 M_87 N_88 L1_89 R1_90 L2_91 R2_92 L3_93 R3_94 L4_95 R4_97 B_96
      clear S_98
      go_wp2
      go_ret
      exact ⟨rfl, B_111.out⟩
theorem fine (w : World) (s0 : St) (A0 : Option Addr) (n0 c0 : Nat) (B0 : Option Addr) (m0 d0 : Nat) (A1 : Option Addr) (n1 c1 : Nat) (l1 : List Mu) (A2 : Option Addr) (n2 c2 : Nat) (l2 : List Mu) (k0 : StAt w s0 A0 n0 c0 B0 m0 d0) (k1 : Mus w A1 n1 c1 l1) (k2 : Mus w A2 n2 c2 l2) (hf : fewS s0 = true) (hm : mayB s0 = true) (hn1 : n1 ≤ 20) (hn2 : n2 ≤ 20) (hs : l1.all shMu = true) (ht : l2.all shMu = true) (e1 : applyE s0 l1 = 0) (e2 : applyE (applyS s0 l1) l2 = 0) (e3 : applyE s0 l2 = 0) (e4 : applyE (applyS s0 l2) l1 = 0) :
    Calls Try.prog 8 #[s0.agg A0 n0 c0 B0 m0 d0, .slice A1 n1 c1, .slice A2 n2 c2] w fun e w' => e = .returned (.bool true) ∧ Below w.heap.size w w' := by
  have HF := Lib.hid hf; have HM := Lib.hid hm; have HS := Lib.hid hs; have HT := Lib.hid ht; have MS := Lib.hid (may_st.1 hm)
  have hb0 := k0.kv.len; have hb1 := k0.ev.len; have hb2 := MS.out.good.len; have hb3 := MS.out.len
  have M1 := Lib.hid (apply_may MS.out l1); have M2 := Lib.hid (apply_may M1.out l2); have M3 := Lib.hid (apply_may MS.out l2); have M4 := Lib.hid (apply_may M3.out l1)
  have he1 : (applyE s0 l1 != 0) = false := by simp [e1]
  have he2 : (applyE (applyS s0 l1) l2 != 0) = false := by simp [e2]
  have he3 : (applyE s0 l2 != 0) = false := by simp [e3]
  have he4 : (applyE (applyS s0 l2) l1 != 0) = false := by simp [e4]
  have AP : Hid (ApartTo l1 l2 n1 → (nowL (applyS (applyS s0 l1) l2)).map projK = (nowL (applyS (applyS s0 l2) l1)).map projK ∧ (applyS (applyS s0 l1) l2).rev = (applyS (applyS s0 l2) l1).rev ∧ (applyS (applyS s0 l1) l2).log.length = (applyS (applyS s0 l2) l1).log.length) := Lib.hid (fun h => apply_apart MS.out (fun x hx y hy => teq_ne.1 (h.out x (by rw [take_full _ _ k1.len]; exact hx) y hy)) e1 e2 e3 e4)
  clear hf hm hs ht e1 e2 e3 e4
  have HL1 := Lib.hid k1.len; have HL2 := Lib.hid k2.len
  have K_0 := Lib.hid (k0.keep (new1 w (.cells (stCells s0 A0 n0 c0 B0 m0 d0) 25)))
  have X_0 := Lib.hid (own_new w (stCells s0 A0 n0 c0 B0 m0 d0) 25)
  have M_0 := Lib.hid (k1.keep (new1 w (.cells (stCells s0 A0 n0 c0 B0 m0 d0) 25)))
  have N_0 := Lib.hid (k2.keep (new1 w (.cells (stCells s0 A0 n0 c0 B0 m0 d0) 25)))
  have B_0 := Lib.hid (new1 w (.cells (stCells s0 A0 n0 c0 B0 m0 d0) 25))
  clear k0 k1 k2
  go_enter Try.func8, Try.ntmps8
  have x0 := X_0.out.cell 0 _ rfl
  have x1 := X_0.out.cell 1 _ rfl
  have x2 := X_0.out.cell 2 _ rfl
  have x3 := X_0.out.cell 3 _ rfl
  go_wp2_with fail
  refine (few_st s0 A0 n0 c0 B0 m0 d0 _ K_0.out).mono ?_; rintro e w1 ⟨rfl, hb⟩
  rw [HF.out]
  have S_1 := Lib.hid hb; clear hb
  have K_2 := Lib.hid (K_0.out.keep S_1.out)
  have X_3 := Lib.hid (X_0.out.below S_1.out)
  have M_4 := Lib.hid (M_0.out.keep S_1.out)
  have N_5 := Lib.hid (N_0.out.keep S_1.out)
  have B_6 := Lib.hid (then_ B_0.out S_1.out)
  clear K_0 X_0 M_0 N_0 B_0
  clear S_1
  clear x0 x1 x2 x3
  have x0 := X_3.out.cell 0 _ rfl
  have x1 := X_3.out.cell 1 _ rfl
  have x2 := X_3.out.cell 2 _ rfl
  have x3 := X_3.out.cell 3 _ rfl
  go_wp2_with fail
  refine (mvmay_any s0 A0 n0 c0 B0 m0 d0 _ K_2.out).mono ?_; rintro e w2 ⟨rfl, hb⟩
  rw [HM.out]
  have S_7 := Lib.hid hb; clear hb
  have K_8 := Lib.hid (K_2.out.keep S_7.out)
  have X_9 := Lib.hid (X_3.out.below S_7.out)
  have M_10 := Lib.hid (M_4.out.keep S_7.out)
  have N_11 := Lib.hid (N_5.out.keep S_7.out)
  have B_12 := Lib.hid (then_ B_6.out S_7.out)
  clear K_2 X_3 M_4 N_5 B_6
  clear S_7
  clear x0 x1 x2 x3
  go_wp2_with fail
  refine (short_any A1 n1 c1 l1 _ M_10.out).mono ?_; rintro e w' ⟨rfl, rfl⟩
  rw [HS.out]
  go_wp2_with fail
  refine (short_any A2 n2 c2 l2 _ N_11.out).mono ?_; rintro e w' ⟨rfl, rfl⟩
  rw [HT.out]
  go_wp2
  go_loopw [7] (fun iv wr => ∃ j q : Nat, j ≤ n1 ∧ iv = .int .i64 j ∧ ApartTo l1 l2 j ∧ wr = w2.drewN q) (fun iv _ => n1 - (intOf iv).toNat)
  case atStart => exact ⟨0, 0, Nat.zero_le _, rfl, apart_zero _ _, rfl⟩
  case round =>
    obtain ⟨j, q, hj, rfl, hap, rfl⟩ := hrel
    have AT := Lib.hid hap
    clear hap
    by_cases hlt : j < n1
    · obtain ⟨a, x, rfl, hbl, hx, hok, hc⟩ := M_10.out.at_ hlt
      obtain ⟨c0, c1, c2, c3⟩ := hc
      have HX := Lib.hid hx
      clear hx hok hbl
      go_wp2
      go_loopw [8] (fun kv wr => ∃ i r : Nat, i ≤ n2 ∧ kv = .int .i64 i ∧ ApartIn x l2 i ∧ wr = w2.drewN r) (fun kv _ => n2 - (intOf kv).toNat)
      case atStart => exact ⟨0, q, Nat.zero_le _, rfl, apart_in0 _ _, rfl⟩
      case round =>
        obtain ⟨i, r, hi, rfl, hin, rfl⟩ := hrel
        have AI := Lib.hid hin
        clear hin
        by_cases hlt2 : i < n2
        · obtain ⟨b, y, rfl, gbl, hy, gok, gc⟩ := N_11.out.at_ hlt2
          obtain ⟨g0, g1, g2, g3⟩ := gc
          have HY := Lib.hid hy
          clear hy gok gbl
          cases hk : teq x.key y.key with
          | true =>
            unfold teq at hk
            go_wp2
            go_quiet (fail)
            go_wp2_with fail
            refine (live_any _).mono ?_; rintro e w9 ⟨rfl, hb⟩
            have BB := Lib.hid (then_ B_12.out (then_ (below_drewN (Below.refl _ _) _) hb)); clear hb
            go_wp2
            go_ret
            exact ⟨rfl, BB.out⟩
          | false =>
            have NX := Lib.hid (AI.out.next HY.out hk)
            unfold teq at hk
            go_wp2
            go_quiet (fail)
            go_wp2
            go_roundw
            case rel => exact ⟨i + 1, _, by omega, by go_num, NX.out, rfl⟩
            case measure => simp [intOf]; omega
        · obtain rfl : i = n2 := by omega
          have NX := Lib.hid (AT.out.next HX.out AI.out HL2.out)
          go_wp2
          go_roundw
          case rel => exact ⟨j + 1, _, by omega, by go_num, NX.out, rfl⟩
          case measure => simp [intOf]; omega
    · obtain rfl : n1 = j := by omega
      obtain ⟨wz, hwz⟩ : ∃ wz, wz = w2.drewN q := ⟨_, rfl⟩
      rw [← hwz]
      have SZ : Hid (Below w2.heap.size w2 wz) := Lib.hid (by rw [hwz]; exact below_drewN (Below.refl _ _) _)
      clear hwz hlt hj
      have K_13 := Lib.hid (K_8.out.keep SZ.out)
      have X_14 := Lib.hid (X_9.out.below SZ.out)
      have M_15 := Lib.hid (M_10.out.keep SZ.out)
      have N_16 := Lib.hid (N_11.out.keep SZ.out)
      have B_17 := Lib.hid (then_ B_12.out SZ.out)
      clear K_8 X_9 M_10 N_11 B_12
      clear SZ
      have x0 := X_14.out.cell 0 _ rfl
      have x1 := X_14.out.cell 1 _ rfl
      have x2 := X_14.out.cell 2 _ rfl
      have x3 := X_14.out.cell 3 _ rfl
      go_wp2_with fail
      refine (apply_any s0 A0 n0 c0 B0 m0 d0 A1 n1 c1 l1 _ K_13.out M_15.out MS.out).mono ?_; rintro e w3 ⟨P1, p1, q1, Q1, u1, v1, E1, en1, ec1, rfl, h1, _, hb⟩
      have S_18 := Lib.hid hb; clear hb
      have K_19 := Lib.hid (K_13.out.keep S_18.out)
      have X_20 := Lib.hid (X_14.out.below S_18.out)
      have M_21 := Lib.hid (M_15.out.keep S_18.out)
      have N_22 := Lib.hid (N_16.out.keep S_18.out)
      have B_23 := Lib.hid (then_ B_17.out S_18.out)
      clear K_13 X_14 M_15 N_16 B_17
      clear S_18
      clear x0 x1 x2 x3
      have L1_24 := Lib.hid (h1)
      clear h1
      have K_25 := Lib.hid (K_19.out.keep (new1 w3 (.cells (#[.int .i64 (applyS s0 l1).rev, .int .i64 (applyS s0 l1).low, .slice P1 p1 q1, .slice Q1 u1 v1]) 25)))
      have X_26 := Lib.hid (X_20.out.below (new1 w3 (.cells (#[.int .i64 (applyS s0 l1).rev, .int .i64 (applyS s0 l1).low, .slice P1 p1 q1, .slice Q1 u1 v1]) 25)))
      have M_27 := Lib.hid (M_21.out.keep (new1 w3 (.cells (#[.int .i64 (applyS s0 l1).rev, .int .i64 (applyS s0 l1).low, .slice P1 p1 q1, .slice Q1 u1 v1]) 25)))
      have N_28 := Lib.hid (N_22.out.keep (new1 w3 (.cells (#[.int .i64 (applyS s0 l1).rev, .int .i64 (applyS s0 l1).low, .slice P1 p1 q1, .slice Q1 u1 v1]) 25)))
      have L1_29 := Lib.hid (L1_24.out.keep (new1 w3 (.cells (#[.int .i64 (applyS s0 l1).rev, .int .i64 (applyS s0 l1).low, .slice P1 p1 q1, .slice Q1 u1 v1]) 25)))
      have B_30 := Lib.hid (then_ B_23.out (new1 w3 (.cells (#[.int .i64 (applyS s0 l1).rev, .int .i64 (applyS s0 l1).low, .slice P1 p1 q1, .slice Q1 u1 v1]) 25)))
      clear K_19 X_20 M_21 N_22 L1_24 B_23
      have R1_31 := Lib.hid (own_new w3 (#[.int .i64 (applyS s0 l1).rev, .int .i64 (applyS s0 l1).low, .slice P1 p1 q1, .slice Q1 u1 v1]) 25)
      have x0 := R1_31.out.cell 0 _ rfl
      have x1 := R1_31.out.cell 1 _ rfl
      have x2 := R1_31.out.cell 2 _ rfl
      have x3 := R1_31.out.cell 3 _ rfl
      go_wp2_with fail
      refine (apply_any (applyS s0 l1) P1 p1 q1 Q1 u1 v1 A2 n2 c2 l2 _ L1_29.out N_28.out M1.out).mono ?_; rintro e w4 ⟨P2, p2, q2, Q2, u2, v2, E2, en2, ec2, rfl, h2, _, hb⟩
      have S_32 := Lib.hid hb; clear hb
      have K_33 := Lib.hid (K_25.out.keep S_32.out)
      have X_34 := Lib.hid (X_26.out.below S_32.out)
      have M_35 := Lib.hid (M_27.out.keep S_32.out)
      have N_36 := Lib.hid (N_28.out.keep S_32.out)
      have L1_37 := Lib.hid (L1_29.out.keep S_32.out)
      have R1_38 := Lib.hid (R1_31.out.below S_32.out)
      have B_39 := Lib.hid (then_ B_30.out S_32.out)
      clear K_25 X_26 M_27 N_28 L1_29 R1_31 B_30
      clear S_32
      clear x0 x1 x2 x3
      have L2_40 := Lib.hid (h2)
      clear h2
      have K_41 := Lib.hid (K_33.out.keep (new1 w4 (.cells (#[.int .i64 (applyS (applyS s0 l1) l2).rev, .int .i64 (applyS (applyS s0 l1) l2).low, .slice P2 p2 q2, .slice Q2 u2 v2]) 25)))
      have X_42 := Lib.hid (X_34.out.below (new1 w4 (.cells (#[.int .i64 (applyS (applyS s0 l1) l2).rev, .int .i64 (applyS (applyS s0 l1) l2).low, .slice P2 p2 q2, .slice Q2 u2 v2]) 25)))
      have M_43 := Lib.hid (M_35.out.keep (new1 w4 (.cells (#[.int .i64 (applyS (applyS s0 l1) l2).rev, .int .i64 (applyS (applyS s0 l1) l2).low, .slice P2 p2 q2, .slice Q2 u2 v2]) 25)))
      have N_44 := Lib.hid (N_36.out.keep (new1 w4 (.cells (#[.int .i64 (applyS (applyS s0 l1) l2).rev, .int .i64 (applyS (applyS s0 l1) l2).low, .slice P2 p2 q2, .slice Q2 u2 v2]) 25)))
      have L1_45 := Lib.hid (L1_37.out.keep (new1 w4 (.cells (#[.int .i64 (applyS (applyS s0 l1) l2).rev, .int .i64 (applyS (applyS s0 l1) l2).low, .slice P2 p2 q2, .slice Q2 u2 v2]) 25)))
      have R1_46 := Lib.hid (R1_38.out.below (new1 w4 (.cells (#[.int .i64 (applyS (applyS s0 l1) l2).rev, .int .i64 (applyS (applyS s0 l1) l2).low, .slice P2 p2 q2, .slice Q2 u2 v2]) 25)))
      have L2_47 := Lib.hid (L2_40.out.keep (new1 w4 (.cells (#[.int .i64 (applyS (applyS s0 l1) l2).rev, .int .i64 (applyS (applyS s0 l1) l2).low, .slice P2 p2 q2, .slice Q2 u2 v2]) 25)))
      have B_48 := Lib.hid (then_ B_39.out (new1 w4 (.cells (#[.int .i64 (applyS (applyS s0 l1) l2).rev, .int .i64 (applyS (applyS s0 l1) l2).low, .slice P2 p2 q2, .slice Q2 u2 v2]) 25)))
      clear K_33 X_34 M_35 N_36 L1_37 R1_38 L2_40 B_39
      have R2_49 := Lib.hid (own_new w4 (#[.int .i64 (applyS (applyS s0 l1) l2).rev, .int .i64 (applyS (applyS s0 l1) l2).low, .slice P2 p2 q2, .slice Q2 u2 v2]) 25)
      have x0 := X_42.out.cell 0 _ rfl
      have x1 := X_42.out.cell 1 _ rfl
      have x2 := X_42.out.cell 2 _ rfl
      have x3 := X_42.out.cell 3 _ rfl
      go_wp2_with fail
      refine (apply_any s0 A0 n0 c0 B0 m0 d0 A2 n2 c2 l2 _ K_41.out N_44.out MS.out).mono ?_; rintro e w5 ⟨P3, p3, q3, Q3, u3, v3, E3, en3, ec3, rfl, h3, _, hb⟩
      have S_50 := Lib.hid hb; clear hb
      have K_51 := Lib.hid (K_41.out.keep S_50.out)
      have X_52 := Lib.hid (X_42.out.below S_50.out)
      have M_53 := Lib.hid (M_43.out.keep S_50.out)
      have N_54 := Lib.hid (N_44.out.keep S_50.out)
      have L1_55 := Lib.hid (L1_45.out.keep S_50.out)
      have R1_56 := Lib.hid (R1_46.out.below S_50.out)
      have L2_57 := Lib.hid (L2_47.out.keep S_50.out)
      have R2_58 := Lib.hid (R2_49.out.below S_50.out)
      have B_59 := Lib.hid (then_ B_48.out S_50.out)
      clear K_41 X_42 M_43 N_44 L1_45 R1_46 L2_47 R2_49 B_48
      clear S_50
      clear x0 x1 x2 x3
      have L3_60 := Lib.hid (h3)
      clear h3
      have K_61 := Lib.hid (K_51.out.keep (new1 w5 (.cells (#[.int .i64 (applyS s0 l2).rev, .int .i64 (applyS s0 l2).low, .slice P3 p3 q3, .slice Q3 u3 v3]) 25)))
      have X_62 := Lib.hid (X_52.out.below (new1 w5 (.cells (#[.int .i64 (applyS s0 l2).rev, .int .i64 (applyS s0 l2).low, .slice P3 p3 q3, .slice Q3 u3 v3]) 25)))
      have M_63 := Lib.hid (M_53.out.keep (new1 w5 (.cells (#[.int .i64 (applyS s0 l2).rev, .int .i64 (applyS s0 l2).low, .slice P3 p3 q3, .slice Q3 u3 v3]) 25)))
      have N_64 := Lib.hid (N_54.out.keep (new1 w5 (.cells (#[.int .i64 (applyS s0 l2).rev, .int .i64 (applyS s0 l2).low, .slice P3 p3 q3, .slice Q3 u3 v3]) 25)))
      have L1_65 := Lib.hid (L1_55.out.keep (new1 w5 (.cells (#[.int .i64 (applyS s0 l2).rev, .int .i64 (applyS s0 l2).low, .slice P3 p3 q3, .slice Q3 u3 v3]) 25)))
      have R1_66 := Lib.hid (R1_56.out.below (new1 w5 (.cells (#[.int .i64 (applyS s0 l2).rev, .int .i64 (applyS s0 l2).low, .slice P3 p3 q3, .slice Q3 u3 v3]) 25)))
      have L2_67 := Lib.hid (L2_57.out.keep (new1 w5 (.cells (#[.int .i64 (applyS s0 l2).rev, .int .i64 (applyS s0 l2).low, .slice P3 p3 q3, .slice Q3 u3 v3]) 25)))
      have R2_68 := Lib.hid (R2_58.out.below (new1 w5 (.cells (#[.int .i64 (applyS s0 l2).rev, .int .i64 (applyS s0 l2).low, .slice P3 p3 q3, .slice Q3 u3 v3]) 25)))
      have L3_69 := Lib.hid (L3_60.out.keep (new1 w5 (.cells (#[.int .i64 (applyS s0 l2).rev, .int .i64 (applyS s0 l2).low, .slice P3 p3 q3, .slice Q3 u3 v3]) 25)))
      have B_70 := Lib.hid (then_ B_59.out (new1 w5 (.cells (#[.int .i64 (applyS s0 l2).rev, .int .i64 (applyS s0 l2).low, .slice P3 p3 q3, .slice Q3 u3 v3]) 25)))
      clear K_51 X_52 M_53 N_54 L1_55 R1_56 L2_57 R2_58 L3_60 B_59
      have R3_71 := Lib.hid (own_new w5 (#[.int .i64 (applyS s0 l2).rev, .int .i64 (applyS s0 l2).low, .slice P3 p3 q3, .slice Q3 u3 v3]) 25)
      have x0 := R3_71.out.cell 0 _ rfl
      have x1 := R3_71.out.cell 1 _ rfl
      have x2 := R3_71.out.cell 2 _ rfl
      have x3 := R3_71.out.cell 3 _ rfl
      go_wp2_with fail
      refine (apply_any (applyS s0 l2) P3 p3 q3 Q3 u3 v3 A1 n1 c1 l1 _ L3_69.out M_63.out M3.out).mono ?_; rintro e w6 ⟨P4, p4, q4, Q4, u4, v4, E4, en4, ec4, rfl, h4, _, hb⟩
      have S_72 := Lib.hid hb; clear hb
      have K_73 := Lib.hid (K_61.out.keep S_72.out)
      have X_74 := Lib.hid (X_62.out.below S_72.out)
      have M_75 := Lib.hid (M_63.out.keep S_72.out)
      have N_76 := Lib.hid (N_64.out.keep S_72.out)
      have L1_77 := Lib.hid (L1_65.out.keep S_72.out)
      have R1_78 := Lib.hid (R1_66.out.below S_72.out)
      have L2_79 := Lib.hid (L2_67.out.keep S_72.out)
      have R2_80 := Lib.hid (R2_68.out.below S_72.out)
      have L3_81 := Lib.hid (L3_69.out.keep S_72.out)
      have R3_82 := Lib.hid (R3_71.out.below S_72.out)
      have B_83 := Lib.hid (then_ B_70.out S_72.out)
      clear K_61 X_62 M_63 N_64 L1_65 R1_66 L2_67 R2_68 L3_69 R3_71 B_70
      clear S_72
      clear x0 x1 x2 x3
      have L4_84 := Lib.hid (h4)
      clear h4
      have K_85 := Lib.hid (K_73.out.keep (new1 w6 (.cells (#[.int .i64 (applyS (applyS s0 l2) l1).rev, .int .i64 (applyS (applyS s0 l2) l1).low, .slice P4 p4 q4, .slice Q4 u4 v4]) 25)))
      have X_86 := Lib.hid (X_74.out.below (new1 w6 (.cells (#[.int .i64 (applyS (applyS s0 l2) l1).rev, .int .i64 (applyS (applyS s0 l2) l1).low, .slice P4 p4 q4, .slice Q4 u4 v4]) 25)))
      have M_87 := Lib.hid (M_75.out.keep (new1 w6 (.cells (#[.int .i64 (applyS (applyS s0 l2) l1).rev, .int .i64 (applyS (applyS s0 l2) l1).low, .slice P4 p4 q4, .slice Q4 u4 v4]) 25)))
      have N_88 := Lib.hid (N_76.out.keep (new1 w6 (.cells (#[.int .i64 (applyS (applyS s0 l2) l1).rev, .int .i64 (applyS (applyS s0 l2) l1).low, .slice P4 p4 q4, .slice Q4 u4 v4]) 25)))
      have L1_89 := Lib.hid (L1_77.out.keep (new1 w6 (.cells (#[.int .i64 (applyS (applyS s0 l2) l1).rev, .int .i64 (applyS (applyS s0 l2) l1).low, .slice P4 p4 q4, .slice Q4 u4 v4]) 25)))
      have R1_90 := Lib.hid (R1_78.out.below (new1 w6 (.cells (#[.int .i64 (applyS (applyS s0 l2) l1).rev, .int .i64 (applyS (applyS s0 l2) l1).low, .slice P4 p4 q4, .slice Q4 u4 v4]) 25)))
      have L2_91 := Lib.hid (L2_79.out.keep (new1 w6 (.cells (#[.int .i64 (applyS (applyS s0 l2) l1).rev, .int .i64 (applyS (applyS s0 l2) l1).low, .slice P4 p4 q4, .slice Q4 u4 v4]) 25)))
      have R2_92 := Lib.hid (R2_80.out.below (new1 w6 (.cells (#[.int .i64 (applyS (applyS s0 l2) l1).rev, .int .i64 (applyS (applyS s0 l2) l1).low, .slice P4 p4 q4, .slice Q4 u4 v4]) 25)))
      have L3_93 := Lib.hid (L3_81.out.keep (new1 w6 (.cells (#[.int .i64 (applyS (applyS s0 l2) l1).rev, .int .i64 (applyS (applyS s0 l2) l1).low, .slice P4 p4 q4, .slice Q4 u4 v4]) 25)))
      have R3_94 := Lib.hid (R3_82.out.below (new1 w6 (.cells (#[.int .i64 (applyS (applyS s0 l2) l1).rev, .int .i64 (applyS (applyS s0 l2) l1).low, .slice P4 p4 q4, .slice Q4 u4 v4]) 25)))
      have L4_95 := Lib.hid (L4_84.out.keep (new1 w6 (.cells (#[.int .i64 (applyS (applyS s0 l2) l1).rev, .int .i64 (applyS (applyS s0 l2) l1).low, .slice P4 p4 q4, .slice Q4 u4 v4]) 25)))
      have B_96 := Lib.hid (then_ B_83.out (new1 w6 (.cells (#[.int .i64 (applyS (applyS s0 l2) l1).rev, .int .i64 (applyS (applyS s0 l2) l1).low, .slice P4 p4 q4, .slice Q4 u4 v4]) 25)))
      clear K_73 X_74 M_75 N_76 L1_77 R1_78 L2_79 R2_80 L3_81 R3_82 L4_84 B_83
      have R4_97 := Lib.hid (own_new w6 (#[.int .i64 (applyS (applyS s0 l2) l1).rev, .int .i64 (applyS (applyS s0 l2) l1).low, .slice P4 p4 q4, .slice Q4 u4 v4]) 25)
      obtain ⟨pj, prv, plg⟩ := AP.out AT.out
      have PJ := Lib.hid pj
      have a2 := M2.out.good.len; have b2 := M2.out.len; have c2 := L2_91.out.kv.len; have d2 := L2_91.out.ev.len
      have HP2 : Hid (p2 + u2 ≤ 900000) := Lib.hid (by omega)
      have a4 := M4.out.good.len; have b4 := M4.out.len; have c4 := L4_95.out.kv.len; have d4 := L4_95.out.ev.len
      have HP4 : Hid (p4 + u4 ≤ 900000) := Lib.hid (by omega)
      obtain rfl : u2 = u4 := by omega
      have hrv : ((applyS (applyS s0 l1) l2).rev != (applyS (applyS s0 l2) l1).rev) = false := by rw [prv]; simp
      clear pj prv plg a2 b2 c2 d2 a4 b4 c4 d4
      have x0 := R2_92.out.cell 0 _ rfl
      have x1 := R2_92.out.cell 1 _ rfl
      have x2 := R2_92.out.cell 2 _ rfl
      have x3 := R2_92.out.cell 3 _ rfl
      go_wp2_with fail
      refine (now_any (applyS (applyS s0 l1) l2) P2 p2 q2 Q2 u2 v2 _ L2_91.out HP2.out).mono ?_; rintro e w7 ⟨W1, i1, j1, rfl, h5, hb⟩
      have S_98 := Lib.hid hb; clear hb
      have K_99 := Lib.hid (K_85.out.keep S_98.out)
      have X_100 := Lib.hid (X_86.out.below S_98.out)
      have M_101 := Lib.hid (M_87.out.keep S_98.out)
      have N_102 := Lib.hid (N_88.out.keep S_98.out)
      have L1_103 := Lib.hid (L1_89.out.keep S_98.out)
      have R1_104 := Lib.hid (R1_90.out.below S_98.out)
      have L2_105 := Lib.hid (L2_91.out.keep S_98.out)
      have R2_106 := Lib.hid (R2_92.out.below S_98.out)
      have L3_107 := Lib.hid (L3_93.out.keep S_98.out)
      have R3_108 := Lib.hid (R3_94.out.below S_98.out)
      have L4_109 := Lib.hid (L4_95.out.keep S_98.out)
      have R4_110 := Lib.hid (R4_97.out.below S_98.out)
      have B_111 := Lib.hid (then_ B_96.out S_98.out)
      clear K_85 X_86 M_87 N_88 L1_89 R1_90 L2_91 R2_92 L3_93 R3_94 L4_95 R4_97 B_96
      clear S_98
      clear x0 x1 x2 x3
      have WA_112 := Lib.hid (h5)
      clear h5
      have x0 := R4_110.out.cell 0 _ rfl
      have x1 := R4_110.out.cell 1 _ rfl
      have x2 := R4_110.out.cell 2 _ rfl
      have x3 := R4_110.out.cell 3 _ rfl
      go_wp2_with fail
      refine (now_any (applyS (applyS s0 l2) l1) P4 p4 q4 Q4 u2 v4 _ L4_109.out HP4.out).mono ?_; rintro e w8 ⟨W2, i2, j2, rfl, h6, hb⟩
      have S_113 := Lib.hid hb; clear hb
      have K_114 := Lib.hid (K_99.out.keep S_113.out)
      have X_115 := Lib.hid (X_100.out.below S_113.out)
      have M_116 := Lib.hid (M_101.out.keep S_113.out)
      have N_117 := Lib.hid (N_102.out.keep S_113.out)
      have L1_118 := Lib.hid (L1_103.out.keep S_113.out)
      have R1_119 := Lib.hid (R1_104.out.below S_113.out)
      have L2_120 := Lib.hid (L2_105.out.keep S_113.out)
      have R2_121 := Lib.hid (R2_106.out.below S_113.out)
      have L3_122 := Lib.hid (L3_107.out.keep S_113.out)
      have R3_123 := Lib.hid (R3_108.out.below S_113.out)
      have L4_124 := Lib.hid (L4_109.out.keep S_113.out)
      have R4_125 := Lib.hid (R4_110.out.below S_113.out)
      have WA_126 := Lib.hid (WA_112.out.keep S_113.out)
      have B_127 := Lib.hid (then_ B_111.out S_113.out)
      clear K_99 X_100 M_101 N_102 L1_103 R1_104 L2_105 R2_106 L3_107 R3_108 L4_109 R4_110 WA_112 B_111
      clear S_113
      clear x0 x1 x2 x3
      have WB_128 := Lib.hid (h6)
      clear h6
      obtain rfl : i1 = i2 := by have h1 := WA_126.out.len; have h2 := WB_128.out.len; have h3 := congrArg List.length PJ.out; rw [List.length_map, List.length_map] at h3; omega
      have him := Nat.le_trans WA_126.out.le WA_126.out.max
      unfold maxLen at him
      have x0 := R2_121.out.cell 0 _ rfl
      have x1 := R2_121.out.cell 1 _ rfl
      have x2 := R2_121.out.cell 2 _ rfl
      have x3 := R2_121.out.cell 3 _ rfl
      have y0 := R4_125.out.cell 0 _ rfl
      have y1 := R4_125.out.cell 1 _ rfl
      have y2 := R4_125.out.cell 2 _ rfl
      have y3 := R4_125.out.cell 3 _ rfl
      go_wp2
      go_loopw [23] (fun kv wr => ∃ i r : Nat, i ≤ i1 ∧ kv = .int .i64 i ∧ wr = w8.drewN r) (fun kv _ => i1 - (intOf kv).toNat)
      case atStart => exact ⟨0, 0, Nat.zero_le _, rfl, rfl⟩
      case round =>
        obtain ⟨i, r, hi, rfl, rfl⟩ := hrel
        by_cases hlt : i < i1
        · obtain ⟨a, x, rfl, hbl, hx, hok, hc⟩ := WA_126.out.at_ hlt
          obtain ⟨b, y, rfl, gbl, hy, gok, gc⟩ := WB_128.out.at_ hlt
          obtain ⟨c0, c1, c2, c3, c4, c5⟩ := hc
          obtain ⟨g0, g1, g2, g3, g4, g5⟩ := gc
          obtain ⟨e1, e2, e3, e4⟩ := proj_at PJ.out hx hy
          rw [e1] at c0; rw [e2] at c1; rw [e3] at c5; rw [e4] at c4
          clear hx hy hok gok hbl gbl e1 e2 e3 e4
          go_wp2
          go_quiet (fail)
          go_wp2
          go_roundw
          case rel => exact ⟨i + 1, _, by omega, by go_num, rfl⟩
          case measure => simp [intOf]; omega
        · obtain rfl : i = i1 := by omega
          go_wp2_with fail
          refine (live_any _).mono ?_; rintro e w9 ⟨rfl, hb⟩
          have BB := Lib.hid (then_ B_127.out (then_ (below_drewN (Below.refl _ _) _) hb)); clear hb
          go_wp2
          go_ret
          exact ⟨rfl, BB.out⟩
theorem walk (w : World) (s0 : St) (A0 : Option Addr) (n0 c0 : Nat) (B0 : Option Addr) (m0 d0 : Nat) (A1 : Option Addr) (n1 c1 : Nat) (l1 : List Mu) (A2 : Option Addr) (n2 c2 : Nat) (l2 : List Mu) (k0 : StAt w s0 A0 n0 c0 B0 m0 d0) (k1 : Mus w A1 n1 c1 l1) (k2 : Mus w A2 n2 c2 l2) :
    Calls Try.prog 8 #[s0.agg A0 n0 c0 B0 m0 d0, .slice A1 n1 c1, .slice A2 n2 c2] w fun e w' => e = .returned (.bool true) ∧ Below w.heap.size w w' := by
  cases hf : fewS s0 with
  | false => exact no_few w s0 A0 n0 c0 B0 m0 d0 A1 n1 c1 l1 A2 n2 c2 l2 k0 k1 k2 hf
  | true =>
    cases hm : mayB s0 with
    | false => exact no_may w s0 A0 n0 c0 B0 m0 d0 A1 n1 c1 l1 A2 n2 c2 l2 k0 k1 k2 hf hm
    | true =>
      by_cases hn1 : n1 ≤ 20
      · by_cases hn2 : n2 ≤ 20
        · cases hs : l1.all shMu with
          | false => exact no_short w s0 A0 n0 c0 B0 m0 d0 A1 n1 c1 l1 A2 n2 c2 l2 k0 k1 k2 hf hm hn1 hn2 hs
          | true =>
            cases ht : l2.all shMu with
            | false => exact no_short2 w s0 A0 n0 c0 B0 m0 d0 A1 n1 c1 l1 A2 n2 c2 l2 k0 k1 k2 hf hm hn1 hn2 hs ht
            | true =>
              by_cases e1 : applyE s0 l1 = 0
              · by_cases e2 : applyE (applyS s0 l1) l2 = 0
                · by_cases e3 : applyE s0 l2 = 0
                  · by_cases e4 : applyE (applyS s0 l2) l1 = 0
                    · exact fine w s0 A0 n0 c0 B0 m0 d0 A1 n1 c1 l1 A2 n2 c2 l2 k0 k1 k2 hf hm hn1 hn2 hs ht e1 e2 e3 e4
                    · exact err4 w s0 A0 n0 c0 B0 m0 d0 A1 n1 c1 l1 A2 n2 c2 l2 k0 k1 k2 hf hm hn1 hn2 hs ht e1 e2 e3 e4
                  · exact err3 w s0 A0 n0 c0 B0 m0 d0 A1 n1 c1 l1 A2 n2 c2 l2 k0 k1 k2 hf hm hn1 hn2 hs ht e1 e2 e3
                · exact err2 w s0 A0 n0 c0 B0 m0 d0 A1 n1 c1 l1 A2 n2 c2 l2 k0 k1 k2 hf hm hn1 hn2 hs ht e1 e2
              · exact err1 w s0 A0 n0 c0 B0 m0 d0 A1 n1 c1 l1 A2 n2 c2 l2 k0 k1 k2 hf hm hn1 hn2 hs ht e1
        · exact no_len2 w s0 A0 n0 c0 B0 m0 d0 A1 n1 c1 l1 A2 n2 c2 l2 k0 k1 k2 hf hm hn1 (by omega)
      · exact no_len w s0 A0 n0 c0 B0 m0 d0 A1 n1 c1 l1 A2 n2 c2 l2 k0 k1 k2 hf hm (by omega)

theorem own : ownKnob Try.prog.godebug = none := by kernel_rfl
theorem laidOut : laidOutB Try.prog = true := by kernel_rfl

set_option maxRecDepth 100000 in
theorem lifted (os : Os) (started : os.Started) (H : Type) (enc : TypeId × Value → H) :
    ReturnsInHanded {} Try.checked os 8 .any (Rows.mvccApartSpec.pre6 enc Try.prog Try.f8 Rows.mvccApartRow.domain false) (Rows.mvccApartSpec.post enc Try.prog Try.f8 false true false false) := by
  refine returnsInHanded_of_change (C := Try.checked) own started (by kernel_rfl) Try.func8
    (ChangeSpec.witness6 (enc := enc) (C := Try.checked) false ⟨#[], #[.agg #[.int .i64 0, .int .i64 0, .slice none 0 0, .slice none 0 0], .slice none 0 0, .slice none 0 0], []⟩ 8 (by kernel_rfl) (by kernel_rfl) (by kernel_rfl) (by kernel_rfl)) ?_
  intro W base args ds gs before hval0 hW hcnd _
  have hval : ∀ (j : Nat) t v, Try.f8.params[j]? = some t → args[j]? = some v → Value.okWide Try.prog W .any base t v := hval0
  have hW' := hW
  obtain ⟨p, q, hA0, hV, rfl, hfz, hnd⟩ := hW
  have hA : DataW.TrodAll enc Try.prog W 0 (fun _ => true) true Try.f8.params.toList args.toList ds p := hA0
  rw [Try.params8] at hA hval
  obtain ⟨v0, vs0, d0, ds0, p0, q0, hargs, rfl, rfl, h0, r0⟩ := trodAll_cons hA
  obtain ⟨v1, vs1, d1, ds1, p1, q1, rfl, rfl, rfl, h1, r1⟩ := trodAll_cons r0
  obtain ⟨v2, vs2, d2, ds2, p2, q2, rfl, rfl, rfl, h2, r2⟩ := trodAll_cons r1
  obtain ⟨rfl, rfl, rfl⟩ := trodAll_nil r2
  obtain rfl : args = #[v0, v1, v2] := by cases args; simp_all
  obtain ⟨rfl, rfl⟩ := trodVars_none hV
  obtain ⟨s0, A0, n0, c0, B0, m0, d0, rfl, k0⟩ := open_st (hval 0 25 v0 rfl rfl) h0
  obtain ⟨A1, n1, c1, l1, rfl, k1⟩ := open_mus (hval 1 34 v1 rfl rfl) h1
  obtain ⟨A2, n2, c2, l2, rfl, k2⟩ := open_mus (hval 2 34 v2 rfl rfl) h2
  clear hA0 hval0
  refine (walk W s0 A0 n0 c0 B0 m0 d0 A1 n1 c1 l1 A2 n2 c2 l2 k0 k1 k2).mono fun e W' ⟨he, bel⟩ => ?_
  subst he
  exact ⟨_, rfl, _, _, _, [], _, [], hW', trodAll_mk1 (shut_bool Try.underlying4 _), (trodAll_cons_mk (Below.trod laidOut (by kernel_rfl) (of_decide_eq_true (by kernel_rfl)) h0 bel (fun x hx => hW'.lt x (by simp [hx]))) (trodAll_cons_mk (Below.trod laidOut (by kernel_rfl) (of_decide_eq_true (by kernel_rfl)) h1 bel (fun x hx => hW'.lt x (by simp [hx]))) (trodAll_cons_mk (Below.trod laidOut (by kernel_rfl) (of_decide_eq_true (by kernel_rfl)) h2 bel (fun x hx => hW'.lt x (by simp [hx]))) trodAll_mk0))), rfl, bel.frame _, fun h => by cases h⟩

theorem over : Rows.mvccApartRow.holds Try.pinned (OpenSpec.ofChange Rows.mvccApartSpec) :=
  OpenClaim.holds_of_wide 8 Try.f8 rfl rfl rfl rfl rfl rfl rfl ⟨rfl, rfl, rfl, rfl, rfl⟩ rfl rfl rfl rfl rfl (by kernel_rfl) Try.func8 (by kernel_rfl)
    (of_decide_eq_true (by kernel_rfl)) (by unfold Func.isWrapper; first | (rw [if_pos (by decide +kernel)]; kernel_rfl) | (rw [if_neg (by decide +kernel)]; exact ⟨rfl, rfl⟩))
    (fun os started H enc _ => lifted os started H enc)

theorem proved : Rows.MvccApartSaid := over
#print axioms proved
end Go.Proofs.Ytlffhehpeeiogaa.mvccApart
