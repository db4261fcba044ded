/- For all keys and every two Ids the law LeaseDrops answers true: the keys that a lease holds, and those that it does not, are all keys, each once. No condition. -/
import Derived.Test.YtelepkofhdjagabLsOpen
import Derived.Test.YtelepkofhdjagabLsLive
import Derived.Test.YtelepkofhdjagabLsMayR
import Derived.Test.YtelepkofhdjagabLsGrantR
import Derived.Test.YtelepkofhdjagabLsKeepR
import Derived.Test.YtelepkofhdjagabLsStopR
import Derived.Test.YtelepkofhdjagabRows
namespace Go.Proofs.Ytelepkofhdjagab.leaseDrops
open Go.ChangeShapes Go.WideShapes Go.ChangeAt Go.RowKit Go.Proofs.Ytelepkofhdjagab.P
open Go.ChangeMaps (open_string shut_string)
set_option linter.unusedVariables false
set_option linter.unusedSimpArgs false
set_option maxHeartbeats 4000000
set_option maxRecDepth 100000

/-- A fact that the walk's own steps do not see. -/
structure Said (p : Prop) : Prop where
  out : p
/-- How many things a lease had among the first j. -/
def cnt (l : List KV) (id : Int) (j : Nat) : Nat := (dropsL (l.take j) id).length
def cnt2 (l : List KV) (a b : Int) (j : Nat) : Nat := if b = a then 0 else cnt l b j
theorem cnt_hit {l : List KV} {id : Int} {j : Nat} {x : KV} (hx : l[j]? = some x) (h0 : id ≠ 0) (h : x.lea = id) : cnt l id (j + 1) = cnt l id j + 1 := by
  unfold cnt; rw [drops_more h0 hx, if_pos h]; simp
theorem cnt_miss {l : List KV} {id : Int} {j : Nat} {x : KV} (hx : l[j]? = some x) (h : id = 0 ∨ x.lea ≠ id) : cnt l id (j + 1) = cnt l id j := by
  unfold cnt
  by_cases h0 : id = 0
  · subst h0; rw [drops_zero, drops_zero]
  · rw [drops_more h0 hx, if_neg (by rcases h with h | h; exact absurd h h0; exact h)]
theorem cnt_le {l : List KV} {id : Int} (j : Nat) : cnt l id j ≤ j := by
  unfold cnt dropsL
  split
  · simp
  · rw [List.length_map]; exact Nat.le_trans (List.length_filter_le _ _) (by rw [List.length_take]; omega)
theorem cnt_at {l : List KV} {id : Int} {j : Nat} {x : KV} (hx : l[j]? = some x) (h0 : id ≠ 0) (h : x.lea = id) : (dropsL l id)[cnt l id j]? = some (dropOf x) := by
  have e : dropsL l id = dropsL (l.take (j + 1)) id ++ dropsL (l.drop (j + 1)) id := by
    unfold dropsL
    rw [if_neg h0, if_neg h0, if_neg h0, ← List.map_append, ← List.filter_append, List.take_append_drop]
  rw [e, drops_more h0 hx, if_pos h, List.getElem?_append_left (by simp [cnt]), List.getElem?_append_right (by simp [cnt])]
  simp [cnt]
theorem cnt_zero (l : List KV) (id : Int) : cnt l id 0 = 0 := by simp [cnt, dropsL]
theorem cnt2_zero (l : List KV) (a b : Int) : cnt2 l a b 0 = 0 := by unfold cnt2; split; rfl; exact cnt_zero _ _
theorem cnt_all {l : List KV} {id : Int} : cnt l id l.length = (dropsL l id).length := by unfold cnt; rw [List.take_length]
theorem walk (w : World) (A0 : Option Addr) (n0 c0 : Nat) (l0 : List KV) (a1 a2 : Int) (k0 : KVs w A0 n0 c0 l0) (z1 : (Lit.int .i64 a1).wf = true) (z2 : (Lit.int .i64 a2).wf = true) :
    Calls Try.prog 8 #[.slice A0 n0 c0, .int .i64 a1, .int .i64 a2] w fun e w' => e = .returned (.bool true) ∧ Below w.heap.size w w' := by
  have hn0 := k0.len
  have K_0 := Lib.hid k0
  clear k0
  cases hf : fewB 40 l0 with
  | false =>
    have HF := Lib.hid hf; clear hf
    go_enter Try.func8, Try.ntmps8
    go_wp2_with fail
    refine (few_any A0 n0 c0 l0 40 _ K_0.out (by omega)).mono ?_; rintro e w' ⟨rfl, rfl⟩
    rw [HF.out]
    go_wp2_with fail
    refine (live_any _).mono ?_; rintro e w1 ⟨rfl, hb⟩
    have S_1 := Lib.hid hb; clear hb
    have K_2 := Lib.hid (K_0.out.keep S_1.out)
    have B_3 := Lib.hid (S_1.out)
    clear K_0
    clear S_1
    go_wp2
    go_ret
    exact ⟨rfl, B_3.out⟩
  | true =>
    have HF := Lib.hid hf
    have hn40 : l0.length ≤ 40 := by simp only [fewB, Bool.and_eq_true, decide_eq_true_eq] at hf; omega
    clear hf
    go_enter Try.func8, Try.ntmps8
    go_wp2_with fail
    refine (few_any A0 n0 c0 l0 40 _ K_0.out (by omega)).mono ?_; rintro e w' ⟨rfl, rfl⟩
    rw [HF.out]
    go_wp2_with fail
    refine (drops_any A0 n0 c0 l0 a1 _ K_0.out (by omega)).mono ?_; rintro e w1 ⟨M1, m1, d1, rfl, h1, hb⟩
    have S_1 := Lib.hid hb; clear hb
    have K_2 := Lib.hid (K_0.out.keep S_1.out)
    have B_3 := Lib.hid (S_1.out)
    clear K_0
    clear S_1
    have D1_4 := Lib.hid (h1)
    clear h1
    go_wp2_with fail
    refine (drops_any A0 n0 c0 l0 a2 _ K_2.out (by omega)).mono ?_; rintro e w2 ⟨M2, m2, d2, rfl, h2, hb⟩
    have S_5 := Lib.hid hb; clear hb
    have K_6 := Lib.hid (K_2.out.keep S_5.out)
    have D1_7 := Lib.hid (D1_4.out.below S_5.out)
    have B_8 := Lib.hid (then_ B_3.out S_5.out)
    clear K_2 D1_4 B_3
    clear S_5
    have D2_9 := Lib.hid (h2)
    clear h2
    have hm1 : m1 = cnt l0 a1 n0 := by rw [← hn0, cnt_all]; exact D1_7.out.len.symm
    have hm2 : m2 = cnt l0 a2 n0 := by rw [← hn0, cnt_all]; exact D2_9.out.len.symm
    have HM1 := Lib.hid hm1
    have HM2 := Lib.hid hm2
    have hm1b : m1 ≤ 40 := by have := cnt_le (l := l0) (id := a1) n0; omega
    have hm2b : m2 ≤ 40 := by have := cnt_le (l := l0) (id := a2) n0; omega
    clear hm1 hm2
    go_wp2
    go_loopw [9, 10, 11] (fun nv ov iv wr => ∃ j : Nat, j ≤ n0 ∧ nv = .int .i64 (cnt l0 a1 j) ∧ ov = .int .i64 (cnt2 l0 a1 a2 j) ∧ iv = .int .i64 j ∧ Below w2.heap.size w2 wr) (fun _ _ iv _ => n0 - (intOf iv).toNat)
    case atStart => exact ⟨0, Nat.zero_le _, by rw [cnt_zero]; rfl, by rw [cnt2_zero]; rfl, rfl, Below.refl _ _⟩
    case round =>
      obtain ⟨j, hj, rfl, rfl, rfl, hbel⟩ := hrel
      have HB := Lib.hid hbel
      clear hbel
      by_cases hlt : j < n0
      · obtain ⟨a, x, rfl, hbl, hx, hok, hc⟩ := (K_6.out.keep HB.out).at_ hlt
        obtain ⟨x0, _, _, _, _, x5⟩ := hc
        have HX := Lib.hid hx
        have hne := neq_mu
        clear hbl hx hok
        have hc1 : Said (a1 = 0) ∨ (Said (a1 ≠ 0) ∧ Said (x.lea = a1)) ∨ (Said (a1 ≠ 0) ∧ Said (x.lea ≠ a1)) := by
          by_cases h1 : a1 = 0
          · exact .inl ⟨h1⟩
          · by_cases h2 : x.lea = a1
            · exact .inr (.inl ⟨⟨h1⟩, ⟨h2⟩⟩)
            · exact .inr (.inr ⟨⟨h1⟩, ⟨h2⟩⟩)
        have hc2 : Said (a2 = 0) ∨ (Said (a2 ≠ 0) ∧ Said (a2 = a1)) ∨ (Said (a2 ≠ 0) ∧ Said (a2 ≠ a1) ∧ Said (x.lea = a2)) ∨ (Said (a2 ≠ 0) ∧ Said (a2 ≠ a1) ∧ Said (x.lea ≠ a2)) := by
          by_cases h1 : a2 = 0
          · exact .inl ⟨h1⟩
          · by_cases h2 : a2 = a1
            · exact .inr (.inl ⟨⟨h1⟩, ⟨h2⟩⟩)
            · by_cases h3 : x.lea = a2
              · exact .inr (.inr (.inl ⟨⟨h1⟩, ⟨h2⟩, ⟨h3⟩⟩))
              · exact .inr (.inr (.inr ⟨⟨h1⟩, ⟨h2⟩, ⟨h3⟩⟩))
        rcases hc1 with h1 | ⟨h1, h2⟩ | ⟨h1, h2⟩
        · rcases hc2 with h3 | ⟨h3, h4⟩ | ⟨h3, h4, h5⟩ | ⟨h3, h4, h5⟩
          · have f1 : (a1 != 0) = false := by simp [h1.out]
            have N1 := Lib.hid (cnt_miss HX.out (.inl h1.out))
            have g1 : (a2 != 0) = false := by simp [h3.out]
            have N2 : Hid (cnt2 l0 a1 a2 (j + 1) = cnt2 l0 a1 a2 j) := Lib.hid (by unfold cnt2; rw [cnt_miss HX.out (.inl h3.out)])
            have hcl : cnt l0 a1 j ≤ 40 := by have := cnt_le (l := l0) (id := a1) j; omega
            have hcl2 : cnt2 l0 a1 a2 j ≤ 40 := by have := cnt_le (l := l0) (id := a2) j; unfold cnt2; split <;> omega
            go_wp2
            go_roundw
            case rel => exact ⟨j + 1, by omega, by rw [N1.out], by rw [N2.out], by go_num, HB.out⟩
            case measure => simp [intOf]; omega
          · have := h1.out; have := h3.out; have := h4.out; exfalso; omega
          · have f1 : (a1 != 0) = false := by simp [h1.out]
            have N1 := Lib.hid (cnt_miss HX.out (.inl h1.out))
            have g1 : (a2 != 0) = true := by simp [h3.out]
            have g2 : (a2 != a1) = true := by simp [h4.out]
            have g3 : (x.lea == a2) = true := by simp [h5.out]
            have N2 : Hid (cnt2 l0 a1 a2 (j + 1) = cnt2 l0 a1 a2 j + 1) := Lib.hid (by unfold cnt2; rw [if_neg h4.out, if_neg h4.out, cnt_hit HX.out h3.out h5.out])
            have ec : cnt2 l0 a1 a2 j = cnt l0 a2 j := if_neg h4.out
            have EC := Lib.hid ec
            obtain ⟨p, y, rfl, _, hy, hp⟩ := RowsOf.at_ (RowsOf.below D2_9.out HB.out) (k := cnt2 l0 a1 a2 j) (by rw [ec]; have e1 := cnt_at HX.out h3.out h5.out; have e2 := (List.getElem?_eq_some_iff.1 e1).1; rw [← D2_9.out.len]; exact e2)
            obtain rfl : dropOf x = y := Option.some.inj ((cnt_at HX.out h3.out h5.out).symm.trans (by rw [← ec]; exact hy))
            have p0 : wr.cell? (p.add (cnt2 l0 a1 a2 j * 4)) = some (.bool true) := hp 0 _ rfl
            have p1 : wr.cell? ⟨(p.add (cnt2 l0 a1 a2 j * 4)).block, (p.add (cnt2 l0 a1 a2 j * 4)).off + 1, none⟩ = some (.string x.key) := hp 1 _ rfl
            have hlt1 : cnt2 l0 a1 a2 j < m2 := by rw [ec]; have e1 := cnt_at HX.out h3.out h5.out; have e2 := (List.getElem?_eq_some_iff.1 e1).1; rw [← D2_9.out.len]; exact e2
            have hd1 : decide ((m2 : Int) ≤ (cnt2 l0 a1 a2 j : Int)) = false := decide_eq_false (by omega)
            have hlt1i : (cnt2 l0 a1 a2 j : Int) < (m2 : Int) := by omega
            have hkk : (x.key.toList != x.key.toList) = false := by simp
            clear hy hp ec
            have hcl : cnt l0 a1 j ≤ 40 := by have := cnt_le (l := l0) (id := a1) j; omega
            have hcl2 : cnt2 l0 a1 a2 j ≤ 40 := by have := cnt_le (l := l0) (id := a2) j; unfold cnt2; split <;> omega
            go_wp2
            go_quiet (fail)
            go_wp2
            go_roundw
            case rel => first | exact ⟨j + 1, by omega, by rw [N1.out], by rw [N2.out]; go_num, by go_num, below_drewN HB.out _⟩ | refine ⟨_, _, _, _, _, _, _, _, _, _, _, _, _, _, _, _, _, _, _, _, _, _, _, _, _, _, _, _, _, _, _, _, _, _, _, _, _, _, _, _, _, _, _, _, _, _, _, _, _, _, _, _, _, _, _, _, _, _, _, _, _, _, _, _, _, _, _, _, _, _, _, _, _, _, _, _, _, _, _, _, _, _, _, ⟨j + 1, by omega, by rw [N1.out], by rw [N2.out]; go_num, by go_num, below_drewN HB.out _⟩, rfl⟩
            case measure => simp [intOf]; omega
          · have f1 : (a1 != 0) = false := by simp [h1.out]
            have N1 := Lib.hid (cnt_miss HX.out (.inl h1.out))
            have g1 : (a2 != 0) = true := by simp [h3.out]
            have g2 : (a2 != a1) = true := by simp [h4.out]
            have g3 : (x.lea == a2) = false := by simp [h5.out]
            have N2 : Hid (cnt2 l0 a1 a2 (j + 1) = cnt2 l0 a1 a2 j) := Lib.hid (by unfold cnt2; rw [if_neg h4.out, if_neg h4.out, cnt_miss (id := a2) HX.out (.inr h5.out)])
            have hcl : cnt l0 a1 j ≤ 40 := by have := cnt_le (l := l0) (id := a1) j; omega
            have hcl2 : cnt2 l0 a1 a2 j ≤ 40 := by have := cnt_le (l := l0) (id := a2) j; unfold cnt2; split <;> omega
            go_wp2
            go_roundw
            case rel => exact ⟨j + 1, by omega, by rw [N1.out], by rw [N2.out], by go_num, HB.out⟩
            case measure => simp [intOf]; omega
        · rcases hc2 with h3 | ⟨h3, h4⟩ | ⟨h3, h4, h5⟩ | ⟨h3, h4, h5⟩
          · have f1 : (a1 != 0) = true := by simp [h1.out]
            have f2 : (x.lea == a1) = true := by simp [h2.out]
            have N1 := Lib.hid (cnt_hit HX.out h1.out h2.out)
            have g1 : (a2 != 0) = false := by simp [h3.out]
            have N2 : Hid (cnt2 l0 a1 a2 (j + 1) = cnt2 l0 a1 a2 j) := Lib.hid (by unfold cnt2; rw [cnt_miss HX.out (.inl h3.out)])
            obtain ⟨p, y, rfl, _, hy, hp⟩ := RowsOf.at_ (RowsOf.below D1_7.out HB.out) (k := cnt l0 a1 j) (by have e1 := cnt_at HX.out h1.out h2.out; have e2 := (List.getElem?_eq_some_iff.1 e1).1; rw [← D1_7.out.len]; exact e2)
            obtain rfl : dropOf x = y := Option.some.inj ((cnt_at HX.out h1.out h2.out).symm.trans hy)
            have p0 : wr.cell? (p.add (cnt l0 a1 j * 4)) = some (.bool true) := hp 0 _ rfl
            have p1 : wr.cell? ⟨(p.add (cnt l0 a1 j * 4)).block, (p.add (cnt l0 a1 j * 4)).off + 1, none⟩ = some (.string x.key) := hp 1 _ rfl
            have p2 : wr.cell? ⟨(p.add (cnt l0 a1 j * 4)).block, (p.add (cnt l0 a1 j * 4)).off + 2, none⟩ = some (.string ⟨#[]⟩) := hp 2 _ rfl
            have p3 : wr.cell? ⟨(p.add (cnt l0 a1 j * 4)).block, (p.add (cnt l0 a1 j * 4)).off + 3, none⟩ = some (.int .i64 0) := hp 3 _ rfl
            have hlt1 : cnt l0 a1 j < m1 := by have e1 := cnt_at HX.out h1.out h2.out; have e2 := (List.getElem?_eq_some_iff.1 e1).1; rw [← D1_7.out.len]; exact e2
            have hd1 : decide ((m1 : Int) ≤ (cnt l0 a1 j : Int)) = false := decide_eq_false (by omega)
            have hlt1i : (cnt l0 a1 j : Int) < (m1 : Int) := by omega
            clear hy hp
            have hcl : cnt l0 a1 j ≤ 40 := by have := cnt_le (l := l0) (id := a1) j; omega
            have hcl2 : cnt2 l0 a1 a2 j ≤ 40 := by have := cnt_le (l := l0) (id := a2) j; unfold cnt2; split <;> omega
            go_wp2
            go_quiet (fail)
            go_wp2
            go_roundw
            case rel => first | exact ⟨j + 1, by omega, by rw [N1.out]; go_num, by rw [N2.out], by go_num, below_drewN HB.out _⟩ | refine ⟨_, _, _, _, _, _, _, _, _, _, _, _, _, _, _, _, _, _, _, _, _, _, _, _, _, _, _, _, _, _, _, _, _, _, _, _, _, _, _, _, _, _, _, _, _, _, _, _, _, _, _, _, _, _, _, _, _, _, _, _, _, _, _, _, _, _, _, _, _, _, _, _, _, _, _, _, _, _, _, _, _, _, _, ⟨j + 1, by omega, by rw [N1.out]; go_num, by rw [N2.out], by go_num, below_drewN HB.out _⟩, rfl⟩
            case measure => simp [intOf]; omega
          · have f1 : (a1 != 0) = true := by simp [h1.out]
            have f2 : (x.lea == a1) = true := by simp [h2.out]
            have N1 := Lib.hid (cnt_hit HX.out h1.out h2.out)
            have g1 : (a2 != 0) = true := by simp [h3.out]
            have g2 : (a2 != a1) = false := by simp [h4.out]
            have N2 : Hid (cnt2 l0 a1 a2 (j + 1) = cnt2 l0 a1 a2 j) := Lib.hid (by unfold cnt2; rw [if_pos h4.out, if_pos h4.out])
            obtain ⟨p, y, rfl, _, hy, hp⟩ := RowsOf.at_ (RowsOf.below D1_7.out HB.out) (k := cnt l0 a1 j) (by have e1 := cnt_at HX.out h1.out h2.out; have e2 := (List.getElem?_eq_some_iff.1 e1).1; rw [← D1_7.out.len]; exact e2)
            obtain rfl : dropOf x = y := Option.some.inj ((cnt_at HX.out h1.out h2.out).symm.trans hy)
            have p0 : wr.cell? (p.add (cnt l0 a1 j * 4)) = some (.bool true) := hp 0 _ rfl
            have p1 : wr.cell? ⟨(p.add (cnt l0 a1 j * 4)).block, (p.add (cnt l0 a1 j * 4)).off + 1, none⟩ = some (.string x.key) := hp 1 _ rfl
            have p2 : wr.cell? ⟨(p.add (cnt l0 a1 j * 4)).block, (p.add (cnt l0 a1 j * 4)).off + 2, none⟩ = some (.string ⟨#[]⟩) := hp 2 _ rfl
            have p3 : wr.cell? ⟨(p.add (cnt l0 a1 j * 4)).block, (p.add (cnt l0 a1 j * 4)).off + 3, none⟩ = some (.int .i64 0) := hp 3 _ rfl
            have hlt1 : cnt l0 a1 j < m1 := by have e1 := cnt_at HX.out h1.out h2.out; have e2 := (List.getElem?_eq_some_iff.1 e1).1; rw [← D1_7.out.len]; exact e2
            have hd1 : decide ((m1 : Int) ≤ (cnt l0 a1 j : Int)) = false := decide_eq_false (by omega)
            have hlt1i : (cnt l0 a1 j : Int) < (m1 : Int) := by omega
            clear hy hp
            have hcl : cnt l0 a1 j ≤ 40 := by have := cnt_le (l := l0) (id := a1) j; omega
            have hcl2 : cnt2 l0 a1 a2 j ≤ 40 := by have := cnt_le (l := l0) (id := a2) j; unfold cnt2; split <;> omega
            go_wp2
            go_quiet (fail)
            go_wp2
            go_roundw
            case rel => first | exact ⟨j + 1, by omega, by rw [N1.out]; go_num, by rw [N2.out], by go_num, below_drewN HB.out _⟩ | refine ⟨_, _, _, _, _, _, _, _, _, _, _, _, _, _, _, _, _, _, _, _, _, _, _, _, _, _, _, _, _, _, _, _, _, _, _, _, _, _, _, _, _, _, _, _, _, _, _, _, _, _, _, _, _, _, _, _, _, _, _, _, _, _, _, _, _, _, _, _, _, _, _, _, _, _, _, _, _, _, _, _, _, _, _, ⟨j + 1, by omega, by rw [N1.out]; go_num, by rw [N2.out], by go_num, below_drewN HB.out _⟩, rfl⟩
            case measure => simp [intOf]; omega
          · have := h1.out; have := h3.out; have := h5; have := h2.out; have := h4.out; have := h5.out; exfalso; omega
          · have f1 : (a1 != 0) = true := by simp [h1.out]
            have f2 : (x.lea == a1) = true := by simp [h2.out]
            have N1 := Lib.hid (cnt_hit HX.out h1.out h2.out)
            have g1 : (a2 != 0) = true := by simp [h3.out]
            have g2 : (a2 != a1) = true := by simp [h4.out]
            have g3 : (x.lea == a2) = false := by simp [h5.out]
            have N2 : Hid (cnt2 l0 a1 a2 (j + 1) = cnt2 l0 a1 a2 j) := Lib.hid (by unfold cnt2; rw [if_neg h4.out, if_neg h4.out, cnt_miss (id := a2) HX.out (.inr h5.out)])
            obtain ⟨p, y, rfl, _, hy, hp⟩ := RowsOf.at_ (RowsOf.below D1_7.out HB.out) (k := cnt l0 a1 j) (by have e1 := cnt_at HX.out h1.out h2.out; have e2 := (List.getElem?_eq_some_iff.1 e1).1; rw [← D1_7.out.len]; exact e2)
            obtain rfl : dropOf x = y := Option.some.inj ((cnt_at HX.out h1.out h2.out).symm.trans hy)
            have p0 : wr.cell? (p.add (cnt l0 a1 j * 4)) = some (.bool true) := hp 0 _ rfl
            have p1 : wr.cell? ⟨(p.add (cnt l0 a1 j * 4)).block, (p.add (cnt l0 a1 j * 4)).off + 1, none⟩ = some (.string x.key) := hp 1 _ rfl
            have p2 : wr.cell? ⟨(p.add (cnt l0 a1 j * 4)).block, (p.add (cnt l0 a1 j * 4)).off + 2, none⟩ = some (.string ⟨#[]⟩) := hp 2 _ rfl
            have p3 : wr.cell? ⟨(p.add (cnt l0 a1 j * 4)).block, (p.add (cnt l0 a1 j * 4)).off + 3, none⟩ = some (.int .i64 0) := hp 3 _ rfl
            have hlt1 : cnt l0 a1 j < m1 := by have e1 := cnt_at HX.out h1.out h2.out; have e2 := (List.getElem?_eq_some_iff.1 e1).1; rw [← D1_7.out.len]; exact e2
            have hd1 : decide ((m1 : Int) ≤ (cnt l0 a1 j : Int)) = false := decide_eq_false (by omega)
            have hlt1i : (cnt l0 a1 j : Int) < (m1 : Int) := by omega
            clear hy hp
            have hcl : cnt l0 a1 j ≤ 40 := by have := cnt_le (l := l0) (id := a1) j; omega
            have hcl2 : cnt2 l0 a1 a2 j ≤ 40 := by have := cnt_le (l := l0) (id := a2) j; unfold cnt2; split <;> omega
            go_wp2
            go_quiet (fail)
            go_wp2
            go_roundw
            case rel => first | exact ⟨j + 1, by omega, by rw [N1.out]; go_num, by rw [N2.out], by go_num, below_drewN HB.out _⟩ | refine ⟨_, _, _, _, _, _, _, _, _, _, _, _, _, _, _, _, _, _, _, _, _, _, _, _, _, _, _, _, _, _, _, _, _, _, _, _, _, _, _, _, _, _, _, _, _, _, _, _, _, _, _, _, _, _, _, _, _, _, _, _, _, _, _, _, _, _, _, _, _, _, _, _, _, _, _, _, _, _, _, _, _, _, _, ⟨j + 1, by omega, by rw [N1.out]; go_num, by rw [N2.out], by go_num, below_drewN HB.out _⟩, rfl⟩
            case measure => simp [intOf]; omega
        · rcases hc2 with h3 | ⟨h3, h4⟩ | ⟨h3, h4, h5⟩ | ⟨h3, h4, h5⟩
          · have f1 : (a1 != 0) = true := by simp [h1.out]
            have f2 : (x.lea == a1) = false := by simp [h2.out]
            have N1 := Lib.hid (cnt_miss (id := a1) HX.out (.inr h2.out))
            have g1 : (a2 != 0) = false := by simp [h3.out]
            have N2 : Hid (cnt2 l0 a1 a2 (j + 1) = cnt2 l0 a1 a2 j) := Lib.hid (by unfold cnt2; rw [cnt_miss HX.out (.inl h3.out)])
            have hcl : cnt l0 a1 j ≤ 40 := by have := cnt_le (l := l0) (id := a1) j; omega
            have hcl2 : cnt2 l0 a1 a2 j ≤ 40 := by have := cnt_le (l := l0) (id := a2) j; unfold cnt2; split <;> omega
            go_wp2
            go_roundw
            case rel => exact ⟨j + 1, by omega, by rw [N1.out], by rw [N2.out], by go_num, HB.out⟩
            case measure => simp [intOf]; omega
          · have f1 : (a1 != 0) = true := by simp [h1.out]
            have f2 : (x.lea == a1) = false := by simp [h2.out]
            have N1 := Lib.hid (cnt_miss (id := a1) HX.out (.inr h2.out))
            have g1 : (a2 != 0) = true := by simp [h3.out]
            have g2 : (a2 != a1) = false := by simp [h4.out]
            have N2 : Hid (cnt2 l0 a1 a2 (j + 1) = cnt2 l0 a1 a2 j) := Lib.hid (by unfold cnt2; rw [if_pos h4.out, if_pos h4.out])
            have hcl : cnt l0 a1 j ≤ 40 := by have := cnt_le (l := l0) (id := a1) j; omega
            have hcl2 : cnt2 l0 a1 a2 j ≤ 40 := by have := cnt_le (l := l0) (id := a2) j; unfold cnt2; split <;> omega
            go_wp2
            go_roundw
            case rel => exact ⟨j + 1, by omega, by rw [N1.out], by rw [N2.out], by go_num, HB.out⟩
            case measure => simp [intOf]; omega
          · have f1 : (a1 != 0) = true := by simp [h1.out]
            have f2 : (x.lea == a1) = false := by simp [h2.out]
            have N1 := Lib.hid (cnt_miss (id := a1) HX.out (.inr h2.out))
            have g1 : (a2 != 0) = true := by simp [h3.out]
            have g2 : (a2 != a1) = true := by simp [h4.out]
            have g3 : (x.lea == a2) = true := by simp [h5.out]
            have N2 : Hid (cnt2 l0 a1 a2 (j + 1) = cnt2 l0 a1 a2 j + 1) := Lib.hid (by unfold cnt2; rw [if_neg h4.out, if_neg h4.out, cnt_hit HX.out h3.out h5.out])
            have ec : cnt2 l0 a1 a2 j = cnt l0 a2 j := if_neg h4.out
            have EC := Lib.hid ec
            obtain ⟨p, y, rfl, _, hy, hp⟩ := RowsOf.at_ (RowsOf.below D2_9.out HB.out) (k := cnt2 l0 a1 a2 j) (by rw [ec]; have e1 := cnt_at HX.out h3.out h5.out; have e2 := (List.getElem?_eq_some_iff.1 e1).1; rw [← D2_9.out.len]; exact e2)
            obtain rfl : dropOf x = y := Option.some.inj ((cnt_at HX.out h3.out h5.out).symm.trans (by rw [← ec]; exact hy))
            have p0 : wr.cell? (p.add (cnt2 l0 a1 a2 j * 4)) = some (.bool true) := hp 0 _ rfl
            have p1 : wr.cell? ⟨(p.add (cnt2 l0 a1 a2 j * 4)).block, (p.add (cnt2 l0 a1 a2 j * 4)).off + 1, none⟩ = some (.string x.key) := hp 1 _ rfl
            have hlt1 : cnt2 l0 a1 a2 j < m2 := by rw [ec]; have e1 := cnt_at HX.out h3.out h5.out; have e2 := (List.getElem?_eq_some_iff.1 e1).1; rw [← D2_9.out.len]; exact e2
            have hd1 : decide ((m2 : Int) ≤ (cnt2 l0 a1 a2 j : Int)) = false := decide_eq_false (by omega)
            have hlt1i : (cnt2 l0 a1 a2 j : Int) < (m2 : Int) := by omega
            have hkk : (x.key.toList != x.key.toList) = false := by simp
            clear hy hp ec
            have hcl : cnt l0 a1 j ≤ 40 := by have := cnt_le (l := l0) (id := a1) j; omega
            have hcl2 : cnt2 l0 a1 a2 j ≤ 40 := by have := cnt_le (l := l0) (id := a2) j; unfold cnt2; split <;> omega
            go_wp2
            go_quiet (fail)
            go_wp2
            go_roundw
            case rel => first | exact ⟨j + 1, by omega, by rw [N1.out], by rw [N2.out]; go_num, by go_num, below_drewN HB.out _⟩ | refine ⟨_, _, _, _, _, _, _, _, _, _, _, _, _, _, _, _, _, _, _, _, _, _, _, _, _, _, _, _, _, _, _, _, _, _, _, _, _, _, _, _, _, _, _, _, _, _, _, _, _, _, _, _, _, _, _, _, _, _, _, _, _, _, _, _, _, _, _, _, _, _, _, _, _, _, _, _, _, _, _, _, _, _, _, ⟨j + 1, by omega, by rw [N1.out], by rw [N2.out]; go_num, by go_num, below_drewN HB.out _⟩, rfl⟩
            case measure => simp [intOf]; omega
          · have f1 : (a1 != 0) = true := by simp [h1.out]
            have f2 : (x.lea == a1) = false := by simp [h2.out]
            have N1 := Lib.hid (cnt_miss (id := a1) HX.out (.inr h2.out))
            have g1 : (a2 != 0) = true := by simp [h3.out]
            have g2 : (a2 != a1) = true := by simp [h4.out]
            have g3 : (x.lea == a2) = false := by simp [h5.out]
            have N2 : Hid (cnt2 l0 a1 a2 (j + 1) = cnt2 l0 a1 a2 j) := Lib.hid (by unfold cnt2; rw [if_neg h4.out, if_neg h4.out, cnt_miss (id := a2) HX.out (.inr h5.out)])
            have hcl : cnt l0 a1 j ≤ 40 := by have := cnt_le (l := l0) (id := a1) j; omega
            have hcl2 : cnt2 l0 a1 a2 j ≤ 40 := by have := cnt_le (l := l0) (id := a2) j; unfold cnt2; split <;> omega
            go_wp2
            go_roundw
            case rel => exact ⟨j + 1, by omega, by rw [N1.out], by rw [N2.out], by go_num, HB.out⟩
            case measure => simp [intOf]; omega
      · obtain rfl : j = n0 := by omega
        have q1 : ((cnt l0 a1 j : Int) == (m1 : Int)) = true := by rw [HM1.out]; simp
        rcases Classical.em (a2 = a1) with hs | hs
        · have q3 : (a1 == a2) = true := by simp [hs]
          clear hs
          by_cases hz : (cnt2 l0 a1 a2 j : Int) = (m2 : Int)
          · have q2 : ((cnt2 l0 a1 a2 j : Int) == (m2 : Int)) = true := by simp [hz]
            clear hz
            go_wp2_with fail
            refine (live_any _).mono ?_; rintro e w5 ⟨rfl, hb⟩
            have HB5 := Lib.hid (then_ (B_8.out.trans (HB.out.mono B_8.out.size)) hb); clear hb
            go_wp2
            go_ret
            exact ⟨rfl, HB5.out⟩
          · have q2 : ((cnt2 l0 a1 a2 j : Int) == (m2 : Int)) = false := by simp [hz]
            clear hz
            go_wp2_with fail
            refine (live_any _).mono ?_; rintro e w5 ⟨rfl, hb⟩
            have HB5 := Lib.hid (then_ (B_8.out.trans (HB.out.mono B_8.out.size)) hb); clear hb
            go_wp2
            go_ret
            exact ⟨rfl, HB5.out⟩
        · have q2 : ((cnt2 l0 a1 a2 j : Int) == (m2 : Int)) = true := by rw [HM2.out]; unfold cnt2; rw [if_neg hs]; simp
          go_wp2_with fail
          refine (live_any _).mono ?_; rintro e w5 ⟨rfl, hb⟩
          have HB5 := Lib.hid (then_ (B_8.out.trans (HB.out.mono B_8.out.size)) hb); clear hb
          go_wp2
          go_ret
          exact ⟨rfl, HB5.out⟩

theorem own : ownKnob Try.prog.godebug = none := by kernel_rfl
theorem laidOut : laidOutB Try.prog = true := by kernel_rfl

set_option maxRecDepth 100000 in
theorem lifted (os : Os) (started : os.Started) (H : Type) (enc : TypeId × Value → H) :
    ReturnsInHanded {} Try.checked os 8 .any (Rows.leaseDropsSpec.pre6 enc Try.prog Try.f8 Rows.leaseDropsRow.domain false) (Rows.leaseDropsSpec.post enc Try.prog Try.f8 false true false false) := by
  refine returnsInHanded_of_change (C := Try.checked) own started (by kernel_rfl) Try.func8
    (ChangeSpec.witness6 (enc := enc) (C := Try.checked) false ⟨#[], #[.slice none 0 0, (.int .i64 0), (.int .i64 0)], []⟩ 8 (by kernel_rfl) (by kernel_rfl) (by kernel_rfl) (by kernel_rfl)) ?_
  intro W base args ds gs before hval0 hW hcnd _
  have hval : ∀ (j : Nat) t v, Try.f8.params[j]? = some t → args[j]? = some v → Value.okWide Try.prog W .any base t v := hval0
  have hW' := hW
  obtain ⟨p, q, hA0, hV, rfl, hfz, hnd⟩ := hW
  have hA : DataW.TrodAll enc Try.prog W 0 (fun _ => true) true Try.f8.params.toList args.toList ds p := hA0
  rw [Try.params8] at hA hval
  obtain ⟨v0, vs0, d0, ds0, p0, q0, hargs, rfl, rfl, h0, r0⟩ := trodAll_cons hA
  obtain ⟨v1, vs1, d1, ds1, p1, q1, rfl, rfl, rfl, h1, r1⟩ := trodAll_cons r0
  obtain ⟨v2, vs2, d2, ds2, p2, q2, rfl, rfl, rfl, h2, r2⟩ := trodAll_cons r1
  obtain ⟨rfl, rfl, rfl⟩ := trodAll_nil r2
  obtain rfl : args = #[v0, v1, v2] := by cases args; simp_all
  obtain ⟨rfl, rfl⟩ := trodVars_none hV
  obtain ⟨A0, n0, c0, l0, rfl, k0⟩ := open_kvs (hval 0 34 v0 rfl rfl) h0
  obtain ⟨a1, rfl, rfl, rfl, w1⟩ := open_int Try.underlying3 (hval 1 3 v1 rfl rfl) h1
  obtain ⟨a2, rfl, rfl, rfl, w2⟩ := open_int Try.underlying3 (hval 2 3 v2 rfl rfl) h2
  clear hA0 hval0
  refine (walk W A0 n0 c0 l0 a1 a2 k0 w1 w2).mono fun e W' ⟨he, bel⟩ => ?_
  subst he
  exact ⟨_, rfl, _, _, _, [], _, [], hW', trodAll_mk1 (shut_bool Try.underlying4 _), (trodAll_cons_mk (Below.trod laidOut (by kernel_rfl) (of_decide_eq_true (by kernel_rfl)) h0 bel (fun x hx => hW'.lt x (by simp [hx]))) (trodAll_cons_mk (shut_int Try.underlying3 w1) (trodAll_cons_mk (shut_int Try.underlying3 w2) trodAll_mk0))), rfl, bel.frame _, fun h => by cases h⟩

theorem over : Rows.leaseDropsRow.holds Try.pinned (OpenSpec.ofChange Rows.leaseDropsSpec) :=
  OpenClaim.holds_of_wide 8 Try.f8 rfl rfl rfl rfl rfl rfl rfl ⟨rfl, rfl, rfl, rfl, rfl⟩ rfl rfl rfl rfl rfl (by kernel_rfl) Try.func8 (by kernel_rfl)
    (of_decide_eq_true (by kernel_rfl)) (by unfold Func.isWrapper; first | (rw [if_pos (by decide +kernel)]; kernel_rfl) | (rw [if_neg (by decide +kernel)]; exact ⟨rfl, rfl⟩))
    (fun os started H enc _ => lifted os started H enc)

theorem proved : Rows.LeaseDropsSaid := over
#print axioms proved
end Go.Proofs.Ytelepkofhdjagab.leaseDrops
