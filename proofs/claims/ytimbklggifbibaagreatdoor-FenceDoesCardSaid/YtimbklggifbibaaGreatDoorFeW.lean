/- Layer 20: the sentinels; why a write is refused, and by which number; a write, the program's way and the document's. -/
import Derived.Test.YtimbklggifbibaaGreatDoorFe
import Derived.Test.YtimbklggifbibaaGreatDoorFeErr
import Derived.Deep.RegionHeld3
import Derived.Laws.Rows
import Derived.Laws.Tables
namespace Go.Proofs.YtimbklggifbibaaGreatDoor.P
open Go.RowKit Go.Sort
set_option maxHeartbeats 1000000
set_option linter.unusedVariables false
set_option linter.unusedSimpArgs false
set_option maxRecDepth 100000

/-- The four sentinels: what is wrong with an argument, what is over, what has no room, what is no write. -/
structure Sents (w : World) (s : Nat → Addr) : Prop where
  g0 : w.cell? ⟨3, 0, none⟩ = some (sentV (s 0))
  g1 : w.cell? ⟨1, 0, none⟩ = some (sentV (s 1))
  g2 : w.cell? ⟨2, 0, none⟩ = some (sentV (s 2))
  g3 : w.cell? ⟨0, 0, none⟩ = some (sentV (s 3))
  row : ∀ i, i < 4 → ∃ cs t, w.heap[(s i).block]? = some (.cells cs t (0, 0))
  ne : ∀ i j, i < 4 → j < 4 → i ≠ j → s i ≠ s j
  lt : 4 ≤ w.heap.size
theorem Sents.keep {w w' : World} {s : Nat → Addr} (h : Sents w s) (hb : Below w.heap.size w w') : Sents w' s :=
  ⟨(hb.cell (p := ⟨3, 0, none⟩) (Nat.lt_of_lt_of_le (by decide) h.lt)).trans h.g0, (hb.cell (p := ⟨1, 0, none⟩) (Nat.lt_of_lt_of_le (by decide) h.lt)).trans h.g1,
   (hb.cell (p := ⟨2, 0, none⟩) (Nat.lt_of_lt_of_le (by decide) h.lt)).trans h.g2, (hb.cell (p := ⟨0, 0, none⟩) (Nat.lt_of_lt_of_le (by decide) h.lt)).trans h.g3,
   fun i hi => by
    obtain ⟨cs, t, hr⟩ := h.row i hi
    exact ⟨cs, t, (hb.block _ (blk_lt hr)).trans hr⟩, h.ne, Nat.le_trans h.lt hb.size⟩
theorem is_any (of_ : ByteArray) (i j : Nat) (hi : i < 4) (hj : j < 4) (s : Nat → Addr) (w : World) (h : Sents w s) :
    Calls Tryz.prog 29 #[faultV of_ (s i), sentV (s j)] w fun e w' => e = .returned (.bool (decide (i = j))) ∧ Below w.heap.size w w' := by
  by_cases hij : i = j
  · subst hij
    rw [decide_eq_true rfl]
    exact is_fault_same of_ (s i) w
  · rw [decide_eq_false hij]
    obtain ⟨ca, ta, ha⟩ := h.row i hi
    obtain ⟨cb, tb, hb⟩ := h.row j hj
    exact is_fault_other of_ (s i) (s j) ca cb ta tb w (h.ne i j hi hj hij) ha hb
/-- The number of what a sentinel tells. -/
def codeS (i : Nat) : Int := if i = 3 then 3 else if i = 1 then 10 else if i = 2 then 4 else 1
theorem numberOf_any (of_ : ByteArray) (i : Nat) (hi : i < 4) (s : Nat → Addr) (w : World) (h : Sents w s) :
    Calls Tryz.prog 17 #[faultV of_ (s i)] w fun e w' => e = .returned (.int .i64 (codeS i)) ∧ Below w.heap.size w w' := by
  have H := Lib.hid h
  have q3 := h.g3
  have c3 := Lib.hid (is_any of_ i 3 hi (by omega) s w h)
  by_cases h3 : i = 3
  · subst h3
    rw [decide_eq_true rfl] at c3
    go_enter Tryz.func17, Tryz.ntmps17
    go_wp2_with fail
    refine c3.out.mono ?_; rintro e w1 ⟨rfl, hb⟩
    have B1 := Lib.hid hb; clear hb
    go_wp2
    go_ret
    exact ⟨rfl, B1.out⟩
  · rw [decide_eq_false h3] at c3
    by_cases h1 : i = 1
    · subst h1
      go_enter Tryz.func17, Tryz.ntmps17
      go_wp2_with fail
      refine c3.out.mono ?_; rintro e w1 ⟨rfl, hb⟩
      have B1 := Lib.hid hb
      have H1 := Lib.hid (H.out.keep hb); clear hb
      have q1 := H1.out.g1
      go_wp2_with fail
      refine (is_any of_ 1 1 (by omega) (by omega) s w1 H1.out).mono ?_; rintro e w2 ⟨rfl, hb⟩
      have B2 := Lib.hid (then_ B1.out hb); clear hb
      rw [decide_eq_true rfl]
      go_wp2
      go_ret
      exact ⟨rfl, B2.out⟩
    · by_cases h2 : i = 2
      · subst h2
        go_enter Tryz.func17, Tryz.ntmps17
        go_wp2_with fail
        refine c3.out.mono ?_; rintro e w1 ⟨rfl, hb⟩
        have B1 := Lib.hid hb
        have H1 := Lib.hid (H.out.keep hb); clear hb
        have q1 := H1.out.g1
        go_wp2_with fail
        refine (is_any of_ 2 1 (by omega) (by omega) s w1 H1.out).mono ?_; rintro e w2 ⟨rfl, hb⟩
        have B2 := Lib.hid (then_ B1.out hb)
        have H2 := Lib.hid (H1.out.keep hb); clear hb
        have q2 := H2.out.g2
        rw [decide_eq_false (by omega)]
        go_wp2_with fail
        refine (is_any of_ 2 2 (by omega) (by omega) s w2 H2.out).mono ?_; rintro e w3 ⟨rfl, hb⟩
        have B3 := Lib.hid (then_ B2.out hb); clear hb
        rw [decide_eq_true rfl]
        go_wp2
        go_ret
        exact ⟨rfl, B3.out⟩
      · obtain rfl : i = 0 := by omega
        go_enter Tryz.func17, Tryz.ntmps17
        go_wp2_with fail
        refine c3.out.mono ?_; rintro e w1 ⟨rfl, hb⟩
        have B1 := Lib.hid hb
        have H1 := Lib.hid (H.out.keep hb); clear hb
        have q1 := H1.out.g1
        go_wp2_with fail
        refine (is_any of_ 0 1 (by omega) (by omega) s w1 H1.out).mono ?_; rintro e w2 ⟨rfl, hb⟩
        have B2 := Lib.hid (then_ B1.out hb)
        have H2 := Lib.hid (H1.out.keep hb); clear hb
        have q2 := H2.out.g2
        rw [decide_eq_false (by omega)]
        go_wp2_with fail
        refine (is_any of_ 0 2 (by omega) (by omega) s w2 H2.out).mono ?_; rintro e w3 ⟨rfl, hb⟩
        have B3 := Lib.hid (then_ B2.out hb); clear hb
        rw [decide_eq_false (by omega)]
        go_wp2
        go_ret
        exact ⟨rfl, B3.out⟩
/-- Why a write is refused, if it is. -/
def WhyEnd (s : Nat → Addr) (er : Int) (w : World) (e : Ending) (w' : World) : Prop :=
  ((er = 0 ∧ e = .returned .nilIface) ∨ ∃ of_ i, i < 4 ∧ er ≠ 0 ∧ codeS i = er ∧ e = .returned (faultV of_ (s i))) ∧ Below w.heap.size w w'
theorem refuses_any (r : Rs) (A : Option Addr) (n c : Nat) (x : Ac) (s : Nat → Addr) (w : World) (h : RsAt w r A n c) (hS : Sents w s) :
    Calls Tryz.prog 22 #[r.agg A n c, x.agg] w (WhyEnd s (wrE r x) w) := by
  have b1 := Lib.hid (new1 w (.cells (r.arr A n c) 24))
  have b2 := Lib.hid (then_ b1.out (new1 (w.alloc (.cells (r.arr A n c) 24)) (.cells x.arr 46)))
  have S2 := Lib.hid (hS.keep b2.out)
  have HL := Lib.hid h.len
  have q0 := S2.out.g0
  have q1 := S2.out.g1
  have q2 := S2.out.g2
  clear h
  obtain ⟨hi, va, l⟩ := r
  obtain ⟨who, tok, val⟩ := x
  have one0 : Hid (¬ (1 ≤ tok ∧ tok ≤ 1099511627775 ∧ 0 ≤ who ∧ who ≤ 1099511627775 ∧ val.size ≤ 20) → wrE ⟨hi, va, l⟩ ⟨who, tok, val⟩ = 1) := Lib.hid (fun h => wrE_one (by
    cases ho : oneB ⟨who, tok, val⟩ with
    | false => rfl
    | true => exact absurd (oneB_iff.1 ho) h))
  have bad : ∀ of_ w', Below w.heap.size w w' → wrE ⟨hi, va, l⟩ ⟨who, tok, val⟩ = 1 → WhyEnd s (wrE ⟨hi, va, l⟩ ⟨who, tok, val⟩) w (.returned (faultV of_ (s 0))) w' := fun of_ w' hb he => ⟨.inr ⟨of_, 0, by omega, by rw [he]; decide, by rw [he]; rfl, rfl⟩, hb⟩
  have BAD := Lib.hid bad
  clear bad
  by_cases h1 : 1 ≤ tok
  · have h1' : ¬ tok < 1 := by omega
    by_cases h2 : tok ≤ 1099511627775
    · have h2' : ¬ tok > 1099511627775 := by omega
      by_cases h3 : 0 ≤ who
      · have h3' : ¬ who < 0 := by omega
        by_cases h4 : who ≤ 1099511627775
        · have h4' : ¬ who > 1099511627775 := by omega
          by_cases h5 : val.size ≤ 20
          · have h5' : ¬ (val.size : Int) > 20 := by omega
            have HO := Lib.hid ((oneB_iff (x := ⟨who, tok, val⟩)).2 ⟨h1, h2, h3, h4, h5⟩)
            by_cases h6 : tok < hi
            · have HE := Lib.hid (wrE_stale (r := ⟨hi, va, l⟩) HO.out h6)
              clear h1 h2 h3 h4
              go_enter Tryz.func22, Tryz.ntmps22
              go_wp2
              go_ret
              exact ⟨.inr ⟨_, 1, by omega, by rw [HE.out]; decide, by rw [HE.out]; rfl, rfl⟩, b2.out⟩
            · by_cases h7 : 40 ≤ n
              · have HE := Lib.hid (wrE_full (r := ⟨hi, va, l⟩) HO.out h6 (by rw [show l.length = n from HL.out]; exact h7))
                have h7' : (n : Int) ≥ 40 := by omega
                clear h1 h2 h3 h4
                go_enter Tryz.func22, Tryz.ntmps22
                go_wp2
                go_ret
                exact ⟨.inr ⟨_, 2, by omega, by rw [HE.out]; decide, by rw [HE.out]; rfl, rfl⟩, b2.out⟩
              · have HE := Lib.hid ((wrE_zero (r := ⟨hi, va, l⟩)).2 ⟨HO.out, h6, by rw [show l.length = n from HL.out]; omega⟩)
                have h7' : ¬ (n : Int) ≥ 40 := by omega
                clear h1 h2 h3 h4
                go_enter Tryz.func22, Tryz.ntmps22
                go_wp2
                go_ret
                exact ⟨.inl ⟨HE.out, rfl⟩, b2.out⟩
          · have HE := Lib.hid (one0.out (fun h => h5 h.2.2.2.2))
            have h5' : (val.size : Int) > 20 := by omega
            clear h1 h2 h3 h4
            go_enter Tryz.func22, Tryz.ntmps22
            go_wp2
            go_ret
            exact BAD.out _ _ b2.out HE.out
        · have HE := Lib.hid (one0.out (fun h => h4 h.2.2.2.1))
          have h4' : who > 1099511627775 := by omega
          clear h1 h2 h3 h4
          go_enter Tryz.func22, Tryz.ntmps22
          go_wp2
          go_ret
          exact BAD.out _ _ b2.out HE.out
      · have HE := Lib.hid (one0.out (fun h => h3 h.2.2.1))
        have h3' : who < 0 := by omega
        clear h1 h2 h3
        go_enter Tryz.func22, Tryz.ntmps22
        go_wp2
        go_ret
        exact BAD.out _ _ b2.out HE.out
    · have HE := Lib.hid (one0.out (fun h => h2 h.2.1))
      have h2' : tok > 1099511627775 := by omega
      clear h1 h2
      go_enter Tryz.func22, Tryz.ntmps22
      go_wp2
      go_ret
      exact BAD.out _ _ b2.out HE.out
  · have HE := Lib.hid (one0.out (fun h => h1 h.1))
    have h1' : tok < 1 := by omega
    clear h1
    go_enter Tryz.func22, Tryz.ntmps22
    go_wp2
    go_ret
    exact BAD.out _ _ b2.out HE.out
end Go.Proofs.YtimbklggifbibaaGreatDoor.P
