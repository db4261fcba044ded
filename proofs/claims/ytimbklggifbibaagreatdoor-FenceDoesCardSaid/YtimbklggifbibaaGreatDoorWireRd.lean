/- The readers' small steps: what each call answers, the program's and the document's. -/
import Derived.Test.YtimbklggifbibaaGreatDoorWirePure
import Derived.BigQuiet
import Derived.Deep.QuietTactic
import Derived.WalkSmall
namespace Go.Proofs.YtimbklggifbibaaGreatDoor.P
open Go.RowKit Go.Lib
set_option maxHeartbeats 400000
set_option linter.unusedVariables false
set_option maxRecDepth 100000

theorem numR_ok {s : ByteArray} {a v c : Nat} (h : readR (s.data.toList.drop a) 0 0 = (v, c, 0)) (hv : v ≤ 1099511627775) : numR s (a, false) = (v, (a + c, false)) := by
  unfold numR; simp [h, hv]
theorem numR_no {s : ByteArray} {a v c e : Nat} (h : readR (s.data.toList.drop a) 0 0 = (v, c, e)) (hv : ¬ (e = 0 ∧ v ≤ 1099511627775)) : numR s (a, false) = (0, (a, true)) := by
  unfold numR; simp [h, hv]
theorem readP_at {l : List UInt8} {a v c e : Nat} (ha : a ≤ l.length) (h : readR (l.drop a) 0 0 = (v, c, e)) :
    readP l (a : Int) = if e = 0 then ((v : Int), (a : Int) + c, 0) else (0, 0, (e : Int)) := by
  unfold readP
  rw [if_neg (by omega), Int.toNat_natCast, h]

theorem number_any (b : Nat) (s : ByteArray) (p : Nat × Bool) (w : World) (h : RdAt w b s p) (hs : s.size ≤ 1000000) :
    Calls Tryz.prog 70 #[.pointer (some ⟨b, 0, none⟩)] w fun e w' => Reads w b s (numR s p).2 (.int .i64 ((numR s p).1 : Int)) e w' := by
  obtain ⟨a, bad⟩ := p
  have H := Lib.hid h
  obtain ⟨c0, c1, c2, f1, f2, le⟩ := h
  simp only at c1 c2 le
  cases bad with
  | true =>
    rw [numR_bad]
    go_enter Tryz.func70, Tryz.ntmps70
    go_wp2
    go_ret
    exact ⟨rfl, H.out, grown_refl _ _⟩
  | false =>
    obtain ⟨v, c, er, hr⟩ : ∃ v c er, readR (s.data.toList.drop a) 0 0 = (v, c, er) := ⟨_, _, _, rfl⟩
    have hl : s.data.toList.length = s.size := by simp
    have hp := readP_at (by rw [hl]; exact le) hr
    have hc := fun n => Calls.quiet_of_same ((read_any s (a : Int) (w.drewN n) (by omega) (by omega) hs).mono fun e w' h => ⟨h.1, h.2.symm⟩)
    rw [hp] at hc
    clear hl hp
    by_cases he : er = 0
    · subst he
      by_cases hv : v ≤ 1099511627775
      · have HN := Lib.hid (numR_ok hr hv)
        have HA := Lib.hid (numR_at s (a, false) le)
        clear hr
        have hv' : (v : Int) ≤ 1099511627775 := by omega
        rw [HN.out]
        rw [if_pos rfl] at hc
        go_enter Tryz.func70, Tryz.ntmps70
        go_wp2
        go_quiet ((go_at_call 92; exact hc _))
        go_wp2
        go_ret
        exact ⟨rfl, (H.out.drewN _).go (a + c) _ (by omega) (by have := HA.out; rw [HN.out] at this; exact this.2), grown_set (grown_drewN _ _ _) _ _⟩
      · have HN := Lib.hid (numR_no hr (show ¬ (0 = 0 ∧ v ≤ 1099511627775) by omega))
        clear hr
        have hv' : (1099511627775 : Int) < v := by omega
        rw [HN.out]
        rw [if_pos rfl] at hc
        go_enter Tryz.func70, Tryz.ntmps70
        go_wp2
        go_quiet ((go_at_call 92; exact hc _))
        go_wp2
        go_ret
        exact ⟨rfl, (H.out.drewN _).wrong, grown_set (grown_drewN _ _ _) _ _⟩
    · have HN := Lib.hid (numR_no hr (show ¬ (er = 0 ∧ v ≤ 1099511627775) by omega))
      clear hr
      rw [HN.out]
      rw [if_neg he] at hc
      have he' : ((er : Int) == 0) = false := by simp; omega
      go_enter Tryz.func70, Tryz.ntmps70
      go_wp2
      go_quiet ((go_at_call 92; exact hc _))
      go_wp2
      go_ret
      exact ⟨rfl, (H.out.drewN _).wrong, grown_set (grown_drewN _ _ _) _ _⟩
theorem rn_any (b : Nat) (s : ByteArray) (p : Nat × Bool) (w : World) (h : RdAt w b s p) (hs : s.size ≤ 1000000) :
    Calls Tryz.prog 30 #[.pointer (some ⟨b, 0, none⟩)] w fun e w' => Reads w b s (numR s p).2 (.int .i64 ((numR s p).1 : Int)) e w' := by
  obtain ⟨a, bad⟩ := p
  have H := Lib.hid h
  obtain ⟨c0, c1, c2, f1, f2, le⟩ := h
  simp only at c1 c2 le
  obtain ⟨v, c, er, hr⟩ : ∃ v c er, readR (s.data.toList.drop a) 0 0 = (v, c, er) := ⟨_, _, _, rfl⟩
  have hl : s.data.toList.length = s.size := by simp
  have hp := readP_at (by rw [hl]; exact le) hr
  have hc := fun n => Calls.quiet_of_same ((read_ref s (a : Int) (w.drewN n) (by omega) (by omega) hs).mono fun e w' h => ⟨h.1, h.2.symm⟩)
  rw [hp] at hc
  clear hl hp
  cases bad with
  | true =>
    rw [numR_bad]
    generalize (if er = 0 then ((v : Int), (a : Int) + c, (0 : Int)) else (0, 0, (er : Int))) = t at hc
    clear hr
    go_enter Tryz.func30, Tryz.ntmps30
    go_wp2
    go_quiet ((go_at_call 60; exact hc _))
    go_wp2
    go_ret
    exact ⟨rfl, (H.out.drewN _).wrong, grown_set (grown_drewN _ _ _) _ _⟩
  | false =>
    by_cases he : er = 0
    · subst he
      by_cases hv : v ≤ 1099511627775
      · have HN := Lib.hid (numR_ok hr hv)
        have HA := Lib.hid (numR_at s (a, false) le)
        clear hr
        have hv' : (v : Int) ≤ 1099511627775 := by omega
        rw [HN.out]
        rw [if_pos rfl] at hc
        go_enter Tryz.func30, Tryz.ntmps30
        go_wp2
        go_quiet ((go_at_call 60; exact hc _))
        go_wp2
        go_ret
        exact ⟨rfl, (H.out.drewN _).go (a + c) _ (by omega) (by have := HA.out; rw [HN.out] at this; exact this.2), grown_set (grown_drewN _ _ _) _ _⟩
      · have HN := Lib.hid (numR_no hr (show ¬ (0 = 0 ∧ v ≤ 1099511627775) by omega))
        clear hr
        have hv' : (1099511627775 : Int) < v := by omega
        rw [HN.out]
        rw [if_pos rfl] at hc
        go_enter Tryz.func30, Tryz.ntmps30
        go_wp2
        go_quiet ((go_at_call 60; exact hc _))
        go_wp2
        go_ret
        exact ⟨rfl, (H.out.drewN _).wrong, grown_set (grown_drewN _ _ _) _ _⟩
    · have HN := Lib.hid (numR_no hr (show ¬ (er = 0 ∧ v ≤ 1099511627775) by omega))
      clear hr
      rw [HN.out]
      rw [if_neg he] at hc
      have he' : ((er : Int) == 0) = false := by simp; omega
      go_enter Tryz.func30, Tryz.ntmps30
      go_wp2
      go_quiet ((go_at_call 60; exact hc _))
      go_wp2
      go_ret
      exact ⟨rfl, (H.out.drewN _).wrong, grown_set (grown_drewN _ _ _) _ _⟩

theorem txt_slice (s : ByteArray) (a k : Nat) (h : a + k ≤ s.size) (w : World) :
    (Instr.slice 9 (.string s) (some (.int .i64 (a : Int))) (some (.int .i64 ((a : Int) + k))) none).run Tryz.prog w = .ok (.string (s.extract a (a + k))) w := by
  rw [run_slice_string w 9 _ _ _ (a : Int) ((a : Int) + k) Tryz.underlying9 (by omega) (by omega) (by omega)]
  rw [show ((a : Int) + k).toNat = a + k by omega, Int.toNat_natCast]

theorem text_any (b : Nat) (s : ByteArray) (p : Nat × Bool) (w : World) (h : RdAt w b s p) (hs : s.size ≤ 1000000) :
    Calls Tryz.prog 72 #[.pointer (some ⟨b, 0, none⟩)] w fun e w' => Reads w b s (txtR s p).2 (.string (txtR s p).1) e w' := by
  have hn := number_any b s p w h hs
  have hk := numR_le s p
  have ha := (numR_at s p h.le).2
  clear h
  unfold txtR
  generalize numR s p = q at *
  obtain ⟨k, a, bad⟩ := q
  simp only at hn hk ha ⊢
  by_cases hlt : s.size - a < k
  · rw [if_pos hlt]
    have hi : (s.size : Int) - a < k := by omega
    go_enter Tryz.func72, Tryz.ntmps72
    go_wp2_with fail
    refine hn.mono ?_
    rintro e w1 ⟨rfl, h1, g1⟩
    have H := Lib.hid h1
    have G := Lib.hid g1
    obtain ⟨c0, c1, c2, f1, f2, le⟩ := h1
    simp only at c1 c2 le
    clear hn g1
    go_wp2
    go_quiet (fail)
    go_wp2
    go_ret
    exact ⟨rfl, (H.out.drewN _).wrong, grown_set (grownBy_trans G.out (grown_drewN _ _ _)) _ _⟩
  · rw [if_neg hlt]
    have hi : (k : Int) ≤ (s.size : Int) - a := by omega
    have hj : (a : Int) + k ≤ s.size := by omega
    have hwr : IntKind.i64.wrap (a : Int) = (a : Int) := by simp [IntKind.wrap, IntKind.bits, IntKind.signed]; omega
    have hsl := txt_slice s a k (by omega)
    go_enter Tryz.func72, Tryz.ntmps72
    go_wp2_with fail
    refine hn.mono ?_
    rintro e w1 ⟨rfl, h1, g1⟩
    have H := Lib.hid h1
    have G := Lib.hid g1
    obtain ⟨c0, c1, c2, f1, f2, le⟩ := h1
    simp only at c1 c2 le
    clear hn g1
    go_wp2
    go_quiet (fail)
    go_wp2
    go_quiet (fail)
    go_wp2
    go_ret
    exact ⟨rfl, ((H.out.drewN _).go (a + k) _ (by omega) (by omega)).drewN _, grownBy_trans (grown_set (grownBy_trans G.out (grown_drewN _ _ _)) _ _) (grown_drewN _ _ _)⟩

theorem numR_zero (s : ByteArray) (p : Nat × Bool) : (numR s p).2.2 = true → (numR s p).1 = 0 := by
  unfold numR; split
  · intro _; rfl
  · split
    · intro h; simp at h
    · intro _; rfl

theorem rt_any (b : Nat) (s : ByteArray) (p : Nat × Bool) (w : World) (h : RdAt w b s p) (hs : s.size ≤ 1000000) :
    Calls Tryz.prog 32 #[.pointer (some ⟨b, 0, none⟩)] w fun e w' => Reads w b s (txtR s p).2 (.string (txtR s p).1) e w' := by
  have hn := rn_any b s p w h hs
  have hk := numR_le s p
  have hz := numR_zero s p
  have ha := (numR_at s p h.le).2
  clear h
  unfold txtR
  generalize numR s p = q at *
  obtain ⟨k, a, bad⟩ := q
  simp only at hn hk hz ha ⊢
  cases bad with
  | true =>
    have hk0 := hz rfl
    subst hk0
    rw [if_neg (by omega)]
    simp only [Nat.add_zero, extract_same]
    go_enter Tryz.func32, Tryz.ntmps32
    go_wp2_with fail
    refine hn.mono ?_
    rintro e w1 ⟨rfl, h1, g1⟩
    have H := Lib.hid h1
    have G := Lib.hid g1
    obtain ⟨c0, c1, c2, f1, f2, le⟩ := h1
    simp only at c1 c2 le
    clear hn g1
    go_wp2
    go_quiet (fail)
    go_wp2
    go_ret
    exact ⟨rfl, (H.out.drewN _).wrong, grown_set (grownBy_trans G.out (grown_drewN _ _ _)) _ _⟩
  | false =>
    clear hz
    by_cases hlt : s.size - a < k
    · rw [if_pos hlt]
      have hi : (s.size : Int) - a < k := by omega
      go_enter Tryz.func32, Tryz.ntmps32
      go_wp2_with fail
      refine hn.mono ?_
      rintro e w1 ⟨rfl, h1, g1⟩
      have H := Lib.hid h1
      have G := Lib.hid g1
      obtain ⟨c0, c1, c2, f1, f2, le⟩ := h1
      simp only at c1 c2 le
      clear hn g1
      go_wp2
      go_quiet (fail)
      go_wp2
      go_ret
      exact ⟨rfl, (H.out.drewN _).wrong, grown_set (grownBy_trans G.out (grown_drewN _ _ _)) _ _⟩
    · rw [if_neg hlt]
      have hi : (k : Int) ≤ (s.size : Int) - a := by omega
      have hj : (a : Int) + k ≤ s.size := by omega
      have hwr : IntKind.i64.wrap (a : Int) = (a : Int) := by simp [IntKind.wrap, IntKind.bits, IntKind.signed]; omega
      have hsl := txt_slice s a k (by omega)
      go_enter Tryz.func32, Tryz.ntmps32
      go_wp2_with fail
      refine hn.mono ?_
      rintro e w1 ⟨rfl, h1, g1⟩
      have H := Lib.hid h1
      have G := Lib.hid g1
      obtain ⟨c0, c1, c2, f1, f2, le⟩ := h1
      simp only at c1 c2 le
      clear hn g1
      go_wp2
      go_quiet (fail)
      go_wp2
      go_quiet (fail)
      go_wp2
      go_ret
      exact ⟨rfl, ((H.out.drewN _).go (a + k) _ (by omega) (by omega)).drewN _, grownBy_trans (grown_set (grownBy_trans G.out (grown_drewN _ _ _)) _ _) (grown_drewN _ _ _)⟩

theorem upto_any (m : Nat) (hm : m ≤ 1000) (b : Nat) (s : ByteArray) (p : Nat × Bool) (w : World) (h : RdAt w b s p) (hs : s.size ≤ 1000000) :
    Calls Tryz.prog 93 #[.pointer (some ⟨b, 0, none⟩), .int .i64 (m : Int)] w fun e w' => Reads w b s (uptoR s m p).2 (.int .i64 ((uptoR s m p).1 : Int)) e w' := by
  have hn := number_any b s p w h hs
  have hk := numR_le s p
  have hz := numR_zero s p
  have ha := (numR_at s p h.le).2
  clear h
  unfold uptoR
  generalize numR s p = q at *
  obtain ⟨k, a, bad⟩ := q
  simp only at hn hk hz ha ⊢
  clear hz
  by_cases hlt : m < k
  · rw [if_pos hlt]
    have hi : (m : Int) < k := by omega
    go_enter Tryz.func93, Tryz.ntmps93
    go_wp2_with fail
    refine hn.mono ?_
    rintro e w1 ⟨rfl, h1, g1⟩
    have H := Lib.hid h1
    have G := Lib.hid g1
    obtain ⟨c0, c1, c2, f1, f2, le⟩ := h1
    simp only at c1 c2 le
    clear hn g1
    go_wp2
    go_ret
    exact ⟨rfl, H.out.wrong, grown_set G.out _ _⟩
  · rw [if_neg hlt]
    have hi : (k : Int) ≤ m := by omega
    go_enter Tryz.func93, Tryz.ntmps93
    go_wp2_with fail
    refine hn.mono ?_
    rintro e w1 ⟨rfl, h1, g1⟩
    have H := Lib.hid h1
    have G := Lib.hid g1
    obtain ⟨c0, c1, c2, f1, f2, le⟩ := h1
    simp only at c1 c2 le
    clear hn g1
    go_wp2
    go_ret
    exact ⟨rfl, H.out, G.out⟩

theorem first_any (m : Nat) (hm : m ≤ 1000) (b : Nat) (s : ByteArray) (p : Nat × Bool) (w : World) (h : RdAt w b s p) (hs : s.size ≤ 1000000) :
    Calls Tryz.prog 55 #[.pointer (some ⟨b, 0, none⟩), .int .i64 (m : Int)] w fun e w' => ReadsNone w b s (firstR s m p) e w' := by
  have hn := number_any b s p w h hs
  have hk := numR_le s p
  have hz := numR_zero s p
  have ha := (numR_at s p h.le).2
  clear h
  unfold firstR
  generalize numR s p = q at *
  obtain ⟨k, a, bad⟩ := q
  simp only at hn hk hz ha ⊢
  clear hz
  by_cases hlt : k = m
  · rw [if_pos hlt]
    subst hlt
    go_enter Tryz.func55, Tryz.ntmps55
    go_wp2_with fail
    refine hn.mono ?_
    rintro e w1 ⟨rfl, h1, g1⟩
    have H := Lib.hid h1
    have G := Lib.hid g1
    obtain ⟨c0, c1, c2, f1, f2, le⟩ := h1
    simp only at c1 c2 le
    clear hn g1
    go_wp2
    go_end0
    exact ⟨rfl, H.out, G.out⟩
  · rw [if_neg hlt]
    have hi : ((k : Int) == m) = false := by simp; omega
    go_enter Tryz.func55, Tryz.ntmps55
    go_wp2_with fail
    refine hn.mono ?_
    rintro e w1 ⟨rfl, h1, g1⟩
    have H := Lib.hid h1
    have G := Lib.hid g1
    obtain ⟨c0, c1, c2, f1, f2, le⟩ := h1
    simp only at c1 c2 le
    clear hn g1
    go_wp2
    go_end0
    exact ⟨rfl, H.out.wrong, grown_set G.out _ _⟩

theorem yes_any (b : Nat) (s : ByteArray) (p : Nat × Bool) (w : World) (h : RdAt w b s p) (hs : s.size ≤ 1000000) :
    Calls Tryz.prog 71 #[.pointer (some ⟨b, 0, none⟩)] w fun e w' => Reads w b s (yesR s p).2 (.bool (yesR s p).1) e w' := by
  have hn := upto_any 1 (by omega) b s p w h hs
  have he : (uptoR s 1 p).1 = 1 ↔ (numR s p).1 = 1 := by unfold uptoR; split <;> simp <;> omega
  unfold yesR
  generalize uptoR s 1 p = q at *
  generalize (numR s p).1 = n at *
  obtain ⟨k, a, bad⟩ := q
  simp only at hn he ⊢
  clear h
  by_cases hlt : k = 1
  · subst hlt
    have hn1 : n = 1 := he.1 rfl
    subst hn1
    clear he
    go_enter Tryz.func71, Tryz.ntmps71
    go_wp2_with fail
    refine hn.mono ?_
    rintro e w1 ⟨rfl, h1, g1⟩
    have H := Lib.hid h1
    have G := Lib.hid g1
    clear hn h1 g1
    go_wp2
    go_ret
    exact ⟨rfl, H.out, G.out⟩
  · have hn1 : (n == 1) = false := by simp; intro h; exact hlt (he.2 h)
    rw [hn1]
    have hi : ((k : Int) == 1) = false := by simp; omega
    clear he
    go_enter Tryz.func71, Tryz.ntmps71
    go_wp2_with fail
    refine hn.mono ?_
    rintro e w1 ⟨rfl, h1, g1⟩
    have H := Lib.hid h1
    have G := Lib.hid g1
    clear hn h1 g1
    go_wp2
    go_ret
    exact ⟨rfl, H.out, G.out⟩

theorem rb_any (b : Nat) (s : ByteArray) (p : Nat × Bool) (w : World) (h : RdAt w b s p) (hs : s.size ≤ 1000000) :
    Calls Tryz.prog 31 #[.pointer (some ⟨b, 0, none⟩)] w fun e w' => Reads w b s (yesR s p).2 (.bool (yesR s p).1) e w' := by
  have hn := rn_any b s p w h hs
  have hk := numR_le s p
  have hz := numR_zero s p
  have ha := (numR_at s p h.le).2
  clear h
  unfold yesR uptoR
  generalize numR s p = q at *
  obtain ⟨k, a, bad⟩ := q
  simp only at hn hk hz ha ⊢
  clear hz
  by_cases hlt : 1 < k
  · rw [if_pos hlt]
    have hi : (1 : Int) < k := by omega
    have hb : ((k : Int) == 1) = false := by simp; omega
    have hb2 : (k == 1) = false := by simp; omega
    rw [hb2]
    go_enter Tryz.func31, Tryz.ntmps31
    go_wp2_with fail
    refine hn.mono ?_
    rintro e w1 ⟨rfl, h1, g1⟩
    have H := Lib.hid h1
    have G := Lib.hid g1
    obtain ⟨c0, c1, c2, f1, f2, le⟩ := h1
    simp only at c1 c2 le
    clear hn g1
    go_wp2
    go_ret
    exact ⟨rfl, H.out.wrong, grown_set G.out _ _⟩
  · rw [if_neg hlt]
    have hi : (k : Int) ≤ 1 := by omega
    have hb : ((k : Int) == 1) = (k == 1) := by rw [Bool.eq_iff_iff]; simp; omega
    generalize (k == 1) = y at *
    go_enter Tryz.func31, Tryz.ntmps31
    go_wp2_with fail
    refine hn.mono ?_
    rintro e w1 ⟨rfl, h1, g1⟩
    have H := Lib.hid h1
    have G := Lib.hid g1
    obtain ⟨c0, c1, c2, f1, f2, le⟩ := h1
    simp only at c1 c2 le
    clear hn g1
    go_wp2
    go_ret
    exact ⟨rfl, H.out, G.out⟩

theorem done_any (b : Nat) (s : ByteArray) (p : Nat × Bool) (w : World) (h : RdAt w b s p) (hs : s.size ≤ 1000000) :
    Calls Tryz.prog 57 #[.pointer (some ⟨b, 0, none⟩)] w fun e w' => e = .returned (.bool (doneR s p)) ∧ Below w.heap.size w w' := by
  obtain ⟨a, bad⟩ := p
  obtain ⟨c0, c1, c2, f1, f2, le⟩ := h
  unfold doneR
  simp only at c1 c2 le ⊢
  have hb : ((a : Int) == (s.size : Int)) = (a == s.size) := by rw [Bool.eq_iff_iff]; simp; omega
  generalize (a == s.size) = y at *
  cases bad with
  | true =>
    go_enter Tryz.func57, Tryz.ntmps57
    go_wp2
    go_quiet (fail)
    go_wp2
    go_ret
    exact ⟨rfl, below_drewN (Below.refl _ _) _⟩
  | false =>
    go_enter Tryz.func57, Tryz.ntmps57
    go_wp2
    go_quiet (fail)
    go_wp2
    go_ret
    exact ⟨by simp, below_drewN (Below.refl _ _) _⟩
end Go.Proofs.YtimbklggifbibaaGreatDoor.P
