/- What is asked: the document's way. -/
import Derived.Test.YtlffhehpeeiogaaTxDo
namespace Go.Proofs.Ytlffhehpeeiogaa.P
open Go.RowKit Go.Sort
set_option maxHeartbeats 1000000
set_option linter.unusedVariables false
set_option linter.unusedSimpArgs false
set_option maxRecDepth 100000

theorem number_ref (a h b : Int) (w : World) : Calls Try.prog 75 #[.int .i64 a, .int .i64 h, .int .i64 b] w fun e w' => e = .returned (.bool (numB a h b)) ∧ w = w' := by
  by_cases hab : a < b
  · by_cases h1 : h = 1
    · subst h1
      have HR : Hid (numB a 1 b = false) := Lib.hid (by unfold numB; simp; omega)
      have n0 : (a == b) = false := by simp; omega
      have n2 : ¬ b < a := by omega
      go_enter Try.func75, Try.ntmps75
      go_wp2
      go_ret
      exact ⟨retB HR.out.symm, rfl⟩
    by_cases h2 : h = 2
    · subst h2
      have HR : Hid (numB a 2 b = true) := Lib.hid (by unfold numB; simp; omega)
      have n0 : (a == b) = false := by simp; omega
      have n2 : ¬ b < a := by omega
      go_enter Try.func75, Try.ntmps75
      go_wp2
      go_ret
      exact ⟨retB HR.out.symm, rfl⟩
    by_cases h3 : h = 3
    · subst h3
      have HR : Hid (numB a 3 b = false) := Lib.hid (by unfold numB; simp; omega)
      have n0 : (a == b) = false := by simp; omega
      have n2 : ¬ b < a := by omega
      go_enter Try.func75, Try.ntmps75
      go_wp2
      go_ret
      exact ⟨retB HR.out.symm, rfl⟩
    have HR : Hid (numB a h b = false) := Lib.hid (numB_how (by omega))
    have m1 : (h == 1) = false := by simp [h1]
    have m2 : (h == 2) = false := by simp [h2]
    have m3 : (h == 3) = false := by simp [h3]
    clear h1 h2 h3
    have n0 : (a == b) = false := by simp; omega
    have n2 : ¬ b < a := by omega
    go_enter Try.func75, Try.ntmps75
    go_wp2
    go_ret
    exact ⟨retB HR.out.symm, rfl⟩
  · by_cases hba : b < a
    · by_cases h1 : h = 1
      · subst h1
        have HR : Hid (numB a 1 b = false) := Lib.hid (by unfold numB; simp; omega)
        have n0 : (a == b) = false := by simp; omega
        have n2 : ¬ a < b := by omega
        go_enter Try.func75, Try.ntmps75
        go_wp2
        go_ret
        exact ⟨retB HR.out.symm, rfl⟩
      by_cases h2 : h = 2
      · subst h2
        have HR : Hid (numB a 2 b = false) := Lib.hid (by unfold numB; simp; omega)
        have n0 : (a == b) = false := by simp; omega
        have n2 : ¬ a < b := by omega
        go_enter Try.func75, Try.ntmps75
        go_wp2
        go_ret
        exact ⟨retB HR.out.symm, rfl⟩
      by_cases h3 : h = 3
      · subst h3
        have HR : Hid (numB a 3 b = true) := Lib.hid (by unfold numB; simp; omega)
        have n0 : (a == b) = false := by simp; omega
        have n2 : ¬ a < b := by omega
        go_enter Try.func75, Try.ntmps75
        go_wp2
        go_ret
        exact ⟨retB HR.out.symm, rfl⟩
      have HR : Hid (numB a h b = false) := Lib.hid (numB_how (by omega))
      have m1 : (h == 1) = false := by simp [h1]
      have m2 : (h == 2) = false := by simp [h2]
      have m3 : (h == 3) = false := by simp [h3]
      clear h1 h2 h3
      have n0 : (a == b) = false := by simp; omega
      have n2 : ¬ a < b := by omega
      go_enter Try.func75, Try.ntmps75
      go_wp2
      go_ret
      exact ⟨retB HR.out.symm, rfl⟩
    · obtain rfl : a = b := by omega
      by_cases h1 : h = 1
      · subst h1
        have HR : Hid (numB a 1 a = true) := Lib.hid (by simp [numB])
        go_enter Try.func75, Try.ntmps75
        go_wp2
        go_ret
        exact ⟨retB HR.out.symm, rfl⟩
      by_cases h2 : h = 2
      · subst h2
        have HR : Hid (numB a 2 a = false) := Lib.hid (by simp [numB])
        go_enter Try.func75, Try.ntmps75
        go_wp2
        go_ret
        exact ⟨retB HR.out.symm, rfl⟩
      by_cases h3 : h = 3
      · subst h3
        have HR : Hid (numB a 3 a = false) := Lib.hid (by simp [numB])
        go_enter Try.func75, Try.ntmps75
        go_wp2
        go_ret
        exact ⟨retB HR.out.symm, rfl⟩
      have HR : Hid (numB a h a = false) := Lib.hid (numB_how (by omega))
      have m1 : (h == 1) = false := by simp [h1]
      have m2 : (h == 2) = false := by simp [h2]
      have m3 : (h == 3) = false := by simp [h3]
      clear h1 h2 h3
      go_enter Try.func75, Try.ntmps75
      go_wp2
      go_ret
      exact ⟨retB HR.out.symm, rfl⟩
theorem find_thing_r (A : Option Addr) (n c : Nat) (l : List KV) (k : ByteArray) (w : World) (h : KVs w A n c l) (hn : n ≤ 1000000) :
    Calls Try.prog 49 #[.slice A n c, .string k] w fun e w' => ∃ b, e = .returned (.tuple #[(thingL l k).agg, .bool b]) ∧ Below w.heap.size w w' := by
  have t := find_ref A n c l k w h hn
  cases hf : findL l k with
  | none =>
    rw [hf] at t
    have hx : thingL l k = ⟨⟨#[]⟩, ⟨#[]⟩, 0, 0, 0, 0⟩ := by unfold thingL; rw [hf]; rfl
    rw [hx]
    exact t.mono fun e w' h => ⟨false, h.none_.1, h.none_.2⟩
  | some y =>
    rw [hf] at t
    have hx : thingL l k = y := by unfold thingL; rw [hf]; rfl
    rw [hx]
    exact t.mono fun e w' h => ⟨true, h.some_.1, h.some_.2⟩
theorem holdsr_1 (A : Option Addr) (n c : Nat) (l : List KV) (k v : ByteArray) (b nn : Int) (w : World) (h : KVs w A n c l) (hn : n ≤ 1000000) :
    Calls Try.prog 34 #[.slice A n c, (Cm.mk k 1 b nn v).agg] w fun e w' => e = .returned (.bool (holdsB l ⟨k, 1, b, nn, v⟩)) ∧ Below w.heap.size w w' := by
  have Q0 := Lib.hid (own_new w #[.string k, .int .i64 1, .int .i64 b, .int .i64 nn, .string v] 53)
  have H0 := Lib.hid (h.keep (new1 w (Cm.obj ⟨k, 1, b, nn, v⟩ 53)))
  have B0 := Lib.hid (new1 w (Cm.obj ⟨k, 1, b, nn, v⟩ 53))
  obtain ⟨x, hx⟩ : ∃ x, x = thingL l k := ⟨_, rfl⟩
  have HR : Hid (holdsB l ⟨k, 1, b, nn, v⟩ = numB x.cre b nn) := Lib.hid (by show holdsX (thingL l k) _ = _; rw [← hx]; simp [holdsX])
  have HX := Lib.hid hx
  clear hx h
  go_enter Try.func34, Try.ntmps34
  go_wp2_with fail
  refine (find_thing_r A n c l k _ H0.out hn).mono ?_; rintro e w2 ⟨f, rfl, hb⟩
  rw [← HX.out]
  have B2 := Lib.hid (then_ B0.out hb)
  have Q2 := Lib.hid (Q0.out.below hb)
  clear hb
  have BX := Lib.hid (then_ B2.out (new1 w2 (x.obj 45)))
  have lq := Q2.out.lt
  have q1 := Q2.out.cell 1 _ rfl
  have q2 := Q2.out.cell 2 _ rfl
  have q3 := Q2.out.cell 3 _ rfl
  have q4 := Q2.out.cell 4 _ rfl
  go_wp2_with fail
  refine (number_ref x.cre b nn _).mono ?_; rintro e w3 ⟨rfl, rfl⟩
  go_wp2
  go_ret
  exact ⟨retB HR.out.symm, BX.out⟩
theorem holdsr_2 (A : Option Addr) (n c : Nat) (l : List KV) (k v : ByteArray) (b nn : Int) (w : World) (h : KVs w A n c l) (hn : n ≤ 1000000) :
    Calls Try.prog 34 #[.slice A n c, (Cm.mk k 2 b nn v).agg] w fun e w' => e = .returned (.bool (holdsB l ⟨k, 2, b, nn, v⟩)) ∧ Below w.heap.size w w' := by
  have Q0 := Lib.hid (own_new w #[.string k, .int .i64 2, .int .i64 b, .int .i64 nn, .string v] 53)
  have H0 := Lib.hid (h.keep (new1 w (Cm.obj ⟨k, 2, b, nn, v⟩ 53)))
  have B0 := Lib.hid (new1 w (Cm.obj ⟨k, 2, b, nn, v⟩ 53))
  obtain ⟨x, hx⟩ : ∃ x, x = thingL l k := ⟨_, rfl⟩
  have HR : Hid (holdsB l ⟨k, 2, b, nn, v⟩ = numB x.mod b nn) := Lib.hid (by show holdsX (thingL l k) _ = _; rw [← hx]; simp [holdsX])
  have HX := Lib.hid hx
  clear hx h
  go_enter Try.func34, Try.ntmps34
  go_wp2_with fail
  refine (find_thing_r A n c l k _ H0.out hn).mono ?_; rintro e w2 ⟨f, rfl, hb⟩
  rw [← HX.out]
  have B2 := Lib.hid (then_ B0.out hb)
  have Q2 := Lib.hid (Q0.out.below hb)
  clear hb
  have BX := Lib.hid (then_ B2.out (new1 w2 (x.obj 45)))
  have lq := Q2.out.lt
  have q1 := Q2.out.cell 1 _ rfl
  have q2 := Q2.out.cell 2 _ rfl
  have q3 := Q2.out.cell 3 _ rfl
  have q4 := Q2.out.cell 4 _ rfl
  go_wp2_with fail
  refine (number_ref x.mod b nn _).mono ?_; rintro e w3 ⟨rfl, rfl⟩
  go_wp2
  go_ret
  exact ⟨retB HR.out.symm, BX.out⟩
theorem holdsr_3 (A : Option Addr) (n c : Nat) (l : List KV) (k v : ByteArray) (b nn : Int) (w : World) (h : KVs w A n c l) (hn : n ≤ 1000000) :
    Calls Try.prog 34 #[.slice A n c, (Cm.mk k 3 b nn v).agg] w fun e w' => e = .returned (.bool (holdsB l ⟨k, 3, b, nn, v⟩)) ∧ Below w.heap.size w w' := by
  have Q0 := Lib.hid (own_new w #[.string k, .int .i64 3, .int .i64 b, .int .i64 nn, .string v] 53)
  have H0 := Lib.hid (h.keep (new1 w (Cm.obj ⟨k, 3, b, nn, v⟩ 53)))
  have B0 := Lib.hid (new1 w (Cm.obj ⟨k, 3, b, nn, v⟩ 53))
  obtain ⟨x, hx⟩ : ∃ x, x = thingL l k := ⟨_, rfl⟩
  have HR : Hid (holdsB l ⟨k, 3, b, nn, v⟩ = numB x.ver b nn) := Lib.hid (by show holdsX (thingL l k) _ = _; rw [← hx]; simp [holdsX])
  have HX := Lib.hid hx
  clear hx h
  go_enter Try.func34, Try.ntmps34
  go_wp2_with fail
  refine (find_thing_r A n c l k _ H0.out hn).mono ?_; rintro e w2 ⟨f, rfl, hb⟩
  rw [← HX.out]
  have B2 := Lib.hid (then_ B0.out hb)
  have Q2 := Lib.hid (Q0.out.below hb)
  clear hb
  have BX := Lib.hid (then_ B2.out (new1 w2 (x.obj 45)))
  have lq := Q2.out.lt
  have q1 := Q2.out.cell 1 _ rfl
  have q2 := Q2.out.cell 2 _ rfl
  have q3 := Q2.out.cell 3 _ rfl
  have q4 := Q2.out.cell 4 _ rfl
  go_wp2_with fail
  refine (number_ref x.ver b nn _).mono ?_; rintro e w3 ⟨rfl, rfl⟩
  go_wp2
  go_ret
  exact ⟨retB HR.out.symm, BX.out⟩
theorem holdsr_4 (A : Option Addr) (n c : Nat) (l : List KV) (k v : ByteArray) (b nn : Int) (w : World) (h : KVs w A n c l) (hn : n ≤ 1000000) :
    Calls Try.prog 34 #[.slice A n c, (Cm.mk k 4 b nn v).agg] w fun e w' => e = .returned (.bool (holdsB l ⟨k, 4, b, nn, v⟩)) ∧ Below w.heap.size w w' := by
  have Q0 := Lib.hid (own_new w #[.string k, .int .i64 4, .int .i64 b, .int .i64 nn, .string v] 53)
  have H0 := Lib.hid (h.keep (new1 w (Cm.obj ⟨k, 4, b, nn, v⟩ 53)))
  have B0 := Lib.hid (new1 w (Cm.obj ⟨k, 4, b, nn, v⟩ 53))
  obtain ⟨x, hx⟩ : ∃ x, x = thingL l k := ⟨_, rfl⟩
  have HR : Hid (holdsB l ⟨k, 4, b, nn, v⟩ = txtB x.val b v) := Lib.hid (by show holdsX (thingL l k) _ = _; rw [← hx]; simp [holdsX])
  have HX := Lib.hid hx
  clear hx h
  cases g1 : tlt x.val v with
  | true =>
    have g0 : teq x.val v = false := tlt_ne g1
    have g2 : tlt v x.val = false := tlt_asym g1
    by_cases h1 : b = 1
    · subst h1
      have HV : Hid (txtB x.val 1 v = false) := Lib.hid (by rw [txtB1]; exact g0)
      unfold tlt at g1; unfold teq at g0; clear g2
      go_enter Try.func34, Try.ntmps34
      go_wp2_with fail
      refine (find_thing_r A n c l k _ H0.out hn).mono ?_; rintro e w2 ⟨f, rfl, hb⟩
      rw [← HX.out]
      have B2 := Lib.hid (then_ B0.out hb)
      have Q2 := Lib.hid (Q0.out.below hb)
      clear hb
      have BX := Lib.hid (then_ B2.out (new1 w2 (x.obj 45)))
      have lq := Q2.out.lt
      have q1 := Q2.out.cell 1 _ rfl
      have q2 := Q2.out.cell 2 _ rfl
      have q3 := Q2.out.cell 3 _ rfl
      have q4 := Q2.out.cell 4 _ rfl
      go_wp2
      go_ret
      exact ⟨retB (by rw [HR.out, HV.out]), BX.out⟩
    by_cases h2 : b = 2
    · subst h2
      have HV : Hid (txtB x.val 2 v = true) := Lib.hid (by rw [txtB2]; exact g1)
      unfold tlt at g1; unfold teq at g0; clear g2
      go_enter Try.func34, Try.ntmps34
      go_wp2_with fail
      refine (find_thing_r A n c l k _ H0.out hn).mono ?_; rintro e w2 ⟨f, rfl, hb⟩
      rw [← HX.out]
      have B2 := Lib.hid (then_ B0.out hb)
      have Q2 := Lib.hid (Q0.out.below hb)
      clear hb
      have BX := Lib.hid (then_ B2.out (new1 w2 (x.obj 45)))
      have lq := Q2.out.lt
      have q1 := Q2.out.cell 1 _ rfl
      have q2 := Q2.out.cell 2 _ rfl
      have q3 := Q2.out.cell 3 _ rfl
      have q4 := Q2.out.cell 4 _ rfl
      go_wp2
      go_ret
      exact ⟨retB (by rw [HR.out, HV.out]), BX.out⟩
    by_cases h3 : b = 3
    · subst h3
      have HV : Hid (txtB x.val 3 v = false) := Lib.hid (by rw [txtB3]; exact g2)
      unfold tlt at g1; unfold teq at g0; clear g2
      go_enter Try.func34, Try.ntmps34
      go_wp2_with fail
      refine (find_thing_r A n c l k _ H0.out hn).mono ?_; rintro e w2 ⟨f, rfl, hb⟩
      rw [← HX.out]
      have B2 := Lib.hid (then_ B0.out hb)
      have Q2 := Lib.hid (Q0.out.below hb)
      clear hb
      have BX := Lib.hid (then_ B2.out (new1 w2 (x.obj 45)))
      have lq := Q2.out.lt
      have q1 := Q2.out.cell 1 _ rfl
      have q2 := Q2.out.cell 2 _ rfl
      have q3 := Q2.out.cell 3 _ rfl
      have q4 := Q2.out.cell 4 _ rfl
      go_wp2
      go_ret
      exact ⟨retB (by rw [HR.out, HV.out]), BX.out⟩
    have HV : Hid (txtB x.val b v = false) := Lib.hid (txtB_how (by omega))
    have m1 : (b == 1) = false := by simp [h1]
    have m2 : (b == 2) = false := by simp [h2]
    have m3 : (b == 3) = false := by simp [h3]
    clear h1 h2 h3
    unfold tlt at g1; unfold teq at g0; clear g2
    go_enter Try.func34, Try.ntmps34
    go_wp2_with fail
    refine (find_thing_r A n c l k _ H0.out hn).mono ?_; rintro e w2 ⟨f, rfl, hb⟩
    rw [← HX.out]
    have B2 := Lib.hid (then_ B0.out hb)
    have Q2 := Lib.hid (Q0.out.below hb)
    clear hb
    have BX := Lib.hid (then_ B2.out (new1 w2 (x.obj 45)))
    have lq := Q2.out.lt
    have q1 := Q2.out.cell 1 _ rfl
    have q2 := Q2.out.cell 2 _ rfl
    have q3 := Q2.out.cell 3 _ rfl
    have q4 := Q2.out.cell 4 _ rfl
    go_wp2
    go_ret
    exact ⟨retB (by rw [HR.out, HV.out]), BX.out⟩
  | false =>
    cases g2 : tlt v x.val with
    | true =>
      have g0 : teq x.val v = false := tlt_ne' g2
      by_cases h1 : b = 1
      · subst h1
        have HV : Hid (txtB x.val 1 v = false) := Lib.hid (by rw [txtB1]; exact g0)
        unfold tlt at g1; unfold teq at g0; clear g2
        go_enter Try.func34, Try.ntmps34
        go_wp2_with fail
        refine (find_thing_r A n c l k _ H0.out hn).mono ?_; rintro e w2 ⟨f, rfl, hb⟩
        rw [← HX.out]
        have B2 := Lib.hid (then_ B0.out hb)
        have Q2 := Lib.hid (Q0.out.below hb)
        clear hb
        have BX := Lib.hid (then_ B2.out (new1 w2 (x.obj 45)))
        have lq := Q2.out.lt
        have q1 := Q2.out.cell 1 _ rfl
        have q2 := Q2.out.cell 2 _ rfl
        have q3 := Q2.out.cell 3 _ rfl
        have q4 := Q2.out.cell 4 _ rfl
        go_wp2
        go_ret
        exact ⟨retB (by rw [HR.out, HV.out]), BX.out⟩
      by_cases h2 : b = 2
      · subst h2
        have HV : Hid (txtB x.val 2 v = false) := Lib.hid (by rw [txtB2]; exact g1)
        unfold tlt at g1; unfold teq at g0; clear g2
        go_enter Try.func34, Try.ntmps34
        go_wp2_with fail
        refine (find_thing_r A n c l k _ H0.out hn).mono ?_; rintro e w2 ⟨f, rfl, hb⟩
        rw [← HX.out]
        have B2 := Lib.hid (then_ B0.out hb)
        have Q2 := Lib.hid (Q0.out.below hb)
        clear hb
        have BX := Lib.hid (then_ B2.out (new1 w2 (x.obj 45)))
        have lq := Q2.out.lt
        have q1 := Q2.out.cell 1 _ rfl
        have q2 := Q2.out.cell 2 _ rfl
        have q3 := Q2.out.cell 3 _ rfl
        have q4 := Q2.out.cell 4 _ rfl
        go_wp2
        go_ret
        exact ⟨retB (by rw [HR.out, HV.out]), BX.out⟩
      by_cases h3 : b = 3
      · subst h3
        have HV : Hid (txtB x.val 3 v = true) := Lib.hid (by rw [txtB3]; exact g2)
        unfold tlt at g1; unfold teq at g0; clear g2
        go_enter Try.func34, Try.ntmps34
        go_wp2_with fail
        refine (find_thing_r A n c l k _ H0.out hn).mono ?_; rintro e w2 ⟨f, rfl, hb⟩
        rw [← HX.out]
        have B2 := Lib.hid (then_ B0.out hb)
        have Q2 := Lib.hid (Q0.out.below hb)
        clear hb
        have BX := Lib.hid (then_ B2.out (new1 w2 (x.obj 45)))
        have lq := Q2.out.lt
        have q1 := Q2.out.cell 1 _ rfl
        have q2 := Q2.out.cell 2 _ rfl
        have q3 := Q2.out.cell 3 _ rfl
        have q4 := Q2.out.cell 4 _ rfl
        go_wp2
        go_ret
        exact ⟨retB (by rw [HR.out, HV.out]), BX.out⟩
      have HV : Hid (txtB x.val b v = false) := Lib.hid (txtB_how (by omega))
      have m1 : (b == 1) = false := by simp [h1]
      have m2 : (b == 2) = false := by simp [h2]
      have m3 : (b == 3) = false := by simp [h3]
      clear h1 h2 h3
      unfold tlt at g1; unfold teq at g0; clear g2
      go_enter Try.func34, Try.ntmps34
      go_wp2_with fail
      refine (find_thing_r A n c l k _ H0.out hn).mono ?_; rintro e w2 ⟨f, rfl, hb⟩
      rw [← HX.out]
      have B2 := Lib.hid (then_ B0.out hb)
      have Q2 := Lib.hid (Q0.out.below hb)
      clear hb
      have BX := Lib.hid (then_ B2.out (new1 w2 (x.obj 45)))
      have lq := Q2.out.lt
      have q1 := Q2.out.cell 1 _ rfl
      have q2 := Q2.out.cell 2 _ rfl
      have q3 := Q2.out.cell 3 _ rfl
      have q4 := Q2.out.cell 4 _ rfl
      go_wp2
      go_ret
      exact ⟨retB (by rw [HR.out, HV.out]), BX.out⟩
    | false =>
      have g0 : teq x.val v = true := teq_iff.2 (tlt_tri g1 g2)
      by_cases h1 : b = 1
      · subst h1
        have HV : Hid (txtB x.val 1 v = true) := Lib.hid (by rw [txtB1]; exact g0)
        unfold tlt at g1; unfold teq at g0; clear g2
        go_enter Try.func34, Try.ntmps34
        go_wp2_with fail
        refine (find_thing_r A n c l k _ H0.out hn).mono ?_; rintro e w2 ⟨f, rfl, hb⟩
        rw [← HX.out]
        have B2 := Lib.hid (then_ B0.out hb)
        have Q2 := Lib.hid (Q0.out.below hb)
        clear hb
        have BX := Lib.hid (then_ B2.out (new1 w2 (x.obj 45)))
        have lq := Q2.out.lt
        have q1 := Q2.out.cell 1 _ rfl
        have q2 := Q2.out.cell 2 _ rfl
        have q3 := Q2.out.cell 3 _ rfl
        have q4 := Q2.out.cell 4 _ rfl
        go_wp2
        go_ret
        exact ⟨retB (by rw [HR.out, HV.out]), BX.out⟩
      by_cases h2 : b = 2
      · subst h2
        have HV : Hid (txtB x.val 2 v = false) := Lib.hid (by rw [txtB2]; exact g1)
        unfold tlt at g1; unfold teq at g0; clear g2
        go_enter Try.func34, Try.ntmps34
        go_wp2_with fail
        refine (find_thing_r A n c l k _ H0.out hn).mono ?_; rintro e w2 ⟨f, rfl, hb⟩
        rw [← HX.out]
        have B2 := Lib.hid (then_ B0.out hb)
        have Q2 := Lib.hid (Q0.out.below hb)
        clear hb
        have BX := Lib.hid (then_ B2.out (new1 w2 (x.obj 45)))
        have lq := Q2.out.lt
        have q1 := Q2.out.cell 1 _ rfl
        have q2 := Q2.out.cell 2 _ rfl
        have q3 := Q2.out.cell 3 _ rfl
        have q4 := Q2.out.cell 4 _ rfl
        go_wp2
        go_ret
        exact ⟨retB (by rw [HR.out, HV.out]), BX.out⟩
      by_cases h3 : b = 3
      · subst h3
        have HV : Hid (txtB x.val 3 v = false) := Lib.hid (by rw [txtB3]; exact g2)
        unfold tlt at g1; unfold teq at g0; clear g2
        go_enter Try.func34, Try.ntmps34
        go_wp2_with fail
        refine (find_thing_r A n c l k _ H0.out hn).mono ?_; rintro e w2 ⟨f, rfl, hb⟩
        rw [← HX.out]
        have B2 := Lib.hid (then_ B0.out hb)
        have Q2 := Lib.hid (Q0.out.below hb)
        clear hb
        have BX := Lib.hid (then_ B2.out (new1 w2 (x.obj 45)))
        have lq := Q2.out.lt
        have q1 := Q2.out.cell 1 _ rfl
        have q2 := Q2.out.cell 2 _ rfl
        have q3 := Q2.out.cell 3 _ rfl
        have q4 := Q2.out.cell 4 _ rfl
        go_wp2
        go_ret
        exact ⟨retB (by rw [HR.out, HV.out]), BX.out⟩
      have HV : Hid (txtB x.val b v = false) := Lib.hid (txtB_how (by omega))
      have m1 : (b == 1) = false := by simp [h1]
      have m2 : (b == 2) = false := by simp [h2]
      have m3 : (b == 3) = false := by simp [h3]
      clear h1 h2 h3
      unfold tlt at g1; unfold teq at g0; clear g2
      go_enter Try.func34, Try.ntmps34
      go_wp2_with fail
      refine (find_thing_r A n c l k _ H0.out hn).mono ?_; rintro e w2 ⟨f, rfl, hb⟩
      rw [← HX.out]
      have B2 := Lib.hid (then_ B0.out hb)
      have Q2 := Lib.hid (Q0.out.below hb)
      clear hb
      have BX := Lib.hid (then_ B2.out (new1 w2 (x.obj 45)))
      have lq := Q2.out.lt
      have q1 := Q2.out.cell 1 _ rfl
      have q2 := Q2.out.cell 2 _ rfl
      have q3 := Q2.out.cell 3 _ rfl
      have q4 := Q2.out.cell 4 _ rfl
      go_wp2
      go_ret
      exact ⟨retB (by rw [HR.out, HV.out]), BX.out⟩
theorem holdsr_0 (A : Option Addr) (n c : Nat) (l : List KV) (k v : ByteArray) (a : Int) (b nn : Int) (w : World) (h : KVs w A n c l) (hn : n ≤ 1000000) (ha : ¬ (1 ≤ a ∧ a ≤ 4)) :
    Calls Try.prog 34 #[.slice A n c, (Cm.mk k a b nn v).agg] w fun e w' => e = .returned (.bool (holdsB l ⟨k, a, b, nn, v⟩)) ∧ Below w.heap.size w w' := by
  have Q0 := Lib.hid (own_new w #[.string k, .int .i64 a, .int .i64 b, .int .i64 nn, .string v] 53)
  have H0 := Lib.hid (h.keep (new1 w (Cm.obj ⟨k, a, b, nn, v⟩ 53)))
  have B0 := Lib.hid (new1 w (Cm.obj ⟨k, a, b, nn, v⟩ 53))
  obtain ⟨x, hx⟩ : ∃ x, x = thingL l k := ⟨_, rfl⟩
  have HR : Hid (holdsB l ⟨k, a, b, nn, v⟩ = false) := Lib.hid (by show holdsX (thingL l k) _ = _; unfold holdsX; rw [if_neg (show ¬ a = 1 by omega), if_neg (show ¬ a = 2 by omega), if_neg (show ¬ a = 3 by omega), if_neg (show ¬ a = 4 by omega)])
  have a1 : (a == 1) = false := by simp; omega
  have a2 : (a == 2) = false := by simp; omega
  have a3 : (a == 3) = false := by simp; omega
  have a4 : (a == 4) = false := by simp; omega
  clear ha
  have HX := Lib.hid hx
  clear hx h
  go_enter Try.func34, Try.ntmps34
  go_wp2_with fail
  refine (find_thing_r A n c l k _ H0.out hn).mono ?_; rintro e w2 ⟨f, rfl, hb⟩
  rw [← HX.out]
  have B2 := Lib.hid (then_ B0.out hb)
  have Q2 := Lib.hid (Q0.out.below hb)
  clear hb
  have BX := Lib.hid (then_ B2.out (new1 w2 (x.obj 45)))
  have lq := Q2.out.lt
  have q1 := Q2.out.cell 1 _ rfl
  have q2 := Q2.out.cell 2 _ rfl
  have q3 := Q2.out.cell 3 _ rfl
  have q4 := Q2.out.cell 4 _ rfl
  go_wp2
  go_ret
  exact ⟨retB HR.out.symm, BX.out⟩
theorem holds_ref (A : Option Addr) (n c : Nat) (l : List KV) (q : Cm) (w : World) (h : KVs w A n c l) (hn : n ≤ 1000000) :
    Calls Try.prog 34 #[.slice A n c, q.agg] w fun e w' => e = .returned (.bool (holdsB l q)) ∧ Below w.heap.size w w' := by
  obtain ⟨k, a, b, nn, v⟩ := q
  by_cases ha : 1 ≤ a ∧ a ≤ 4
  · have h1 : a = 1 ∨ a = 2 ∨ a = 3 ∨ a = 4 := by omega
    rcases h1 with rfl | rfl | rfl | rfl
    · exact holdsr_1 A n c l k v b nn w h hn
    · exact holdsr_2 A n c l k v b nn w h hn
    · exact holdsr_3 A n c l k v b nn w h hn
    · exact holdsr_4 A n c l k v b nn w h hn
  · exact holdsr_0 A n c l k v a b nn w h hn ha
theorem all_ref (A : Option Addr) (n c : Nat) (l : List KV) (B : Option Addr) (m d : Nat) (cs : List Cm) (w : World) (h : KVs w A n c l) (g : Cms w B m d cs) (hn : n ≤ 1000000) :
    Calls Try.prog 36 #[.slice A n c, .slice B m d] w fun e w' => e = .returned (.bool (allB l cs)) ∧ Below w.heap.size w w' := by
  have hm := Nat.le_trans g.row.le g.row.max
  unfold maxLen at hm
  have H := Lib.hid h
  have G := Lib.hid g
  have GL := Lib.hid g.row.len
  clear h g
  go_enter Try.func36, Try.ntmps36
  go_wp2
  go_loopw [5] (fun i wr => ∃ k : Nat, k ≤ m ∧ i = .int .i64 k ∧ AllTo (holdsB l) cs k ∧ Below w.heap.size w wr) (fun i _ => m - (intOf i).toNat)
  case atStart => exact ⟨0, Nat.zero_le _, rfl, rfl, Below.refl _ _⟩
  case round =>
    obtain ⟨k, hk, rfl, hall, hbel⟩ := hrel
    have HA := Lib.hid hall; have HB := Lib.hid hbel
    clear hall hbel
    by_cases hlt : k < m
    · obtain ⟨a, x, rfl, hbl, hx, hok, hc⟩ := (G.out.keep HB.out).at_ hlt
      obtain ⟨c0, c1, c2, c3, c4⟩ := hc
      have HX := Lib.hid hx
      have BN := Lib.hid HB.out
      have KN := Lib.hid (H.out.keep HB.out)
      clear hx hok hbl
      cases hh : holdsB l x with
      | true =>
        have HH := Lib.hid hh
        have HN : Hid (AllTo (holdsB l) cs (k + 1)) := Lib.hid (by show _ = true; rw [all_take_s _ _ _ x HX.out, HA.out.out, hh]; rfl)
        clear hh
        go_wp2_with fail
        refine (holds_ref A n c l x _ KN.out hn).mono ?_; rintro e w2 ⟨rfl, hb⟩
        rw [HH.out]
        have B2 := Lib.hid (then_ BN.out hb); clear hb
        go_wp2
        go_roundw
        case rel => exact ⟨k + 1, by omega, by go_num, HN.out, B2.out⟩
        case measure => simp [intOf]; omega
      | false =>
        have HH := Lib.hid hh
        have HF : Hid (allB l cs = false) := Lib.hid (all_stop_s _ _ k x HX.out hh)
        clear hh
        go_wp2_with fail
        refine (holds_ref A n c l x _ KN.out hn).mono ?_; rintro e w2 ⟨rfl, hb⟩
        rw [HH.out]
        have B2 := Lib.hid (then_ BN.out hb); clear hb
        go_wp2
        go_ret
        exact ⟨retB HF.out.symm, B2.out⟩
    · obtain rfl : m = k := by omega
      have HF : Hid (allB l cs = true) := Lib.hid (by have h' := HA.out.out; rwa [take_full _ _ GL.out] at h')
      go_wp2
      go_ret
      exact ⟨retB HF.out.symm, HB.out⟩
end Go.Proofs.Ytlffhehpeeiogaa.P
