/- Whether a question holds: the program's way. -/
import Derived.Test.YtgafkpngnoecaaaTxPure
import Derived.Deep.RegionHeld3
import Derived.Laws.EntriesVeiled
namespace Go.Proofs.Ytgafkpngnoecaaa.P
open Go.RowKit Go.Sort
set_option maxHeartbeats 1000000
set_option linter.unusedVariables false
set_option linter.unusedSimpArgs false
set_option maxRecDepth 100000

def sideI (a b : Int) : Int := if a < b then -1 else if b < a then 1 else 0
def sideT (a b : ByteArray) : Int := if tlt a b = true then -1 else if tlt b a = true then 1 else 0
theorem nanI_any (x : Int) (w : World) : Calls Try.prog 110 #[.int .i64 x] w fun e w' => e = .returned (.bool false) ∧ w = w' := by
  have h : (x != x) = false := by simp
  go_enter Try.func110, Try.ntmps110
  go_wp2
  go_ret
  exact ⟨rfl, rfl⟩
theorem nanS_any (x : ByteArray) (w : World) : Calls Try.prog 111 #[.string x] w fun e w' => e = .returned (.bool false) ∧ w = w' := by
  go_enter Try.func111, Try.ntmps111
  go_wp2
  go_ret
  exact ⟨by simp, rfl⟩
theorem retJ {a b : Int} (h : a = b) : Ending.returned (.int .i64 a) = .returned (.int .i64 b) := by rw [h]
theorem cmpI_any (a b : Int) (w : World) : Calls Try.prog 105 #[.int .i64 a, .int .i64 b] w fun e w' => e = .returned (.int .i64 (sideI a b)) ∧ w = w' := by
  by_cases h1 : a < b
  · have HS : Hid (sideI a b = -1) := Lib.hid (if_pos h1)
    go_enter Try.func105, Try.ntmps105
    go_wp2_with (first | (refine (nanI_any a w).mono ?_; rintro e w' ⟨rfl, rfl⟩) | (refine (nanI_any b w).mono ?_; rintro e w' ⟨rfl, rfl⟩))
    go_ret
    exact ⟨retJ HS.out.symm, rfl⟩
  · by_cases h2 : b < a
    · have HS : Hid (sideI a b = 1) := Lib.hid (by unfold sideI; rw [if_neg h1, if_pos h2])
      go_enter Try.func105, Try.ntmps105
      go_wp2_with (first | (refine (nanI_any a w).mono ?_; rintro e w' ⟨rfl, rfl⟩) | (refine (nanI_any b w).mono ?_; rintro e w' ⟨rfl, rfl⟩))
      go_ret
      exact ⟨retJ HS.out.symm, rfl⟩
    · have HS : Hid (sideI a b = 0) := Lib.hid (by unfold sideI; rw [if_neg h1, if_neg h2])
      go_enter Try.func105, Try.ntmps105
      go_wp2_with (first | (refine (nanI_any a w).mono ?_; rintro e w' ⟨rfl, rfl⟩) | (refine (nanI_any b w).mono ?_; rintro e w' ⟨rfl, rfl⟩))
      go_ret
      exact ⟨retJ HS.out.symm, rfl⟩
theorem cmpS_any (a b : ByteArray) (w : World) : Calls Try.prog 106 #[.string a, .string b] w fun e w' => e = .returned (.int .i64 (sideT a b)) ∧ w = w' := by
  cases h1 : tlt a b with
  | true =>
    have HS : Hid (sideT a b = -1) := Lib.hid (if_pos h1)
    unfold tlt at h1
    go_enter Try.func106, Try.ntmps106
    go_wp2_with (first | (refine (nanS_any a w).mono ?_; rintro e w' ⟨rfl, rfl⟩) | (refine (nanS_any b w).mono ?_; rintro e w' ⟨rfl, rfl⟩))
    go_ret
    exact ⟨retJ HS.out.symm, rfl⟩
  | false =>
    cases h2 : tlt b a with
    | true =>
      have HS : Hid (sideT a b = 1) := Lib.hid (by unfold sideT; rw [if_neg (by rw [h1]; simp), if_pos h2])
      have he : teq a b = false := tlt_ne' h2
      unfold tlt at h1 h2
      unfold teq at he
      go_enter Try.func106, Try.ntmps106
      go_wp2_with (first | (refine (nanS_any a w).mono ?_; rintro e w' ⟨rfl, rfl⟩) | (refine (nanS_any b w).mono ?_; rintro e w' ⟨rfl, rfl⟩))
      go_ret
      exact ⟨retJ HS.out.symm, rfl⟩
    | false =>
      have HS : Hid (sideT a b = 0) := Lib.hid (by unfold sideT; rw [if_neg (by rw [h1]; simp), if_neg (by rw [h2]; simp)])
      have he : teq a b = true := teq_iff.2 (tlt_tri h1 h2)
      unfold tlt at h1 h2
      unfold teq at he
      go_enter Try.func106, Try.ntmps106
      go_wp2_with (first | (refine (nanS_any a w).mono ?_; rintro e w' ⟨rfl, rfl⟩) | (refine (nanS_any b w).mono ?_; rintro e w' ⟨rfl, rfl⟩))
      go_ret
      exact ⟨retJ HS.out.symm, rfl⟩
theorem agI_any (a b : Int) (w : World) : Calls Try.prog 96 #[.int .i64 a, .int .i64 b] w fun e w' => e = .returned (.int .i64 (sideI a b)) ∧ w = w' := by
  go_enter Try.func96, Try.ntmps96
  go_wp2_with (refine (cmpI_any a b w).mono ?_; rintro e w' ⟨rfl, rfl⟩)
  go_ret
  exact ⟨rfl, rfl⟩
theorem agS_any (a b : ByteArray) (w : World) : Calls Try.prog 97 #[.string a, .string b] w fun e w' => e = .returned (.int .i64 (sideT a b)) ∧ w = w' := by
  go_enter Try.func97, Try.ntmps97
  go_wp2_with (refine (cmpS_any a b w).mono ?_; rintro e w' ⟨rfl, rfl⟩)
  go_ret
  exact ⟨rfl, rfl⟩
theorem create_any (x : KV) (c : Cm) (w : World) : Calls Try.prog 79 #[x.agg, c.agg] w fun e w' => e = .returned (.int .i64 (sideI x.cre c.n)) ∧ Below w.heap.size w w' := by
  go_enter Try.func79, Try.ntmps79
  go_wp2_with (refine (agI_any x.cre c.n _).mono ?_; rintro e w' ⟨rfl, rfl⟩)
  go_ret
  exact ⟨rfl, then_ (new1 w _) (new1 _ _)⟩
theorem modf_any (x : KV) (c : Cm) (w : World) : Calls Try.prog 80 #[x.agg, c.agg] w fun e w' => e = .returned (.int .i64 (sideI x.mod c.n)) ∧ Below w.heap.size w w' := by
  go_enter Try.func80, Try.ntmps80
  go_wp2_with (refine (agI_any x.mod c.n _).mono ?_; rintro e w' ⟨rfl, rfl⟩)
  go_ret
  exact ⟨rfl, then_ (new1 w _) (new1 _ _)⟩
theorem version_any (x : KV) (c : Cm) (w : World) : Calls Try.prog 81 #[x.agg, c.agg] w fun e w' => e = .returned (.int .i64 (sideI x.ver c.n)) ∧ Below w.heap.size w w' := by
  go_enter Try.func81, Try.ntmps81
  go_wp2_with (refine (agI_any x.ver c.n _).mono ?_; rintro e w' ⟨rfl, rfl⟩)
  go_ret
  exact ⟨rfl, then_ (new1 w _) (new1 _ _)⟩
theorem value_any (x : KV) (c : Cm) (w : World) : Calls Try.prog 82 #[x.agg, c.agg] w fun e w' => e = .returned (.int .i64 (sideT x.val c.val)) ∧ Below w.heap.size w w' := by
  go_enter Try.func82, Try.ntmps82
  go_wp2_with (refine (agS_any x.val c.val _).mono ?_; rintro e w' ⟨rfl, rfl⟩)
  go_ret
  exact ⟨rfl, then_ (new1 w _) (new1 _ _)⟩
theorem side_same (a : Int) (w : World) : Calls Try.prog 83 #[.int .i64 a] w fun e w' => e = .returned (.bool (a == 0)) ∧ w = w' := by
  go_enter Try.func83, Try.ntmps83
  go_wp2
  go_ret
  exact ⟨rfl, rfl⟩
theorem side_below (a : Int) (w : World) : Calls Try.prog 84 #[.int .i64 a] w fun e w' => e = .returned (.bool (decide (a < 0))) ∧ w = w' := by
  go_enter Try.func84, Try.ntmps84
  go_wp2
  go_ret
  exact ⟨rfl, rfl⟩
theorem side_above (a : Int) (w : World) : Calls Try.prog 85 #[.int .i64 a] w fun e w' => e = .returned (.bool (decide (0 < a))) ∧ w = w' := by
  go_enter Try.func85, Try.ntmps85
  go_wp2
  go_ret
  exact ⟨rfl, rfl⟩
theorem mayAsk_any (c : Cm) (w : World) : Calls Try.prog 78 #[c.agg] w fun e w' => e = .returned (.bool (askB c)) ∧ Below w.heap.size w w' := by
  by_cases h1 : 1 ≤ c.what
  · by_cases h2 : c.what ≤ 4
    · by_cases h3 : 1 ≤ c.how
      · have HS : Hid (askB c = decide (c.how ≤ 3)) := Lib.hid (by unfold askB; simp [h1, h2, h3])
        go_enter Try.func78, Try.ntmps78
        go_wp2
        go_ret
        exact ⟨retB HS.out.symm, new1 w _⟩
      · have HS : Hid (askB c = false) := Lib.hid (by unfold askB; simp [h3])
        go_enter Try.func78, Try.ntmps78
        go_wp2
        go_ret
        exact ⟨retB HS.out.symm, new1 w _⟩
    · have HS : Hid (askB c = false) := Lib.hid (by unfold askB; simp [h2])
      go_enter Try.func78, Try.ntmps78
      go_wp2
      go_ret
      exact ⟨retB HS.out.symm, new1 w _⟩
  · have HS : Hid (askB c = false) := Lib.hid (by unfold askB; simp [h1])
    go_enter Try.func78, Try.ntmps78
    go_wp2
    go_ret
    exact ⟨retB HS.out.symm, new1 w _⟩
theorem holds_no (A : Option Addr) (n c : Nat) (l : List KV) (q : Cm) (w : World) (hq : askB q = false) :
    Calls Try.prog 56 #[.slice A n c, q.agg] w fun e w' => e = .returned (.bool (holdsB l q)) ∧ Below w.heap.size w w' := by
  have HR : Hid (holdsB l q = false) := Lib.hid (holds_not hq)
  have HQ := Lib.hid hq
  clear hq
  go_enter Try.func56, Try.ntmps56
  go_wp2_with fail
  refine (mayAsk_any q _).mono ?_; rintro e w1 ⟨rfl, hb⟩
  rw [HQ.out]
  have B1 := Lib.hid (then_ (new1 w _) hb); clear hb
  go_wp2
  go_ret
  exact ⟨retB HR.out.symm, B1.out⟩
theorem find_thing (A : Option Addr) (n c : Nat) (l : List KV) (k : ByteArray) (w : World) (h : KVs w A n c l) (hn : n ≤ 1000000) :
    Calls Try.prog 86 #[.slice A n c, .string k] w fun e w' => ∃ b, e = .returned (.tuple #[(thingL l k).agg, .bool b]) ∧ Below w.heap.size w w' := by
  have t := find_any A n c l k w h hn
  cases hf : findL l k with
  | none =>
    rw [hf] at t
    have hx : thingL l k = ⟨⟨#[]⟩, ⟨#[]⟩, 0, 0, 0, 0⟩ := by unfold thingL; rw [hf]; rfl
    rw [hx]
    exact t.mono fun e w' h => ⟨false, h.none_.1, h.none_.2⟩
  | some y =>
    rw [hf] at t
    have hx : thingL l k = y := by unfold thingL; rw [hf]; rfl
    rw [hx]
    exact t.mono fun e w' h => ⟨true, h.some_.1, h.some_.2⟩
theorem side_eq (a b : Int) : (sideI a b == 0) = decide (a = b) := by
  unfold sideI
  by_cases h1 : a < b
  · rw [if_pos h1, decide_eq_false (by omega)]; rfl
  · by_cases h2 : b < a
    · rw [if_neg h1, if_pos h2, decide_eq_false (by omega)]; rfl
    · rw [if_neg h1, if_neg h2, decide_eq_true (by omega)]; rfl
theorem side_lt (a b : Int) : decide (sideI a b < 0) = decide (a < b) := by
  unfold sideI
  by_cases h1 : a < b
  · rw [if_pos h1, decide_eq_true h1]; rfl
  · by_cases h2 : b < a
    · rw [if_neg h1, if_pos h2, decide_eq_false h1]; rfl
    · rw [if_neg h1, if_neg h2, decide_eq_false h1]; rfl
theorem side_gt (a b : Int) : decide (0 < sideI a b) = decide (b < a) := by
  unfold sideI
  by_cases h1 : a < b
  · rw [if_pos h1, show decide (b < a) = false from decide_eq_false (by omega)]; rfl
  · by_cases h2 : b < a
    · rw [if_neg h1, if_pos h2, show decide (b < a) = true from decide_eq_true h2]; rfl
    · rw [if_neg h1, if_neg h2, show decide (b < a) = false from decide_eq_false h2]; rfl
theorem sideT_eq (a b : ByteArray) : (sideT a b == 0) = teq a b := by
  unfold sideT
  cases h1 : tlt a b with
  | true => rw [if_pos rfl, tlt_ne h1]; rfl
  | false =>
    cases h2 : tlt b a with
    | true => rw [if_neg (by simp), if_pos rfl, tlt_ne' h2]; rfl
    | false => rw [if_neg (by simp), if_neg (by simp), teq_iff.2 (tlt_tri h1 h2)]; rfl
theorem sideT_lt (a b : ByteArray) : decide (sideT a b < 0) = tlt a b := by
  unfold sideT
  cases h1 : tlt a b with
  | true => rw [if_pos rfl]; rfl
  | false =>
    rw [if_neg (by simp)]
    split <;> rfl
theorem sideT_gt (a b : ByteArray) : decide (0 < sideT a b) = tlt b a := by
  unfold sideT
  cases h1 : tlt a b with
  | true => rw [if_pos rfl, tlt_asym h1]; rfl
  | false =>
    rw [if_neg (by simp)]
    cases h2 : tlt b a <;> rfl
theorem numB1 (a b : Int) : numB a 1 b = decide (a = b) := by simp [numB]
theorem numB2 (a b : Int) : numB a 2 b = decide (a < b) := by simp [numB]
theorem numB3 (a b : Int) : numB a 3 b = decide (b < a) := by simp [numB]
theorem txtB1 (a b : ByteArray) : txtB a 1 b = teq a b := by simp [txtB]
theorem txtB2 (a b : ByteArray) : txtB a 2 b = tlt a b := by simp [txtB]
theorem txtB3 (a b : ByteArray) : txtB a 3 b = tlt b a := by simp [txtB]
theorem holds_11 (A : Option Addr) (n c : Nat) (l : List KV) (k v : ByteArray) (nn : Int) (w : World) (h : KVs w A n c l) (hn : n ≤ 1000000) :
    Calls Try.prog 56 #[.slice A n c, (Cm.mk k 1 1 nn v).agg] w fun e w' => e = .returned (.bool (holdsB l ⟨k, 1, 1, nn, v⟩)) ∧ Below w.heap.size w w' := by
  have Q0 := Lib.hid (own_new w #[.string k, .int .i64 1, .int .i64 1, .int .i64 nn, .string v] 56)
  have H0 := Lib.hid (h.keep (new1 w (Cm.obj ⟨k, 1, 1, nn, v⟩ 56)))
  have HQ : Hid (askB ⟨k, 1, 1, nn, v⟩ = true) := Lib.hid (by simp [askB])
  obtain ⟨x, hx⟩ : ∃ x, x = thingL l k := ⟨_, rfl⟩
  have HR : Hid (holdsB l ⟨k, 1, 1, nn, v⟩ = (sideI x.cre nn == 0)) := Lib.hid (by rw [side_eq]; show holdsX (thingL l k) _ = _; rw [← hx]; simp [holdsX, numB1])
  have HX := Lib.hid hx
  clear h hx
  go_enter Try.func56, Try.ntmps56
  go_wp2_with fail
  refine (mayAsk_any ⟨k, 1, 1, nn, v⟩ _).mono ?_; rintro e w1 ⟨rfl, hb⟩
  rw [HQ.out]
  have B1 := Lib.hid (then_ (new1 w _) hb)
  have Q1 := Lib.hid (Q0.out.below hb)
  have H1 := Lib.hid (H0.out.keep hb)
  have hqw := Q1.out.lt
  clear hb
  have q0 := Q1.out.cell 0 _ rfl
  have q1 := Q1.out.cell 1 _ rfl
  have q2 := Q1.out.cell 2 _ rfl
  have q3 := Q1.out.cell 3 _ rfl
  have q4 := Q1.out.cell 4 _ rfl
  have b2 := then_ (new1 w1 (.cells #[.nilFunc, .func (.func 79) #[] #[], .func (.func 80) #[] #[], .func (.func 81) #[] #[], .func (.func 82) #[] #[]] 108)) (new1 _ (.cells #[.nilFunc, .func (.func 83) #[] #[], .func (.func 84) #[] #[], .func (.func 85) #[] #[]] 111))
  have H2 := Lib.hid (H1.out.keep b2)
  have Q2 := Lib.hid (Q1.out.below b2)
  have W2 := Lib.hid ((own_new w1 #[.nilFunc, .func (.func 79) #[] #[], .func (.func 80) #[] #[], .func (.func 81) #[] #[], .func (.func 82) #[] #[]] 108).alloc (.cells #[.nilFunc, .func (.func 83) #[] #[], .func (.func 84) #[] #[], .func (.func 85) #[] #[]] 111))
  have O2 := Lib.hid (own_new2 w1 (.cells #[.nilFunc, .func (.func 79) #[] #[], .func (.func 80) #[] #[], .func (.func 81) #[] #[], .func (.func 82) #[] #[]] 108) #[.nilFunc, .func (.func 83) #[] #[], .func (.func 84) #[] #[], .func (.func 85) #[] #[]] 111)
  have B2 := Lib.hid (then_ B1.out b2)
  clear b2
  go_wp2_with fail
  refine (find_thing A n c l k _ H2.out hn).mono ?_; rintro e w3 ⟨b, rfl, hb⟩
  rw [← HX.out]
  have S3 := Lib.hid (hb.trans ((new1 w3 (x.obj 63)).mono hb.size))
  clear hb q0 q1 q2 q3 q4
  obtain ⟨W4, hW4⟩ : ∃ W4, W4 = w3.alloc (x.obj 63) := ⟨_, rfl⟩
  have X4 : Hid (Own W4 w3.heap.size 63 #[.string x.key, .string x.val, .int .i64 x.cre, .int .i64 x.mod, .int .i64 x.ver, .int .i64 x.lea]) := Lib.hid (by rw [hW4]; exact own_new _ _ _)
  rw [← hW4] at S3
  go_wp2
  rw [← hW4]
  clear hW4
  have B4 := Lib.hid (then_ B2.out S3.out)
  have Q4 := Lib.hid (Q2.out.below S3.out)
  have W4' := Lib.hid (W2.out.below S3.out)
  have O4 := Lib.hid (O2.out.below S3.out)
  have l1 := Q4.out.lt; have l2 := W4'.out.lt; have l3 := O4.out.lt; have l4 := X4.out.lt
  have q0 := Q4.out.cell 0 _ rfl
  have q1 := Q4.out.cell 1 _ rfl
  have q2 := Q4.out.cell 2 _ rfl
  have q3 := Q4.out.cell 3 _ rfl
  have q4 := Q4.out.cell 4 _ rfl
  have v1 := W4'.out.cell 1 _ rfl
  have v2 := O4.out.cell 1 _ rfl
  have x0 := X4.out.cell 0 _ rfl
  have x1 := X4.out.cell 1 _ rfl
  have x2 := X4.out.cell 2 _ rfl
  have x3 := X4.out.cell 3 _ rfl
  have x4 := X4.out.cell 4 _ rfl
  have x5 := X4.out.cell 5 _ rfl
  go_region_held3 (fun w' => w'.cell? ⟨w.heap.size, 0, none⟩ = some (.string k) ∧ w'.cell? ⟨w.heap.size, 1, none⟩ = some (.int .i64 1) ∧ w'.cell? ⟨w.heap.size, 2, none⟩ = some (.int .i64 1) ∧ w'.cell? ⟨w.heap.size, 3, none⟩ = some (.int .i64 nn) ∧ w'.cell? ⟨w.heap.size, 4, none⟩ = some (.string v) ∧ w'.cell? ⟨w1.heap.size, 1, none⟩ = some (.func (.func 79) #[] #[]) ∧ w'.cell? ⟨w1.heap.size + 1, 1, none⟩ = some (.func (.func 83) #[] #[]) ∧ w'.cell? ⟨w3.heap.size, 0, none⟩ = some (.string x.key) ∧ w'.cell? ⟨w3.heap.size, 1, none⟩ = some (.string x.val) ∧ w'.cell? ⟨w3.heap.size, 2, none⟩ = some (.int .i64 x.cre) ∧ w'.cell? ⟨w3.heap.size, 3, none⟩ = some (.int .i64 x.mod) ∧ w'.cell? ⟨w3.heap.size, 4, none⟩ = some (.int .i64 x.ver) ∧ w'.cell? ⟨w3.heap.size, 5, none⟩ = some (.int .i64 x.lea)) (go_keep) (first
    | (go_at_call 79; refine (create_any x ⟨k, 1, 1, nn, v⟩ _).mono ?_; rintro e w5 ⟨rfl, hb⟩; have HB5 := Lib.hid (then_ (new_drew W4) hb); clear hb; obtain ⟨hc, hf⟩ := bcell HB5.out)
    | (go_at_call 83; refine (side_same (sideI x.cre nn) _).mono ?_; rintro e w' ⟨rfl, rfl⟩))
  all_goals
    have BX := Lib.hid (then_ B4.out HB5.out)
    go_wp2
    go_ret
    exact ⟨retB HR.out.symm, BX.out⟩
theorem holds_12 (A : Option Addr) (n c : Nat) (l : List KV) (k v : ByteArray) (nn : Int) (w : World) (h : KVs w A n c l) (hn : n ≤ 1000000) :
    Calls Try.prog 56 #[.slice A n c, (Cm.mk k 1 2 nn v).agg] w fun e w' => e = .returned (.bool (holdsB l ⟨k, 1, 2, nn, v⟩)) ∧ Below w.heap.size w w' := by
  have Q0 := Lib.hid (own_new w #[.string k, .int .i64 1, .int .i64 2, .int .i64 nn, .string v] 56)
  have H0 := Lib.hid (h.keep (new1 w (Cm.obj ⟨k, 1, 2, nn, v⟩ 56)))
  have HQ : Hid (askB ⟨k, 1, 2, nn, v⟩ = true) := Lib.hid (by simp [askB])
  obtain ⟨x, hx⟩ : ∃ x, x = thingL l k := ⟨_, rfl⟩
  have HR : Hid (holdsB l ⟨k, 1, 2, nn, v⟩ = decide (sideI x.cre nn < 0)) := Lib.hid (by rw [side_lt]; show holdsX (thingL l k) _ = _; rw [← hx]; simp [holdsX, numB2])
  have HX := Lib.hid hx
  clear h hx
  go_enter Try.func56, Try.ntmps56
  go_wp2_with fail
  refine (mayAsk_any ⟨k, 1, 2, nn, v⟩ _).mono ?_; rintro e w1 ⟨rfl, hb⟩
  rw [HQ.out]
  have B1 := Lib.hid (then_ (new1 w _) hb)
  have Q1 := Lib.hid (Q0.out.below hb)
  have H1 := Lib.hid (H0.out.keep hb)
  have hqw := Q1.out.lt
  clear hb
  have q0 := Q1.out.cell 0 _ rfl
  have q1 := Q1.out.cell 1 _ rfl
  have q2 := Q1.out.cell 2 _ rfl
  have q3 := Q1.out.cell 3 _ rfl
  have q4 := Q1.out.cell 4 _ rfl
  have b2 := then_ (new1 w1 (.cells #[.nilFunc, .func (.func 79) #[] #[], .func (.func 80) #[] #[], .func (.func 81) #[] #[], .func (.func 82) #[] #[]] 108)) (new1 _ (.cells #[.nilFunc, .func (.func 83) #[] #[], .func (.func 84) #[] #[], .func (.func 85) #[] #[]] 111))
  have H2 := Lib.hid (H1.out.keep b2)
  have Q2 := Lib.hid (Q1.out.below b2)
  have W2 := Lib.hid ((own_new w1 #[.nilFunc, .func (.func 79) #[] #[], .func (.func 80) #[] #[], .func (.func 81) #[] #[], .func (.func 82) #[] #[]] 108).alloc (.cells #[.nilFunc, .func (.func 83) #[] #[], .func (.func 84) #[] #[], .func (.func 85) #[] #[]] 111))
  have O2 := Lib.hid (own_new2 w1 (.cells #[.nilFunc, .func (.func 79) #[] #[], .func (.func 80) #[] #[], .func (.func 81) #[] #[], .func (.func 82) #[] #[]] 108) #[.nilFunc, .func (.func 83) #[] #[], .func (.func 84) #[] #[], .func (.func 85) #[] #[]] 111)
  have B2 := Lib.hid (then_ B1.out b2)
  clear b2
  go_wp2_with fail
  refine (find_thing A n c l k _ H2.out hn).mono ?_; rintro e w3 ⟨b, rfl, hb⟩
  rw [← HX.out]
  have S3 := Lib.hid (hb.trans ((new1 w3 (x.obj 63)).mono hb.size))
  clear hb q0 q1 q2 q3 q4
  obtain ⟨W4, hW4⟩ : ∃ W4, W4 = w3.alloc (x.obj 63) := ⟨_, rfl⟩
  have X4 : Hid (Own W4 w3.heap.size 63 #[.string x.key, .string x.val, .int .i64 x.cre, .int .i64 x.mod, .int .i64 x.ver, .int .i64 x.lea]) := Lib.hid (by rw [hW4]; exact own_new _ _ _)
  rw [← hW4] at S3
  go_wp2
  rw [← hW4]
  clear hW4
  have B4 := Lib.hid (then_ B2.out S3.out)
  have Q4 := Lib.hid (Q2.out.below S3.out)
  have W4' := Lib.hid (W2.out.below S3.out)
  have O4 := Lib.hid (O2.out.below S3.out)
  have l1 := Q4.out.lt; have l2 := W4'.out.lt; have l3 := O4.out.lt; have l4 := X4.out.lt
  have q0 := Q4.out.cell 0 _ rfl
  have q1 := Q4.out.cell 1 _ rfl
  have q2 := Q4.out.cell 2 _ rfl
  have q3 := Q4.out.cell 3 _ rfl
  have q4 := Q4.out.cell 4 _ rfl
  have v1 := W4'.out.cell 1 _ rfl
  have v2 := O4.out.cell 2 _ rfl
  have x0 := X4.out.cell 0 _ rfl
  have x1 := X4.out.cell 1 _ rfl
  have x2 := X4.out.cell 2 _ rfl
  have x3 := X4.out.cell 3 _ rfl
  have x4 := X4.out.cell 4 _ rfl
  have x5 := X4.out.cell 5 _ rfl
  go_region_held3 (fun w' => w'.cell? ⟨w.heap.size, 0, none⟩ = some (.string k) ∧ w'.cell? ⟨w.heap.size, 1, none⟩ = some (.int .i64 1) ∧ w'.cell? ⟨w.heap.size, 2, none⟩ = some (.int .i64 2) ∧ w'.cell? ⟨w.heap.size, 3, none⟩ = some (.int .i64 nn) ∧ w'.cell? ⟨w.heap.size, 4, none⟩ = some (.string v) ∧ w'.cell? ⟨w1.heap.size, 1, none⟩ = some (.func (.func 79) #[] #[]) ∧ w'.cell? ⟨w1.heap.size + 1, 2, none⟩ = some (.func (.func 84) #[] #[]) ∧ w'.cell? ⟨w3.heap.size, 0, none⟩ = some (.string x.key) ∧ w'.cell? ⟨w3.heap.size, 1, none⟩ = some (.string x.val) ∧ w'.cell? ⟨w3.heap.size, 2, none⟩ = some (.int .i64 x.cre) ∧ w'.cell? ⟨w3.heap.size, 3, none⟩ = some (.int .i64 x.mod) ∧ w'.cell? ⟨w3.heap.size, 4, none⟩ = some (.int .i64 x.ver) ∧ w'.cell? ⟨w3.heap.size, 5, none⟩ = some (.int .i64 x.lea)) (go_keep) (first
    | (go_at_call 79; refine (create_any x ⟨k, 1, 2, nn, v⟩ _).mono ?_; rintro e w5 ⟨rfl, hb⟩; have HB5 := Lib.hid (then_ (new_drew W4) hb); clear hb; obtain ⟨hc, hf⟩ := bcell HB5.out)
    | (go_at_call 84; refine (side_below (sideI x.cre nn) _).mono ?_; rintro e w' ⟨rfl, rfl⟩))
  all_goals
    have BX := Lib.hid (then_ B4.out HB5.out)
    go_wp2
    go_ret
    exact ⟨retB HR.out.symm, BX.out⟩
theorem holds_13 (A : Option Addr) (n c : Nat) (l : List KV) (k v : ByteArray) (nn : Int) (w : World) (h : KVs w A n c l) (hn : n ≤ 1000000) :
    Calls Try.prog 56 #[.slice A n c, (Cm.mk k 1 3 nn v).agg] w fun e w' => e = .returned (.bool (holdsB l ⟨k, 1, 3, nn, v⟩)) ∧ Below w.heap.size w w' := by
  have Q0 := Lib.hid (own_new w #[.string k, .int .i64 1, .int .i64 3, .int .i64 nn, .string v] 56)
  have H0 := Lib.hid (h.keep (new1 w (Cm.obj ⟨k, 1, 3, nn, v⟩ 56)))
  have HQ : Hid (askB ⟨k, 1, 3, nn, v⟩ = true) := Lib.hid (by simp [askB])
  obtain ⟨x, hx⟩ : ∃ x, x = thingL l k := ⟨_, rfl⟩
  have HR : Hid (holdsB l ⟨k, 1, 3, nn, v⟩ = decide (0 < sideI x.cre nn)) := Lib.hid (by rw [side_gt]; show holdsX (thingL l k) _ = _; rw [← hx]; simp [holdsX, numB3])
  have HX := Lib.hid hx
  clear h hx
  go_enter Try.func56, Try.ntmps56
  go_wp2_with fail
  refine (mayAsk_any ⟨k, 1, 3, nn, v⟩ _).mono ?_; rintro e w1 ⟨rfl, hb⟩
  rw [HQ.out]
  have B1 := Lib.hid (then_ (new1 w _) hb)
  have Q1 := Lib.hid (Q0.out.below hb)
  have H1 := Lib.hid (H0.out.keep hb)
  have hqw := Q1.out.lt
  clear hb
  have q0 := Q1.out.cell 0 _ rfl
  have q1 := Q1.out.cell 1 _ rfl
  have q2 := Q1.out.cell 2 _ rfl
  have q3 := Q1.out.cell 3 _ rfl
  have q4 := Q1.out.cell 4 _ rfl
  have b2 := then_ (new1 w1 (.cells #[.nilFunc, .func (.func 79) #[] #[], .func (.func 80) #[] #[], .func (.func 81) #[] #[], .func (.func 82) #[] #[]] 108)) (new1 _ (.cells #[.nilFunc, .func (.func 83) #[] #[], .func (.func 84) #[] #[], .func (.func 85) #[] #[]] 111))
  have H2 := Lib.hid (H1.out.keep b2)
  have Q2 := Lib.hid (Q1.out.below b2)
  have W2 := Lib.hid ((own_new w1 #[.nilFunc, .func (.func 79) #[] #[], .func (.func 80) #[] #[], .func (.func 81) #[] #[], .func (.func 82) #[] #[]] 108).alloc (.cells #[.nilFunc, .func (.func 83) #[] #[], .func (.func 84) #[] #[], .func (.func 85) #[] #[]] 111))
  have O2 := Lib.hid (own_new2 w1 (.cells #[.nilFunc, .func (.func 79) #[] #[], .func (.func 80) #[] #[], .func (.func 81) #[] #[], .func (.func 82) #[] #[]] 108) #[.nilFunc, .func (.func 83) #[] #[], .func (.func 84) #[] #[], .func (.func 85) #[] #[]] 111)
  have B2 := Lib.hid (then_ B1.out b2)
  clear b2
  go_wp2_with fail
  refine (find_thing A n c l k _ H2.out hn).mono ?_; rintro e w3 ⟨b, rfl, hb⟩
  rw [← HX.out]
  have S3 := Lib.hid (hb.trans ((new1 w3 (x.obj 63)).mono hb.size))
  clear hb q0 q1 q2 q3 q4
  obtain ⟨W4, hW4⟩ : ∃ W4, W4 = w3.alloc (x.obj 63) := ⟨_, rfl⟩
  have X4 : Hid (Own W4 w3.heap.size 63 #[.string x.key, .string x.val, .int .i64 x.cre, .int .i64 x.mod, .int .i64 x.ver, .int .i64 x.lea]) := Lib.hid (by rw [hW4]; exact own_new _ _ _)
  rw [← hW4] at S3
  go_wp2
  rw [← hW4]
  clear hW4
  have B4 := Lib.hid (then_ B2.out S3.out)
  have Q4 := Lib.hid (Q2.out.below S3.out)
  have W4' := Lib.hid (W2.out.below S3.out)
  have O4 := Lib.hid (O2.out.below S3.out)
  have l1 := Q4.out.lt; have l2 := W4'.out.lt; have l3 := O4.out.lt; have l4 := X4.out.lt
  have q0 := Q4.out.cell 0 _ rfl
  have q1 := Q4.out.cell 1 _ rfl
  have q2 := Q4.out.cell 2 _ rfl
  have q3 := Q4.out.cell 3 _ rfl
  have q4 := Q4.out.cell 4 _ rfl
  have v1 := W4'.out.cell 1 _ rfl
  have v2 := O4.out.cell 3 _ rfl
  have x0 := X4.out.cell 0 _ rfl
  have x1 := X4.out.cell 1 _ rfl
  have x2 := X4.out.cell 2 _ rfl
  have x3 := X4.out.cell 3 _ rfl
  have x4 := X4.out.cell 4 _ rfl
  have x5 := X4.out.cell 5 _ rfl
  go_region_held3 (fun w' => w'.cell? ⟨w.heap.size, 0, none⟩ = some (.string k) ∧ w'.cell? ⟨w.heap.size, 1, none⟩ = some (.int .i64 1) ∧ w'.cell? ⟨w.heap.size, 2, none⟩ = some (.int .i64 3) ∧ w'.cell? ⟨w.heap.size, 3, none⟩ = some (.int .i64 nn) ∧ w'.cell? ⟨w.heap.size, 4, none⟩ = some (.string v) ∧ w'.cell? ⟨w1.heap.size, 1, none⟩ = some (.func (.func 79) #[] #[]) ∧ w'.cell? ⟨w1.heap.size + 1, 3, none⟩ = some (.func (.func 85) #[] #[]) ∧ w'.cell? ⟨w3.heap.size, 0, none⟩ = some (.string x.key) ∧ w'.cell? ⟨w3.heap.size, 1, none⟩ = some (.string x.val) ∧ w'.cell? ⟨w3.heap.size, 2, none⟩ = some (.int .i64 x.cre) ∧ w'.cell? ⟨w3.heap.size, 3, none⟩ = some (.int .i64 x.mod) ∧ w'.cell? ⟨w3.heap.size, 4, none⟩ = some (.int .i64 x.ver) ∧ w'.cell? ⟨w3.heap.size, 5, none⟩ = some (.int .i64 x.lea)) (go_keep) (first
    | (go_at_call 79; refine (create_any x ⟨k, 1, 3, nn, v⟩ _).mono ?_; rintro e w5 ⟨rfl, hb⟩; have HB5 := Lib.hid (then_ (new_drew W4) hb); clear hb; obtain ⟨hc, hf⟩ := bcell HB5.out)
    | (go_at_call 85; refine (side_above (sideI x.cre nn) _).mono ?_; rintro e w' ⟨rfl, rfl⟩))
  all_goals
    have BX := Lib.hid (then_ B4.out HB5.out)
    go_wp2
    go_ret
    exact ⟨retB HR.out.symm, BX.out⟩
theorem holds_21 (A : Option Addr) (n c : Nat) (l : List KV) (k v : ByteArray) (nn : Int) (w : World) (h : KVs w A n c l) (hn : n ≤ 1000000) :
    Calls Try.prog 56 #[.slice A n c, (Cm.mk k 2 1 nn v).agg] w fun e w' => e = .returned (.bool (holdsB l ⟨k, 2, 1, nn, v⟩)) ∧ Below w.heap.size w w' := by
  have Q0 := Lib.hid (own_new w #[.string k, .int .i64 2, .int .i64 1, .int .i64 nn, .string v] 56)
  have H0 := Lib.hid (h.keep (new1 w (Cm.obj ⟨k, 2, 1, nn, v⟩ 56)))
  have HQ : Hid (askB ⟨k, 2, 1, nn, v⟩ = true) := Lib.hid (by simp [askB])
  obtain ⟨x, hx⟩ : ∃ x, x = thingL l k := ⟨_, rfl⟩
  have HR : Hid (holdsB l ⟨k, 2, 1, nn, v⟩ = (sideI x.mod nn == 0)) := Lib.hid (by rw [side_eq]; show holdsX (thingL l k) _ = _; rw [← hx]; simp [holdsX, numB1])
  have HX := Lib.hid hx
  clear h hx
  go_enter Try.func56, Try.ntmps56
  go_wp2_with fail
  refine (mayAsk_any ⟨k, 2, 1, nn, v⟩ _).mono ?_; rintro e w1 ⟨rfl, hb⟩
  rw [HQ.out]
  have B1 := Lib.hid (then_ (new1 w _) hb)
  have Q1 := Lib.hid (Q0.out.below hb)
  have H1 := Lib.hid (H0.out.keep hb)
  have hqw := Q1.out.lt
  clear hb
  have q0 := Q1.out.cell 0 _ rfl
  have q1 := Q1.out.cell 1 _ rfl
  have q2 := Q1.out.cell 2 _ rfl
  have q3 := Q1.out.cell 3 _ rfl
  have q4 := Q1.out.cell 4 _ rfl
  have b2 := then_ (new1 w1 (.cells #[.nilFunc, .func (.func 79) #[] #[], .func (.func 80) #[] #[], .func (.func 81) #[] #[], .func (.func 82) #[] #[]] 108)) (new1 _ (.cells #[.nilFunc, .func (.func 83) #[] #[], .func (.func 84) #[] #[], .func (.func 85) #[] #[]] 111))
  have H2 := Lib.hid (H1.out.keep b2)
  have Q2 := Lib.hid (Q1.out.below b2)
  have W2 := Lib.hid ((own_new w1 #[.nilFunc, .func (.func 79) #[] #[], .func (.func 80) #[] #[], .func (.func 81) #[] #[], .func (.func 82) #[] #[]] 108).alloc (.cells #[.nilFunc, .func (.func 83) #[] #[], .func (.func 84) #[] #[], .func (.func 85) #[] #[]] 111))
  have O2 := Lib.hid (own_new2 w1 (.cells #[.nilFunc, .func (.func 79) #[] #[], .func (.func 80) #[] #[], .func (.func 81) #[] #[], .func (.func 82) #[] #[]] 108) #[.nilFunc, .func (.func 83) #[] #[], .func (.func 84) #[] #[], .func (.func 85) #[] #[]] 111)
  have B2 := Lib.hid (then_ B1.out b2)
  clear b2
  go_wp2_with fail
  refine (find_thing A n c l k _ H2.out hn).mono ?_; rintro e w3 ⟨b, rfl, hb⟩
  rw [← HX.out]
  have S3 := Lib.hid (hb.trans ((new1 w3 (x.obj 63)).mono hb.size))
  clear hb q0 q1 q2 q3 q4
  obtain ⟨W4, hW4⟩ : ∃ W4, W4 = w3.alloc (x.obj 63) := ⟨_, rfl⟩
  have X4 : Hid (Own W4 w3.heap.size 63 #[.string x.key, .string x.val, .int .i64 x.cre, .int .i64 x.mod, .int .i64 x.ver, .int .i64 x.lea]) := Lib.hid (by rw [hW4]; exact own_new _ _ _)
  rw [← hW4] at S3
  go_wp2
  rw [← hW4]
  clear hW4
  have B4 := Lib.hid (then_ B2.out S3.out)
  have Q4 := Lib.hid (Q2.out.below S3.out)
  have W4' := Lib.hid (W2.out.below S3.out)
  have O4 := Lib.hid (O2.out.below S3.out)
  have l1 := Q4.out.lt; have l2 := W4'.out.lt; have l3 := O4.out.lt; have l4 := X4.out.lt
  have q0 := Q4.out.cell 0 _ rfl
  have q1 := Q4.out.cell 1 _ rfl
  have q2 := Q4.out.cell 2 _ rfl
  have q3 := Q4.out.cell 3 _ rfl
  have q4 := Q4.out.cell 4 _ rfl
  have v1 := W4'.out.cell 2 _ rfl
  have v2 := O4.out.cell 1 _ rfl
  have x0 := X4.out.cell 0 _ rfl
  have x1 := X4.out.cell 1 _ rfl
  have x2 := X4.out.cell 2 _ rfl
  have x3 := X4.out.cell 3 _ rfl
  have x4 := X4.out.cell 4 _ rfl
  have x5 := X4.out.cell 5 _ rfl
  go_region_held3 (fun w' => w'.cell? ⟨w.heap.size, 0, none⟩ = some (.string k) ∧ w'.cell? ⟨w.heap.size, 1, none⟩ = some (.int .i64 2) ∧ w'.cell? ⟨w.heap.size, 2, none⟩ = some (.int .i64 1) ∧ w'.cell? ⟨w.heap.size, 3, none⟩ = some (.int .i64 nn) ∧ w'.cell? ⟨w.heap.size, 4, none⟩ = some (.string v) ∧ w'.cell? ⟨w1.heap.size, 2, none⟩ = some (.func (.func 80) #[] #[]) ∧ w'.cell? ⟨w1.heap.size + 1, 1, none⟩ = some (.func (.func 83) #[] #[]) ∧ w'.cell? ⟨w3.heap.size, 0, none⟩ = some (.string x.key) ∧ w'.cell? ⟨w3.heap.size, 1, none⟩ = some (.string x.val) ∧ w'.cell? ⟨w3.heap.size, 2, none⟩ = some (.int .i64 x.cre) ∧ w'.cell? ⟨w3.heap.size, 3, none⟩ = some (.int .i64 x.mod) ∧ w'.cell? ⟨w3.heap.size, 4, none⟩ = some (.int .i64 x.ver) ∧ w'.cell? ⟨w3.heap.size, 5, none⟩ = some (.int .i64 x.lea)) (go_keep) (first
    | (go_at_call 80; refine (modf_any x ⟨k, 2, 1, nn, v⟩ _).mono ?_; rintro e w5 ⟨rfl, hb⟩; have HB5 := Lib.hid (then_ (new_drew W4) hb); clear hb; obtain ⟨hc, hf⟩ := bcell HB5.out)
    | (go_at_call 83; refine (side_same (sideI x.mod nn) _).mono ?_; rintro e w' ⟨rfl, rfl⟩))
  all_goals
    have BX := Lib.hid (then_ B4.out HB5.out)
    go_wp2
    go_ret
    exact ⟨retB HR.out.symm, BX.out⟩
theorem holds_22 (A : Option Addr) (n c : Nat) (l : List KV) (k v : ByteArray) (nn : Int) (w : World) (h : KVs w A n c l) (hn : n ≤ 1000000) :
    Calls Try.prog 56 #[.slice A n c, (Cm.mk k 2 2 nn v).agg] w fun e w' => e = .returned (.bool (holdsB l ⟨k, 2, 2, nn, v⟩)) ∧ Below w.heap.size w w' := by
  have Q0 := Lib.hid (own_new w #[.string k, .int .i64 2, .int .i64 2, .int .i64 nn, .string v] 56)
  have H0 := Lib.hid (h.keep (new1 w (Cm.obj ⟨k, 2, 2, nn, v⟩ 56)))
  have HQ : Hid (askB ⟨k, 2, 2, nn, v⟩ = true) := Lib.hid (by simp [askB])
  obtain ⟨x, hx⟩ : ∃ x, x = thingL l k := ⟨_, rfl⟩
  have HR : Hid (holdsB l ⟨k, 2, 2, nn, v⟩ = decide (sideI x.mod nn < 0)) := Lib.hid (by rw [side_lt]; show holdsX (thingL l k) _ = _; rw [← hx]; simp [holdsX, numB2])
  have HX := Lib.hid hx
  clear h hx
  go_enter Try.func56, Try.ntmps56
  go_wp2_with fail
  refine (mayAsk_any ⟨k, 2, 2, nn, v⟩ _).mono ?_; rintro e w1 ⟨rfl, hb⟩
  rw [HQ.out]
  have B1 := Lib.hid (then_ (new1 w _) hb)
  have Q1 := Lib.hid (Q0.out.below hb)
  have H1 := Lib.hid (H0.out.keep hb)
  have hqw := Q1.out.lt
  clear hb
  have q0 := Q1.out.cell 0 _ rfl
  have q1 := Q1.out.cell 1 _ rfl
  have q2 := Q1.out.cell 2 _ rfl
  have q3 := Q1.out.cell 3 _ rfl
  have q4 := Q1.out.cell 4 _ rfl
  have b2 := then_ (new1 w1 (.cells #[.nilFunc, .func (.func 79) #[] #[], .func (.func 80) #[] #[], .func (.func 81) #[] #[], .func (.func 82) #[] #[]] 108)) (new1 _ (.cells #[.nilFunc, .func (.func 83) #[] #[], .func (.func 84) #[] #[], .func (.func 85) #[] #[]] 111))
  have H2 := Lib.hid (H1.out.keep b2)
  have Q2 := Lib.hid (Q1.out.below b2)
  have W2 := Lib.hid ((own_new w1 #[.nilFunc, .func (.func 79) #[] #[], .func (.func 80) #[] #[], .func (.func 81) #[] #[], .func (.func 82) #[] #[]] 108).alloc (.cells #[.nilFunc, .func (.func 83) #[] #[], .func (.func 84) #[] #[], .func (.func 85) #[] #[]] 111))
  have O2 := Lib.hid (own_new2 w1 (.cells #[.nilFunc, .func (.func 79) #[] #[], .func (.func 80) #[] #[], .func (.func 81) #[] #[], .func (.func 82) #[] #[]] 108) #[.nilFunc, .func (.func 83) #[] #[], .func (.func 84) #[] #[], .func (.func 85) #[] #[]] 111)
  have B2 := Lib.hid (then_ B1.out b2)
  clear b2
  go_wp2_with fail
  refine (find_thing A n c l k _ H2.out hn).mono ?_; rintro e w3 ⟨b, rfl, hb⟩
  rw [← HX.out]
  have S3 := Lib.hid (hb.trans ((new1 w3 (x.obj 63)).mono hb.size))
  clear hb q0 q1 q2 q3 q4
  obtain ⟨W4, hW4⟩ : ∃ W4, W4 = w3.alloc (x.obj 63) := ⟨_, rfl⟩
  have X4 : Hid (Own W4 w3.heap.size 63 #[.string x.key, .string x.val, .int .i64 x.cre, .int .i64 x.mod, .int .i64 x.ver, .int .i64 x.lea]) := Lib.hid (by rw [hW4]; exact own_new _ _ _)
  rw [← hW4] at S3
  go_wp2
  rw [← hW4]
  clear hW4
  have B4 := Lib.hid (then_ B2.out S3.out)
  have Q4 := Lib.hid (Q2.out.below S3.out)
  have W4' := Lib.hid (W2.out.below S3.out)
  have O4 := Lib.hid (O2.out.below S3.out)
  have l1 := Q4.out.lt; have l2 := W4'.out.lt; have l3 := O4.out.lt; have l4 := X4.out.lt
  have q0 := Q4.out.cell 0 _ rfl
  have q1 := Q4.out.cell 1 _ rfl
  have q2 := Q4.out.cell 2 _ rfl
  have q3 := Q4.out.cell 3 _ rfl
  have q4 := Q4.out.cell 4 _ rfl
  have v1 := W4'.out.cell 2 _ rfl
  have v2 := O4.out.cell 2 _ rfl
  have x0 := X4.out.cell 0 _ rfl
  have x1 := X4.out.cell 1 _ rfl
  have x2 := X4.out.cell 2 _ rfl
  have x3 := X4.out.cell 3 _ rfl
  have x4 := X4.out.cell 4 _ rfl
  have x5 := X4.out.cell 5 _ rfl
  go_region_held3 (fun w' => w'.cell? ⟨w.heap.size, 0, none⟩ = some (.string k) ∧ w'.cell? ⟨w.heap.size, 1, none⟩ = some (.int .i64 2) ∧ w'.cell? ⟨w.heap.size, 2, none⟩ = some (.int .i64 2) ∧ w'.cell? ⟨w.heap.size, 3, none⟩ = some (.int .i64 nn) ∧ w'.cell? ⟨w.heap.size, 4, none⟩ = some (.string v) ∧ w'.cell? ⟨w1.heap.size, 2, none⟩ = some (.func (.func 80) #[] #[]) ∧ w'.cell? ⟨w1.heap.size + 1, 2, none⟩ = some (.func (.func 84) #[] #[]) ∧ w'.cell? ⟨w3.heap.size, 0, none⟩ = some (.string x.key) ∧ w'.cell? ⟨w3.heap.size, 1, none⟩ = some (.string x.val) ∧ w'.cell? ⟨w3.heap.size, 2, none⟩ = some (.int .i64 x.cre) ∧ w'.cell? ⟨w3.heap.size, 3, none⟩ = some (.int .i64 x.mod) ∧ w'.cell? ⟨w3.heap.size, 4, none⟩ = some (.int .i64 x.ver) ∧ w'.cell? ⟨w3.heap.size, 5, none⟩ = some (.int .i64 x.lea)) (go_keep) (first
    | (go_at_call 80; refine (modf_any x ⟨k, 2, 2, nn, v⟩ _).mono ?_; rintro e w5 ⟨rfl, hb⟩; have HB5 := Lib.hid (then_ (new_drew W4) hb); clear hb; obtain ⟨hc, hf⟩ := bcell HB5.out)
    | (go_at_call 84; refine (side_below (sideI x.mod nn) _).mono ?_; rintro e w' ⟨rfl, rfl⟩))
  all_goals
    have BX := Lib.hid (then_ B4.out HB5.out)
    go_wp2
    go_ret
    exact ⟨retB HR.out.symm, BX.out⟩
theorem holds_23 (A : Option Addr) (n c : Nat) (l : List KV) (k v : ByteArray) (nn : Int) (w : World) (h : KVs w A n c l) (hn : n ≤ 1000000) :
    Calls Try.prog 56 #[.slice A n c, (Cm.mk k 2 3 nn v).agg] w fun e w' => e = .returned (.bool (holdsB l ⟨k, 2, 3, nn, v⟩)) ∧ Below w.heap.size w w' := by
  have Q0 := Lib.hid (own_new w #[.string k, .int .i64 2, .int .i64 3, .int .i64 nn, .string v] 56)
  have H0 := Lib.hid (h.keep (new1 w (Cm.obj ⟨k, 2, 3, nn, v⟩ 56)))
  have HQ : Hid (askB ⟨k, 2, 3, nn, v⟩ = true) := Lib.hid (by simp [askB])
  obtain ⟨x, hx⟩ : ∃ x, x = thingL l k := ⟨_, rfl⟩
  have HR : Hid (holdsB l ⟨k, 2, 3, nn, v⟩ = decide (0 < sideI x.mod nn)) := Lib.hid (by rw [side_gt]; show holdsX (thingL l k) _ = _; rw [← hx]; simp [holdsX, numB3])
  have HX := Lib.hid hx
  clear h hx
  go_enter Try.func56, Try.ntmps56
  go_wp2_with fail
  refine (mayAsk_any ⟨k, 2, 3, nn, v⟩ _).mono ?_; rintro e w1 ⟨rfl, hb⟩
  rw [HQ.out]
  have B1 := Lib.hid (then_ (new1 w _) hb)
  have Q1 := Lib.hid (Q0.out.below hb)
  have H1 := Lib.hid (H0.out.keep hb)
  have hqw := Q1.out.lt
  clear hb
  have q0 := Q1.out.cell 0 _ rfl
  have q1 := Q1.out.cell 1 _ rfl
  have q2 := Q1.out.cell 2 _ rfl
  have q3 := Q1.out.cell 3 _ rfl
  have q4 := Q1.out.cell 4 _ rfl
  have b2 := then_ (new1 w1 (.cells #[.nilFunc, .func (.func 79) #[] #[], .func (.func 80) #[] #[], .func (.func 81) #[] #[], .func (.func 82) #[] #[]] 108)) (new1 _ (.cells #[.nilFunc, .func (.func 83) #[] #[], .func (.func 84) #[] #[], .func (.func 85) #[] #[]] 111))
  have H2 := Lib.hid (H1.out.keep b2)
  have Q2 := Lib.hid (Q1.out.below b2)
  have W2 := Lib.hid ((own_new w1 #[.nilFunc, .func (.func 79) #[] #[], .func (.func 80) #[] #[], .func (.func 81) #[] #[], .func (.func 82) #[] #[]] 108).alloc (.cells #[.nilFunc, .func (.func 83) #[] #[], .func (.func 84) #[] #[], .func (.func 85) #[] #[]] 111))
  have O2 := Lib.hid (own_new2 w1 (.cells #[.nilFunc, .func (.func 79) #[] #[], .func (.func 80) #[] #[], .func (.func 81) #[] #[], .func (.func 82) #[] #[]] 108) #[.nilFunc, .func (.func 83) #[] #[], .func (.func 84) #[] #[], .func (.func 85) #[] #[]] 111)
  have B2 := Lib.hid (then_ B1.out b2)
  clear b2
  go_wp2_with fail
  refine (find_thing A n c l k _ H2.out hn).mono ?_; rintro e w3 ⟨b, rfl, hb⟩
  rw [← HX.out]
  have S3 := Lib.hid (hb.trans ((new1 w3 (x.obj 63)).mono hb.size))
  clear hb q0 q1 q2 q3 q4
  obtain ⟨W4, hW4⟩ : ∃ W4, W4 = w3.alloc (x.obj 63) := ⟨_, rfl⟩
  have X4 : Hid (Own W4 w3.heap.size 63 #[.string x.key, .string x.val, .int .i64 x.cre, .int .i64 x.mod, .int .i64 x.ver, .int .i64 x.lea]) := Lib.hid (by rw [hW4]; exact own_new _ _ _)
  rw [← hW4] at S3
  go_wp2
  rw [← hW4]
  clear hW4
  have B4 := Lib.hid (then_ B2.out S3.out)
  have Q4 := Lib.hid (Q2.out.below S3.out)
  have W4' := Lib.hid (W2.out.below S3.out)
  have O4 := Lib.hid (O2.out.below S3.out)
  have l1 := Q4.out.lt; have l2 := W4'.out.lt; have l3 := O4.out.lt; have l4 := X4.out.lt
  have q0 := Q4.out.cell 0 _ rfl
  have q1 := Q4.out.cell 1 _ rfl
  have q2 := Q4.out.cell 2 _ rfl
  have q3 := Q4.out.cell 3 _ rfl
  have q4 := Q4.out.cell 4 _ rfl
  have v1 := W4'.out.cell 2 _ rfl
  have v2 := O4.out.cell 3 _ rfl
  have x0 := X4.out.cell 0 _ rfl
  have x1 := X4.out.cell 1 _ rfl
  have x2 := X4.out.cell 2 _ rfl
  have x3 := X4.out.cell 3 _ rfl
  have x4 := X4.out.cell 4 _ rfl
  have x5 := X4.out.cell 5 _ rfl
  go_region_held3 (fun w' => w'.cell? ⟨w.heap.size, 0, none⟩ = some (.string k) ∧ w'.cell? ⟨w.heap.size, 1, none⟩ = some (.int .i64 2) ∧ w'.cell? ⟨w.heap.size, 2, none⟩ = some (.int .i64 3) ∧ w'.cell? ⟨w.heap.size, 3, none⟩ = some (.int .i64 nn) ∧ w'.cell? ⟨w.heap.size, 4, none⟩ = some (.string v) ∧ w'.cell? ⟨w1.heap.size, 2, none⟩ = some (.func (.func 80) #[] #[]) ∧ w'.cell? ⟨w1.heap.size + 1, 3, none⟩ = some (.func (.func 85) #[] #[]) ∧ w'.cell? ⟨w3.heap.size, 0, none⟩ = some (.string x.key) ∧ w'.cell? ⟨w3.heap.size, 1, none⟩ = some (.string x.val) ∧ w'.cell? ⟨w3.heap.size, 2, none⟩ = some (.int .i64 x.cre) ∧ w'.cell? ⟨w3.heap.size, 3, none⟩ = some (.int .i64 x.mod) ∧ w'.cell? ⟨w3.heap.size, 4, none⟩ = some (.int .i64 x.ver) ∧ w'.cell? ⟨w3.heap.size, 5, none⟩ = some (.int .i64 x.lea)) (go_keep) (first
    | (go_at_call 80; refine (modf_any x ⟨k, 2, 3, nn, v⟩ _).mono ?_; rintro e w5 ⟨rfl, hb⟩; have HB5 := Lib.hid (then_ (new_drew W4) hb); clear hb; obtain ⟨hc, hf⟩ := bcell HB5.out)
    | (go_at_call 85; refine (side_above (sideI x.mod nn) _).mono ?_; rintro e w' ⟨rfl, rfl⟩))
  all_goals
    have BX := Lib.hid (then_ B4.out HB5.out)
    go_wp2
    go_ret
    exact ⟨retB HR.out.symm, BX.out⟩
theorem holds_31 (A : Option Addr) (n c : Nat) (l : List KV) (k v : ByteArray) (nn : Int) (w : World) (h : KVs w A n c l) (hn : n ≤ 1000000) :
    Calls Try.prog 56 #[.slice A n c, (Cm.mk k 3 1 nn v).agg] w fun e w' => e = .returned (.bool (holdsB l ⟨k, 3, 1, nn, v⟩)) ∧ Below w.heap.size w w' := by
  have Q0 := Lib.hid (own_new w #[.string k, .int .i64 3, .int .i64 1, .int .i64 nn, .string v] 56)
  have H0 := Lib.hid (h.keep (new1 w (Cm.obj ⟨k, 3, 1, nn, v⟩ 56)))
  have HQ : Hid (askB ⟨k, 3, 1, nn, v⟩ = true) := Lib.hid (by simp [askB])
  obtain ⟨x, hx⟩ : ∃ x, x = thingL l k := ⟨_, rfl⟩
  have HR : Hid (holdsB l ⟨k, 3, 1, nn, v⟩ = (sideI x.ver nn == 0)) := Lib.hid (by rw [side_eq]; show holdsX (thingL l k) _ = _; rw [← hx]; simp [holdsX, numB1])
  have HX := Lib.hid hx
  clear h hx
  go_enter Try.func56, Try.ntmps56
  go_wp2_with fail
  refine (mayAsk_any ⟨k, 3, 1, nn, v⟩ _).mono ?_; rintro e w1 ⟨rfl, hb⟩
  rw [HQ.out]
  have B1 := Lib.hid (then_ (new1 w _) hb)
  have Q1 := Lib.hid (Q0.out.below hb)
  have H1 := Lib.hid (H0.out.keep hb)
  have hqw := Q1.out.lt
  clear hb
  have q0 := Q1.out.cell 0 _ rfl
  have q1 := Q1.out.cell 1 _ rfl
  have q2 := Q1.out.cell 2 _ rfl
  have q3 := Q1.out.cell 3 _ rfl
  have q4 := Q1.out.cell 4 _ rfl
  have b2 := then_ (new1 w1 (.cells #[.nilFunc, .func (.func 79) #[] #[], .func (.func 80) #[] #[], .func (.func 81) #[] #[], .func (.func 82) #[] #[]] 108)) (new1 _ (.cells #[.nilFunc, .func (.func 83) #[] #[], .func (.func 84) #[] #[], .func (.func 85) #[] #[]] 111))
  have H2 := Lib.hid (H1.out.keep b2)
  have Q2 := Lib.hid (Q1.out.below b2)
  have W2 := Lib.hid ((own_new w1 #[.nilFunc, .func (.func 79) #[] #[], .func (.func 80) #[] #[], .func (.func 81) #[] #[], .func (.func 82) #[] #[]] 108).alloc (.cells #[.nilFunc, .func (.func 83) #[] #[], .func (.func 84) #[] #[], .func (.func 85) #[] #[]] 111))
  have O2 := Lib.hid (own_new2 w1 (.cells #[.nilFunc, .func (.func 79) #[] #[], .func (.func 80) #[] #[], .func (.func 81) #[] #[], .func (.func 82) #[] #[]] 108) #[.nilFunc, .func (.func 83) #[] #[], .func (.func 84) #[] #[], .func (.func 85) #[] #[]] 111)
  have B2 := Lib.hid (then_ B1.out b2)
  clear b2
  go_wp2_with fail
  refine (find_thing A n c l k _ H2.out hn).mono ?_; rintro e w3 ⟨b, rfl, hb⟩
  rw [← HX.out]
  have S3 := Lib.hid (hb.trans ((new1 w3 (x.obj 63)).mono hb.size))
  clear hb q0 q1 q2 q3 q4
  obtain ⟨W4, hW4⟩ : ∃ W4, W4 = w3.alloc (x.obj 63) := ⟨_, rfl⟩
  have X4 : Hid (Own W4 w3.heap.size 63 #[.string x.key, .string x.val, .int .i64 x.cre, .int .i64 x.mod, .int .i64 x.ver, .int .i64 x.lea]) := Lib.hid (by rw [hW4]; exact own_new _ _ _)
  rw [← hW4] at S3
  go_wp2
  rw [← hW4]
  clear hW4
  have B4 := Lib.hid (then_ B2.out S3.out)
  have Q4 := Lib.hid (Q2.out.below S3.out)
  have W4' := Lib.hid (W2.out.below S3.out)
  have O4 := Lib.hid (O2.out.below S3.out)
  have l1 := Q4.out.lt; have l2 := W4'.out.lt; have l3 := O4.out.lt; have l4 := X4.out.lt
  have q0 := Q4.out.cell 0 _ rfl
  have q1 := Q4.out.cell 1 _ rfl
  have q2 := Q4.out.cell 2 _ rfl
  have q3 := Q4.out.cell 3 _ rfl
  have q4 := Q4.out.cell 4 _ rfl
  have v1 := W4'.out.cell 3 _ rfl
  have v2 := O4.out.cell 1 _ rfl
  have x0 := X4.out.cell 0 _ rfl
  have x1 := X4.out.cell 1 _ rfl
  have x2 := X4.out.cell 2 _ rfl
  have x3 := X4.out.cell 3 _ rfl
  have x4 := X4.out.cell 4 _ rfl
  have x5 := X4.out.cell 5 _ rfl
  go_region_held3 (fun w' => w'.cell? ⟨w.heap.size, 0, none⟩ = some (.string k) ∧ w'.cell? ⟨w.heap.size, 1, none⟩ = some (.int .i64 3) ∧ w'.cell? ⟨w.heap.size, 2, none⟩ = some (.int .i64 1) ∧ w'.cell? ⟨w.heap.size, 3, none⟩ = some (.int .i64 nn) ∧ w'.cell? ⟨w.heap.size, 4, none⟩ = some (.string v) ∧ w'.cell? ⟨w1.heap.size, 3, none⟩ = some (.func (.func 81) #[] #[]) ∧ w'.cell? ⟨w1.heap.size + 1, 1, none⟩ = some (.func (.func 83) #[] #[]) ∧ w'.cell? ⟨w3.heap.size, 0, none⟩ = some (.string x.key) ∧ w'.cell? ⟨w3.heap.size, 1, none⟩ = some (.string x.val) ∧ w'.cell? ⟨w3.heap.size, 2, none⟩ = some (.int .i64 x.cre) ∧ w'.cell? ⟨w3.heap.size, 3, none⟩ = some (.int .i64 x.mod) ∧ w'.cell? ⟨w3.heap.size, 4, none⟩ = some (.int .i64 x.ver) ∧ w'.cell? ⟨w3.heap.size, 5, none⟩ = some (.int .i64 x.lea)) (go_keep) (first
    | (go_at_call 81; refine (version_any x ⟨k, 3, 1, nn, v⟩ _).mono ?_; rintro e w5 ⟨rfl, hb⟩; have HB5 := Lib.hid (then_ (new_drew W4) hb); clear hb; obtain ⟨hc, hf⟩ := bcell HB5.out)
    | (go_at_call 83; refine (side_same (sideI x.ver nn) _).mono ?_; rintro e w' ⟨rfl, rfl⟩))
  all_goals
    have BX := Lib.hid (then_ B4.out HB5.out)
    go_wp2
    go_ret
    exact ⟨retB HR.out.symm, BX.out⟩
theorem holds_32 (A : Option Addr) (n c : Nat) (l : List KV) (k v : ByteArray) (nn : Int) (w : World) (h : KVs w A n c l) (hn : n ≤ 1000000) :
    Calls Try.prog 56 #[.slice A n c, (Cm.mk k 3 2 nn v).agg] w fun e w' => e = .returned (.bool (holdsB l ⟨k, 3, 2, nn, v⟩)) ∧ Below w.heap.size w w' := by
  have Q0 := Lib.hid (own_new w #[.string k, .int .i64 3, .int .i64 2, .int .i64 nn, .string v] 56)
  have H0 := Lib.hid (h.keep (new1 w (Cm.obj ⟨k, 3, 2, nn, v⟩ 56)))
  have HQ : Hid (askB ⟨k, 3, 2, nn, v⟩ = true) := Lib.hid (by simp [askB])
  obtain ⟨x, hx⟩ : ∃ x, x = thingL l k := ⟨_, rfl⟩
  have HR : Hid (holdsB l ⟨k, 3, 2, nn, v⟩ = decide (sideI x.ver nn < 0)) := Lib.hid (by rw [side_lt]; show holdsX (thingL l k) _ = _; rw [← hx]; simp [holdsX, numB2])
  have HX := Lib.hid hx
  clear h hx
  go_enter Try.func56, Try.ntmps56
  go_wp2_with fail
  refine (mayAsk_any ⟨k, 3, 2, nn, v⟩ _).mono ?_; rintro e w1 ⟨rfl, hb⟩
  rw [HQ.out]
  have B1 := Lib.hid (then_ (new1 w _) hb)
  have Q1 := Lib.hid (Q0.out.below hb)
  have H1 := Lib.hid (H0.out.keep hb)
  have hqw := Q1.out.lt
  clear hb
  have q0 := Q1.out.cell 0 _ rfl
  have q1 := Q1.out.cell 1 _ rfl
  have q2 := Q1.out.cell 2 _ rfl
  have q3 := Q1.out.cell 3 _ rfl
  have q4 := Q1.out.cell 4 _ rfl
  have b2 := then_ (new1 w1 (.cells #[.nilFunc, .func (.func 79) #[] #[], .func (.func 80) #[] #[], .func (.func 81) #[] #[], .func (.func 82) #[] #[]] 108)) (new1 _ (.cells #[.nilFunc, .func (.func 83) #[] #[], .func (.func 84) #[] #[], .func (.func 85) #[] #[]] 111))
  have H2 := Lib.hid (H1.out.keep b2)
  have Q2 := Lib.hid (Q1.out.below b2)
  have W2 := Lib.hid ((own_new w1 #[.nilFunc, .func (.func 79) #[] #[], .func (.func 80) #[] #[], .func (.func 81) #[] #[], .func (.func 82) #[] #[]] 108).alloc (.cells #[.nilFunc, .func (.func 83) #[] #[], .func (.func 84) #[] #[], .func (.func 85) #[] #[]] 111))
  have O2 := Lib.hid (own_new2 w1 (.cells #[.nilFunc, .func (.func 79) #[] #[], .func (.func 80) #[] #[], .func (.func 81) #[] #[], .func (.func 82) #[] #[]] 108) #[.nilFunc, .func (.func 83) #[] #[], .func (.func 84) #[] #[], .func (.func 85) #[] #[]] 111)
  have B2 := Lib.hid (then_ B1.out b2)
  clear b2
  go_wp2_with fail
  refine (find_thing A n c l k _ H2.out hn).mono ?_; rintro e w3 ⟨b, rfl, hb⟩
  rw [← HX.out]
  have S3 := Lib.hid (hb.trans ((new1 w3 (x.obj 63)).mono hb.size))
  clear hb q0 q1 q2 q3 q4
  obtain ⟨W4, hW4⟩ : ∃ W4, W4 = w3.alloc (x.obj 63) := ⟨_, rfl⟩
  have X4 : Hid (Own W4 w3.heap.size 63 #[.string x.key, .string x.val, .int .i64 x.cre, .int .i64 x.mod, .int .i64 x.ver, .int .i64 x.lea]) := Lib.hid (by rw [hW4]; exact own_new _ _ _)
  rw [← hW4] at S3
  go_wp2
  rw [← hW4]
  clear hW4
  have B4 := Lib.hid (then_ B2.out S3.out)
  have Q4 := Lib.hid (Q2.out.below S3.out)
  have W4' := Lib.hid (W2.out.below S3.out)
  have O4 := Lib.hid (O2.out.below S3.out)
  have l1 := Q4.out.lt; have l2 := W4'.out.lt; have l3 := O4.out.lt; have l4 := X4.out.lt
  have q0 := Q4.out.cell 0 _ rfl
  have q1 := Q4.out.cell 1 _ rfl
  have q2 := Q4.out.cell 2 _ rfl
  have q3 := Q4.out.cell 3 _ rfl
  have q4 := Q4.out.cell 4 _ rfl
  have v1 := W4'.out.cell 3 _ rfl
  have v2 := O4.out.cell 2 _ rfl
  have x0 := X4.out.cell 0 _ rfl
  have x1 := X4.out.cell 1 _ rfl
  have x2 := X4.out.cell 2 _ rfl
  have x3 := X4.out.cell 3 _ rfl
  have x4 := X4.out.cell 4 _ rfl
  have x5 := X4.out.cell 5 _ rfl
  go_region_held3 (fun w' => w'.cell? ⟨w.heap.size, 0, none⟩ = some (.string k) ∧ w'.cell? ⟨w.heap.size, 1, none⟩ = some (.int .i64 3) ∧ w'.cell? ⟨w.heap.size, 2, none⟩ = some (.int .i64 2) ∧ w'.cell? ⟨w.heap.size, 3, none⟩ = some (.int .i64 nn) ∧ w'.cell? ⟨w.heap.size, 4, none⟩ = some (.string v) ∧ w'.cell? ⟨w1.heap.size, 3, none⟩ = some (.func (.func 81) #[] #[]) ∧ w'.cell? ⟨w1.heap.size + 1, 2, none⟩ = some (.func (.func 84) #[] #[]) ∧ w'.cell? ⟨w3.heap.size, 0, none⟩ = some (.string x.key) ∧ w'.cell? ⟨w3.heap.size, 1, none⟩ = some (.string x.val) ∧ w'.cell? ⟨w3.heap.size, 2, none⟩ = some (.int .i64 x.cre) ∧ w'.cell? ⟨w3.heap.size, 3, none⟩ = some (.int .i64 x.mod) ∧ w'.cell? ⟨w3.heap.size, 4, none⟩ = some (.int .i64 x.ver) ∧ w'.cell? ⟨w3.heap.size, 5, none⟩ = some (.int .i64 x.lea)) (go_keep) (first
    | (go_at_call 81; refine (version_any x ⟨k, 3, 2, nn, v⟩ _).mono ?_; rintro e w5 ⟨rfl, hb⟩; have HB5 := Lib.hid (then_ (new_drew W4) hb); clear hb; obtain ⟨hc, hf⟩ := bcell HB5.out)
    | (go_at_call 84; refine (side_below (sideI x.ver nn) _).mono ?_; rintro e w' ⟨rfl, rfl⟩))
  all_goals
    have BX := Lib.hid (then_ B4.out HB5.out)
    go_wp2
    go_ret
    exact ⟨retB HR.out.symm, BX.out⟩
theorem holds_33 (A : Option Addr) (n c : Nat) (l : List KV) (k v : ByteArray) (nn : Int) (w : World) (h : KVs w A n c l) (hn : n ≤ 1000000) :
    Calls Try.prog 56 #[.slice A n c, (Cm.mk k 3 3 nn v).agg] w fun e w' => e = .returned (.bool (holdsB l ⟨k, 3, 3, nn, v⟩)) ∧ Below w.heap.size w w' := by
  have Q0 := Lib.hid (own_new w #[.string k, .int .i64 3, .int .i64 3, .int .i64 nn, .string v] 56)
  have H0 := Lib.hid (h.keep (new1 w (Cm.obj ⟨k, 3, 3, nn, v⟩ 56)))
  have HQ : Hid (askB ⟨k, 3, 3, nn, v⟩ = true) := Lib.hid (by simp [askB])
  obtain ⟨x, hx⟩ : ∃ x, x = thingL l k := ⟨_, rfl⟩
  have HR : Hid (holdsB l ⟨k, 3, 3, nn, v⟩ = decide (0 < sideI x.ver nn)) := Lib.hid (by rw [side_gt]; show holdsX (thingL l k) _ = _; rw [← hx]; simp [holdsX, numB3])
  have HX := Lib.hid hx
  clear h hx
  go_enter Try.func56, Try.ntmps56
  go_wp2_with fail
  refine (mayAsk_any ⟨k, 3, 3, nn, v⟩ _).mono ?_; rintro e w1 ⟨rfl, hb⟩
  rw [HQ.out]
  have B1 := Lib.hid (then_ (new1 w _) hb)
  have Q1 := Lib.hid (Q0.out.below hb)
  have H1 := Lib.hid (H0.out.keep hb)
  have hqw := Q1.out.lt
  clear hb
  have q0 := Q1.out.cell 0 _ rfl
  have q1 := Q1.out.cell 1 _ rfl
  have q2 := Q1.out.cell 2 _ rfl
  have q3 := Q1.out.cell 3 _ rfl
  have q4 := Q1.out.cell 4 _ rfl
  have b2 := then_ (new1 w1 (.cells #[.nilFunc, .func (.func 79) #[] #[], .func (.func 80) #[] #[], .func (.func 81) #[] #[], .func (.func 82) #[] #[]] 108)) (new1 _ (.cells #[.nilFunc, .func (.func 83) #[] #[], .func (.func 84) #[] #[], .func (.func 85) #[] #[]] 111))
  have H2 := Lib.hid (H1.out.keep b2)
  have Q2 := Lib.hid (Q1.out.below b2)
  have W2 := Lib.hid ((own_new w1 #[.nilFunc, .func (.func 79) #[] #[], .func (.func 80) #[] #[], .func (.func 81) #[] #[], .func (.func 82) #[] #[]] 108).alloc (.cells #[.nilFunc, .func (.func 83) #[] #[], .func (.func 84) #[] #[], .func (.func 85) #[] #[]] 111))
  have O2 := Lib.hid (own_new2 w1 (.cells #[.nilFunc, .func (.func 79) #[] #[], .func (.func 80) #[] #[], .func (.func 81) #[] #[], .func (.func 82) #[] #[]] 108) #[.nilFunc, .func (.func 83) #[] #[], .func (.func 84) #[] #[], .func (.func 85) #[] #[]] 111)
  have B2 := Lib.hid (then_ B1.out b2)
  clear b2
  go_wp2_with fail
  refine (find_thing A n c l k _ H2.out hn).mono ?_; rintro e w3 ⟨b, rfl, hb⟩
  rw [← HX.out]
  have S3 := Lib.hid (hb.trans ((new1 w3 (x.obj 63)).mono hb.size))
  clear hb q0 q1 q2 q3 q4
  obtain ⟨W4, hW4⟩ : ∃ W4, W4 = w3.alloc (x.obj 63) := ⟨_, rfl⟩
  have X4 : Hid (Own W4 w3.heap.size 63 #[.string x.key, .string x.val, .int .i64 x.cre, .int .i64 x.mod, .int .i64 x.ver, .int .i64 x.lea]) := Lib.hid (by rw [hW4]; exact own_new _ _ _)
  rw [← hW4] at S3
  go_wp2
  rw [← hW4]
  clear hW4
  have B4 := Lib.hid (then_ B2.out S3.out)
  have Q4 := Lib.hid (Q2.out.below S3.out)
  have W4' := Lib.hid (W2.out.below S3.out)
  have O4 := Lib.hid (O2.out.below S3.out)
  have l1 := Q4.out.lt; have l2 := W4'.out.lt; have l3 := O4.out.lt; have l4 := X4.out.lt
  have q0 := Q4.out.cell 0 _ rfl
  have q1 := Q4.out.cell 1 _ rfl
  have q2 := Q4.out.cell 2 _ rfl
  have q3 := Q4.out.cell 3 _ rfl
  have q4 := Q4.out.cell 4 _ rfl
  have v1 := W4'.out.cell 3 _ rfl
  have v2 := O4.out.cell 3 _ rfl
  have x0 := X4.out.cell 0 _ rfl
  have x1 := X4.out.cell 1 _ rfl
  have x2 := X4.out.cell 2 _ rfl
  have x3 := X4.out.cell 3 _ rfl
  have x4 := X4.out.cell 4 _ rfl
  have x5 := X4.out.cell 5 _ rfl
  go_region_held3 (fun w' => w'.cell? ⟨w.heap.size, 0, none⟩ = some (.string k) ∧ w'.cell? ⟨w.heap.size, 1, none⟩ = some (.int .i64 3) ∧ w'.cell? ⟨w.heap.size, 2, none⟩ = some (.int .i64 3) ∧ w'.cell? ⟨w.heap.size, 3, none⟩ = some (.int .i64 nn) ∧ w'.cell? ⟨w.heap.size, 4, none⟩ = some (.string v) ∧ w'.cell? ⟨w1.heap.size, 3, none⟩ = some (.func (.func 81) #[] #[]) ∧ w'.cell? ⟨w1.heap.size + 1, 3, none⟩ = some (.func (.func 85) #[] #[]) ∧ w'.cell? ⟨w3.heap.size, 0, none⟩ = some (.string x.key) ∧ w'.cell? ⟨w3.heap.size, 1, none⟩ = some (.string x.val) ∧ w'.cell? ⟨w3.heap.size, 2, none⟩ = some (.int .i64 x.cre) ∧ w'.cell? ⟨w3.heap.size, 3, none⟩ = some (.int .i64 x.mod) ∧ w'.cell? ⟨w3.heap.size, 4, none⟩ = some (.int .i64 x.ver) ∧ w'.cell? ⟨w3.heap.size, 5, none⟩ = some (.int .i64 x.lea)) (go_keep) (first
    | (go_at_call 81; refine (version_any x ⟨k, 3, 3, nn, v⟩ _).mono ?_; rintro e w5 ⟨rfl, hb⟩; have HB5 := Lib.hid (then_ (new_drew W4) hb); clear hb; obtain ⟨hc, hf⟩ := bcell HB5.out)
    | (go_at_call 85; refine (side_above (sideI x.ver nn) _).mono ?_; rintro e w' ⟨rfl, rfl⟩))
  all_goals
    have BX := Lib.hid (then_ B4.out HB5.out)
    go_wp2
    go_ret
    exact ⟨retB HR.out.symm, BX.out⟩
theorem holds_41 (A : Option Addr) (n c : Nat) (l : List KV) (k v : ByteArray) (nn : Int) (w : World) (h : KVs w A n c l) (hn : n ≤ 1000000) :
    Calls Try.prog 56 #[.slice A n c, (Cm.mk k 4 1 nn v).agg] w fun e w' => e = .returned (.bool (holdsB l ⟨k, 4, 1, nn, v⟩)) ∧ Below w.heap.size w w' := by
  have Q0 := Lib.hid (own_new w #[.string k, .int .i64 4, .int .i64 1, .int .i64 nn, .string v] 56)
  have H0 := Lib.hid (h.keep (new1 w (Cm.obj ⟨k, 4, 1, nn, v⟩ 56)))
  have HQ : Hid (askB ⟨k, 4, 1, nn, v⟩ = true) := Lib.hid (by simp [askB])
  obtain ⟨x, hx⟩ : ∃ x, x = thingL l k := ⟨_, rfl⟩
  have HR : Hid (holdsB l ⟨k, 4, 1, nn, v⟩ = (sideT x.val v == 0)) := Lib.hid (by rw [sideT_eq]; show holdsX (thingL l k) _ = _; rw [← hx]; simp [holdsX, txtB1])
  have HX := Lib.hid hx
  clear h hx
  go_enter Try.func56, Try.ntmps56
  go_wp2_with fail
  refine (mayAsk_any ⟨k, 4, 1, nn, v⟩ _).mono ?_; rintro e w1 ⟨rfl, hb⟩
  rw [HQ.out]
  have B1 := Lib.hid (then_ (new1 w _) hb)
  have Q1 := Lib.hid (Q0.out.below hb)
  have H1 := Lib.hid (H0.out.keep hb)
  have hqw := Q1.out.lt
  clear hb
  have q0 := Q1.out.cell 0 _ rfl
  have q1 := Q1.out.cell 1 _ rfl
  have q2 := Q1.out.cell 2 _ rfl
  have q3 := Q1.out.cell 3 _ rfl
  have q4 := Q1.out.cell 4 _ rfl
  have b2 := then_ (new1 w1 (.cells #[.nilFunc, .func (.func 79) #[] #[], .func (.func 80) #[] #[], .func (.func 81) #[] #[], .func (.func 82) #[] #[]] 108)) (new1 _ (.cells #[.nilFunc, .func (.func 83) #[] #[], .func (.func 84) #[] #[], .func (.func 85) #[] #[]] 111))
  have H2 := Lib.hid (H1.out.keep b2)
  have Q2 := Lib.hid (Q1.out.below b2)
  have W2 := Lib.hid ((own_new w1 #[.nilFunc, .func (.func 79) #[] #[], .func (.func 80) #[] #[], .func (.func 81) #[] #[], .func (.func 82) #[] #[]] 108).alloc (.cells #[.nilFunc, .func (.func 83) #[] #[], .func (.func 84) #[] #[], .func (.func 85) #[] #[]] 111))
  have O2 := Lib.hid (own_new2 w1 (.cells #[.nilFunc, .func (.func 79) #[] #[], .func (.func 80) #[] #[], .func (.func 81) #[] #[], .func (.func 82) #[] #[]] 108) #[.nilFunc, .func (.func 83) #[] #[], .func (.func 84) #[] #[], .func (.func 85) #[] #[]] 111)
  have B2 := Lib.hid (then_ B1.out b2)
  clear b2
  go_wp2_with fail
  refine (find_thing A n c l k _ H2.out hn).mono ?_; rintro e w3 ⟨b, rfl, hb⟩
  rw [← HX.out]
  have S3 := Lib.hid (hb.trans ((new1 w3 (x.obj 63)).mono hb.size))
  clear hb q0 q1 q2 q3 q4
  obtain ⟨W4, hW4⟩ : ∃ W4, W4 = w3.alloc (x.obj 63) := ⟨_, rfl⟩
  have X4 : Hid (Own W4 w3.heap.size 63 #[.string x.key, .string x.val, .int .i64 x.cre, .int .i64 x.mod, .int .i64 x.ver, .int .i64 x.lea]) := Lib.hid (by rw [hW4]; exact own_new _ _ _)
  rw [← hW4] at S3
  go_wp2
  rw [← hW4]
  clear hW4
  have B4 := Lib.hid (then_ B2.out S3.out)
  have Q4 := Lib.hid (Q2.out.below S3.out)
  have W4' := Lib.hid (W2.out.below S3.out)
  have O4 := Lib.hid (O2.out.below S3.out)
  have l1 := Q4.out.lt; have l2 := W4'.out.lt; have l3 := O4.out.lt; have l4 := X4.out.lt
  have q0 := Q4.out.cell 0 _ rfl
  have q1 := Q4.out.cell 1 _ rfl
  have q2 := Q4.out.cell 2 _ rfl
  have q3 := Q4.out.cell 3 _ rfl
  have q4 := Q4.out.cell 4 _ rfl
  have v1 := W4'.out.cell 4 _ rfl
  have v2 := O4.out.cell 1 _ rfl
  have x0 := X4.out.cell 0 _ rfl
  have x1 := X4.out.cell 1 _ rfl
  have x2 := X4.out.cell 2 _ rfl
  have x3 := X4.out.cell 3 _ rfl
  have x4 := X4.out.cell 4 _ rfl
  have x5 := X4.out.cell 5 _ rfl
  go_region_held3 (fun w' => w'.cell? ⟨w.heap.size, 0, none⟩ = some (.string k) ∧ w'.cell? ⟨w.heap.size, 1, none⟩ = some (.int .i64 4) ∧ w'.cell? ⟨w.heap.size, 2, none⟩ = some (.int .i64 1) ∧ w'.cell? ⟨w.heap.size, 3, none⟩ = some (.int .i64 nn) ∧ w'.cell? ⟨w.heap.size, 4, none⟩ = some (.string v) ∧ w'.cell? ⟨w1.heap.size, 4, none⟩ = some (.func (.func 82) #[] #[]) ∧ w'.cell? ⟨w1.heap.size + 1, 1, none⟩ = some (.func (.func 83) #[] #[]) ∧ w'.cell? ⟨w3.heap.size, 0, none⟩ = some (.string x.key) ∧ w'.cell? ⟨w3.heap.size, 1, none⟩ = some (.string x.val) ∧ w'.cell? ⟨w3.heap.size, 2, none⟩ = some (.int .i64 x.cre) ∧ w'.cell? ⟨w3.heap.size, 3, none⟩ = some (.int .i64 x.mod) ∧ w'.cell? ⟨w3.heap.size, 4, none⟩ = some (.int .i64 x.ver) ∧ w'.cell? ⟨w3.heap.size, 5, none⟩ = some (.int .i64 x.lea)) (go_keep) (first
    | (go_at_call 82; refine (value_any x ⟨k, 4, 1, nn, v⟩ _).mono ?_; rintro e w5 ⟨rfl, hb⟩; have HB5 := Lib.hid (then_ (new_drew W4) hb); clear hb; obtain ⟨hc, hf⟩ := bcell HB5.out)
    | (go_at_call 83; refine (side_same (sideT x.val v) _).mono ?_; rintro e w' ⟨rfl, rfl⟩))
  all_goals
    have BX := Lib.hid (then_ B4.out HB5.out)
    go_wp2
    go_ret
    exact ⟨retB HR.out.symm, BX.out⟩
theorem holds_42 (A : Option Addr) (n c : Nat) (l : List KV) (k v : ByteArray) (nn : Int) (w : World) (h : KVs w A n c l) (hn : n ≤ 1000000) :
    Calls Try.prog 56 #[.slice A n c, (Cm.mk k 4 2 nn v).agg] w fun e w' => e = .returned (.bool (holdsB l ⟨k, 4, 2, nn, v⟩)) ∧ Below w.heap.size w w' := by
  have Q0 := Lib.hid (own_new w #[.string k, .int .i64 4, .int .i64 2, .int .i64 nn, .string v] 56)
  have H0 := Lib.hid (h.keep (new1 w (Cm.obj ⟨k, 4, 2, nn, v⟩ 56)))
  have HQ : Hid (askB ⟨k, 4, 2, nn, v⟩ = true) := Lib.hid (by simp [askB])
  obtain ⟨x, hx⟩ : ∃ x, x = thingL l k := ⟨_, rfl⟩
  have HR : Hid (holdsB l ⟨k, 4, 2, nn, v⟩ = decide (sideT x.val v < 0)) := Lib.hid (by rw [sideT_lt]; show holdsX (thingL l k) _ = _; rw [← hx]; simp [holdsX, txtB2])
  have HX := Lib.hid hx
  clear h hx
  go_enter Try.func56, Try.ntmps56
  go_wp2_with fail
  refine (mayAsk_any ⟨k, 4, 2, nn, v⟩ _).mono ?_; rintro e w1 ⟨rfl, hb⟩
  rw [HQ.out]
  have B1 := Lib.hid (then_ (new1 w _) hb)
  have Q1 := Lib.hid (Q0.out.below hb)
  have H1 := Lib.hid (H0.out.keep hb)
  have hqw := Q1.out.lt
  clear hb
  have q0 := Q1.out.cell 0 _ rfl
  have q1 := Q1.out.cell 1 _ rfl
  have q2 := Q1.out.cell 2 _ rfl
  have q3 := Q1.out.cell 3 _ rfl
  have q4 := Q1.out.cell 4 _ rfl
  have b2 := then_ (new1 w1 (.cells #[.nilFunc, .func (.func 79) #[] #[], .func (.func 80) #[] #[], .func (.func 81) #[] #[], .func (.func 82) #[] #[]] 108)) (new1 _ (.cells #[.nilFunc, .func (.func 83) #[] #[], .func (.func 84) #[] #[], .func (.func 85) #[] #[]] 111))
  have H2 := Lib.hid (H1.out.keep b2)
  have Q2 := Lib.hid (Q1.out.below b2)
  have W2 := Lib.hid ((own_new w1 #[.nilFunc, .func (.func 79) #[] #[], .func (.func 80) #[] #[], .func (.func 81) #[] #[], .func (.func 82) #[] #[]] 108).alloc (.cells #[.nilFunc, .func (.func 83) #[] #[], .func (.func 84) #[] #[], .func (.func 85) #[] #[]] 111))
  have O2 := Lib.hid (own_new2 w1 (.cells #[.nilFunc, .func (.func 79) #[] #[], .func (.func 80) #[] #[], .func (.func 81) #[] #[], .func (.func 82) #[] #[]] 108) #[.nilFunc, .func (.func 83) #[] #[], .func (.func 84) #[] #[], .func (.func 85) #[] #[]] 111)
  have B2 := Lib.hid (then_ B1.out b2)
  clear b2
  go_wp2_with fail
  refine (find_thing A n c l k _ H2.out hn).mono ?_; rintro e w3 ⟨b, rfl, hb⟩
  rw [← HX.out]
  have S3 := Lib.hid (hb.trans ((new1 w3 (x.obj 63)).mono hb.size))
  clear hb q0 q1 q2 q3 q4
  obtain ⟨W4, hW4⟩ : ∃ W4, W4 = w3.alloc (x.obj 63) := ⟨_, rfl⟩
  have X4 : Hid (Own W4 w3.heap.size 63 #[.string x.key, .string x.val, .int .i64 x.cre, .int .i64 x.mod, .int .i64 x.ver, .int .i64 x.lea]) := Lib.hid (by rw [hW4]; exact own_new _ _ _)
  rw [← hW4] at S3
  go_wp2
  rw [← hW4]
  clear hW4
  have B4 := Lib.hid (then_ B2.out S3.out)
  have Q4 := Lib.hid (Q2.out.below S3.out)
  have W4' := Lib.hid (W2.out.below S3.out)
  have O4 := Lib.hid (O2.out.below S3.out)
  have l1 := Q4.out.lt; have l2 := W4'.out.lt; have l3 := O4.out.lt; have l4 := X4.out.lt
  have q0 := Q4.out.cell 0 _ rfl
  have q1 := Q4.out.cell 1 _ rfl
  have q2 := Q4.out.cell 2 _ rfl
  have q3 := Q4.out.cell 3 _ rfl
  have q4 := Q4.out.cell 4 _ rfl
  have v1 := W4'.out.cell 4 _ rfl
  have v2 := O4.out.cell 2 _ rfl
  have x0 := X4.out.cell 0 _ rfl
  have x1 := X4.out.cell 1 _ rfl
  have x2 := X4.out.cell 2 _ rfl
  have x3 := X4.out.cell 3 _ rfl
  have x4 := X4.out.cell 4 _ rfl
  have x5 := X4.out.cell 5 _ rfl
  go_region_held3 (fun w' => w'.cell? ⟨w.heap.size, 0, none⟩ = some (.string k) ∧ w'.cell? ⟨w.heap.size, 1, none⟩ = some (.int .i64 4) ∧ w'.cell? ⟨w.heap.size, 2, none⟩ = some (.int .i64 2) ∧ w'.cell? ⟨w.heap.size, 3, none⟩ = some (.int .i64 nn) ∧ w'.cell? ⟨w.heap.size, 4, none⟩ = some (.string v) ∧ w'.cell? ⟨w1.heap.size, 4, none⟩ = some (.func (.func 82) #[] #[]) ∧ w'.cell? ⟨w1.heap.size + 1, 2, none⟩ = some (.func (.func 84) #[] #[]) ∧ w'.cell? ⟨w3.heap.size, 0, none⟩ = some (.string x.key) ∧ w'.cell? ⟨w3.heap.size, 1, none⟩ = some (.string x.val) ∧ w'.cell? ⟨w3.heap.size, 2, none⟩ = some (.int .i64 x.cre) ∧ w'.cell? ⟨w3.heap.size, 3, none⟩ = some (.int .i64 x.mod) ∧ w'.cell? ⟨w3.heap.size, 4, none⟩ = some (.int .i64 x.ver) ∧ w'.cell? ⟨w3.heap.size, 5, none⟩ = some (.int .i64 x.lea)) (go_keep) (first
    | (go_at_call 82; refine (value_any x ⟨k, 4, 2, nn, v⟩ _).mono ?_; rintro e w5 ⟨rfl, hb⟩; have HB5 := Lib.hid (then_ (new_drew W4) hb); clear hb; obtain ⟨hc, hf⟩ := bcell HB5.out)
    | (go_at_call 84; refine (side_below (sideT x.val v) _).mono ?_; rintro e w' ⟨rfl, rfl⟩))
  all_goals
    have BX := Lib.hid (then_ B4.out HB5.out)
    go_wp2
    go_ret
    exact ⟨retB HR.out.symm, BX.out⟩
theorem holds_43 (A : Option Addr) (n c : Nat) (l : List KV) (k v : ByteArray) (nn : Int) (w : World) (h : KVs w A n c l) (hn : n ≤ 1000000) :
    Calls Try.prog 56 #[.slice A n c, (Cm.mk k 4 3 nn v).agg] w fun e w' => e = .returned (.bool (holdsB l ⟨k, 4, 3, nn, v⟩)) ∧ Below w.heap.size w w' := by
  have Q0 := Lib.hid (own_new w #[.string k, .int .i64 4, .int .i64 3, .int .i64 nn, .string v] 56)
  have H0 := Lib.hid (h.keep (new1 w (Cm.obj ⟨k, 4, 3, nn, v⟩ 56)))
  have HQ : Hid (askB ⟨k, 4, 3, nn, v⟩ = true) := Lib.hid (by simp [askB])
  obtain ⟨x, hx⟩ : ∃ x, x = thingL l k := ⟨_, rfl⟩
  have HR : Hid (holdsB l ⟨k, 4, 3, nn, v⟩ = decide (0 < sideT x.val v)) := Lib.hid (by rw [sideT_gt]; show holdsX (thingL l k) _ = _; rw [← hx]; simp [holdsX, txtB3])
  have HX := Lib.hid hx
  clear h hx
  go_enter Try.func56, Try.ntmps56
  go_wp2_with fail
  refine (mayAsk_any ⟨k, 4, 3, nn, v⟩ _).mono ?_; rintro e w1 ⟨rfl, hb⟩
  rw [HQ.out]
  have B1 := Lib.hid (then_ (new1 w _) hb)
  have Q1 := Lib.hid (Q0.out.below hb)
  have H1 := Lib.hid (H0.out.keep hb)
  have hqw := Q1.out.lt
  clear hb
  have q0 := Q1.out.cell 0 _ rfl
  have q1 := Q1.out.cell 1 _ rfl
  have q2 := Q1.out.cell 2 _ rfl
  have q3 := Q1.out.cell 3 _ rfl
  have q4 := Q1.out.cell 4 _ rfl
  have b2 := then_ (new1 w1 (.cells #[.nilFunc, .func (.func 79) #[] #[], .func (.func 80) #[] #[], .func (.func 81) #[] #[], .func (.func 82) #[] #[]] 108)) (new1 _ (.cells #[.nilFunc, .func (.func 83) #[] #[], .func (.func 84) #[] #[], .func (.func 85) #[] #[]] 111))
  have H2 := Lib.hid (H1.out.keep b2)
  have Q2 := Lib.hid (Q1.out.below b2)
  have W2 := Lib.hid ((own_new w1 #[.nilFunc, .func (.func 79) #[] #[], .func (.func 80) #[] #[], .func (.func 81) #[] #[], .func (.func 82) #[] #[]] 108).alloc (.cells #[.nilFunc, .func (.func 83) #[] #[], .func (.func 84) #[] #[], .func (.func 85) #[] #[]] 111))
  have O2 := Lib.hid (own_new2 w1 (.cells #[.nilFunc, .func (.func 79) #[] #[], .func (.func 80) #[] #[], .func (.func 81) #[] #[], .func (.func 82) #[] #[]] 108) #[.nilFunc, .func (.func 83) #[] #[], .func (.func 84) #[] #[], .func (.func 85) #[] #[]] 111)
  have B2 := Lib.hid (then_ B1.out b2)
  clear b2
  go_wp2_with fail
  refine (find_thing A n c l k _ H2.out hn).mono ?_; rintro e w3 ⟨b, rfl, hb⟩
  rw [← HX.out]
  have S3 := Lib.hid (hb.trans ((new1 w3 (x.obj 63)).mono hb.size))
  clear hb q0 q1 q2 q3 q4
  obtain ⟨W4, hW4⟩ : ∃ W4, W4 = w3.alloc (x.obj 63) := ⟨_, rfl⟩
  have X4 : Hid (Own W4 w3.heap.size 63 #[.string x.key, .string x.val, .int .i64 x.cre, .int .i64 x.mod, .int .i64 x.ver, .int .i64 x.lea]) := Lib.hid (by rw [hW4]; exact own_new _ _ _)
  rw [← hW4] at S3
  go_wp2
  rw [← hW4]
  clear hW4
  have B4 := Lib.hid (then_ B2.out S3.out)
  have Q4 := Lib.hid (Q2.out.below S3.out)
  have W4' := Lib.hid (W2.out.below S3.out)
  have O4 := Lib.hid (O2.out.below S3.out)
  have l1 := Q4.out.lt; have l2 := W4'.out.lt; have l3 := O4.out.lt; have l4 := X4.out.lt
  have q0 := Q4.out.cell 0 _ rfl
  have q1 := Q4.out.cell 1 _ rfl
  have q2 := Q4.out.cell 2 _ rfl
  have q3 := Q4.out.cell 3 _ rfl
  have q4 := Q4.out.cell 4 _ rfl
  have v1 := W4'.out.cell 4 _ rfl
  have v2 := O4.out.cell 3 _ rfl
  have x0 := X4.out.cell 0 _ rfl
  have x1 := X4.out.cell 1 _ rfl
  have x2 := X4.out.cell 2 _ rfl
  have x3 := X4.out.cell 3 _ rfl
  have x4 := X4.out.cell 4 _ rfl
  have x5 := X4.out.cell 5 _ rfl
  go_region_held3 (fun w' => w'.cell? ⟨w.heap.size, 0, none⟩ = some (.string k) ∧ w'.cell? ⟨w.heap.size, 1, none⟩ = some (.int .i64 4) ∧ w'.cell? ⟨w.heap.size, 2, none⟩ = some (.int .i64 3) ∧ w'.cell? ⟨w.heap.size, 3, none⟩ = some (.int .i64 nn) ∧ w'.cell? ⟨w.heap.size, 4, none⟩ = some (.string v) ∧ w'.cell? ⟨w1.heap.size, 4, none⟩ = some (.func (.func 82) #[] #[]) ∧ w'.cell? ⟨w1.heap.size + 1, 3, none⟩ = some (.func (.func 85) #[] #[]) ∧ w'.cell? ⟨w3.heap.size, 0, none⟩ = some (.string x.key) ∧ w'.cell? ⟨w3.heap.size, 1, none⟩ = some (.string x.val) ∧ w'.cell? ⟨w3.heap.size, 2, none⟩ = some (.int .i64 x.cre) ∧ w'.cell? ⟨w3.heap.size, 3, none⟩ = some (.int .i64 x.mod) ∧ w'.cell? ⟨w3.heap.size, 4, none⟩ = some (.int .i64 x.ver) ∧ w'.cell? ⟨w3.heap.size, 5, none⟩ = some (.int .i64 x.lea)) (go_keep) (first
    | (go_at_call 82; refine (value_any x ⟨k, 4, 3, nn, v⟩ _).mono ?_; rintro e w5 ⟨rfl, hb⟩; have HB5 := Lib.hid (then_ (new_drew W4) hb); clear hb; obtain ⟨hc, hf⟩ := bcell HB5.out)
    | (go_at_call 85; refine (side_above (sideT x.val v) _).mono ?_; rintro e w' ⟨rfl, rfl⟩))
  all_goals
    have BX := Lib.hid (then_ B4.out HB5.out)
    go_wp2
    go_ret
    exact ⟨retB HR.out.symm, BX.out⟩
theorem holds_any (A : Option Addr) (n c : Nat) (l : List KV) (q : Cm) (w : World) (h : KVs w A n c l) (hn : n ≤ 1000000) :
    Calls Try.prog 56 #[.slice A n c, q.agg] w fun e w' => e = .returned (.bool (holdsB l q)) ∧ Below w.heap.size w w' := by
  cases hq : askB q with
  | false => exact holds_no A n c l q w hq
  | true =>
    obtain ⟨k, a, b, nn, v⟩ := q
    unfold askB at hq
    simp only [Bool.and_eq_true, decide_eq_true_eq] at hq
    obtain ⟨⟨h1, h2⟩, h3, h4⟩ := hq
    have ha : a = 1 ∨ a = 2 ∨ a = 3 ∨ a = 4 := by omega
    have hb : b = 1 ∨ b = 2 ∨ b = 3 := by omega
    rcases ha with rfl | rfl | rfl | rfl <;> rcases hb with rfl | rfl | rfl
    · exact holds_11 A n c l k v nn w h hn
    · exact holds_12 A n c l k v nn w h hn
    · exact holds_13 A n c l k v nn w h hn
    · exact holds_21 A n c l k v nn w h hn
    · exact holds_22 A n c l k v nn w h hn
    · exact holds_23 A n c l k v nn w h hn
    · exact holds_31 A n c l k v nn w h hn
    · exact holds_32 A n c l k v nn w h hn
    · exact holds_33 A n c l k v nn w h hn
    · exact holds_41 A n c l k v nn w h hn
    · exact holds_42 A n c l k v nn w h hn
    · exact holds_43 A n c l k v nn w h hn
end Go.Proofs.Ytgafkpngnoecaaa.P
