/- Texts of this seat in one: WaSince, WaAll. -/
import Derived.Test.YtkikfaeigoeogaaMgWf
import Derived.Test.YtkikfaeigoeogaaMvAt
import Derived.Deep.RegionHeld3
import Derived.Test.YtkikfaeigoeogaaElAll
/- Layer 7: Since, the program's and the document's, of whatever numbers. -/
namespace Go.Proofs.Ytkikfaeigoeogaa.P
open Go.RowKit
set_option maxHeartbeats 4000000
set_option linter.unusedVariables false
set_option linter.unusedSimpArgs false
set_option maxRecDepth 100000
def sinceF (s : St) (p : ByteArray) (rev most : Int) : List Ev × Int × Int :=
  if most < 1 ∨ 30 < most then ([], 0, 1) else if rev < 1 ∨ s.rev + 1 < rev then ([], 0, 8) else sinceR s p rev most.toNat
theorem sinceF_1 {s : St} {p : ByteArray} {rev most : Int} (h : most < 1 ∨ 30 < most) : sinceF s p rev most = ([], 0, 1) := if_pos h
theorem sinceF_8 {s : St} {p : ByteArray} {rev most : Int} (h : ¬ (most < 1 ∨ 30 < most)) (h8 : rev < 1 ∨ s.rev + 1 < rev) : sinceF s p rev most = ([], 0, 8) := by unfold sinceF; rw [if_neg h, if_pos h8]
theorem sinceF_r {s : St} {p : ByteArray} {rev : Int} {k : Nat} (h1 : 1 ≤ k) (h2 : k ≤ 30) (h8 : ¬ (rev < 1 ∨ s.rev + 1 < rev)) : sinceF s p rev (k : Int) = sinceR s p rev k := by
  unfold sinceF; rw [if_neg (by omega), if_neg h8, Int.toNat_natCast]
theorem SinceEnd.err {r : List Ev × Int × Int} {er : Int} {w w' : World} {e : Ending} (h : r = ([], 0, er)) (he : e = .returned (.tuple #[.slice none 0 0, .int .i64 0, .int .i64 er])) (hb : Below w.heap.size w w') : SinceEnd r w e w' :=
  SinceEnd.mk (l := []) (B := none) (d := 0) h he (RowsOf.bare _) (fun x hx => by cases hx) hb
theorem since_full (s : St) (A : Option Addr) (n c : Nat) (B : Option Addr) (m d : Nat) (p : ByteArray) (rev most : Int) (w : World) (h : StAt w s A n c B m d) (hm : m ≤ 1000) (hp : p.size ≤ maxLen) (hs : s.rev ≤ 1099511627774) :
    Calls Try.prog 12 #[s.agg A n c B m d, .string p, .int .i64 rev, .int .i64 most] w (SinceEnd (sinceF s p rev most) w) := by
  obtain ⟨r1, r2⟩ := h.rev
  by_cases a1 : most < 1
  · have d1 : decide (most < 1) = true := decide_eq_true a1
    have HV := Lib.hid (sinceF_1 (s := s) (p := p) (rev := rev) (.inl a1))
    have B0 := Lib.hid (new1 w (.cells (stCells s A n c B m d) 25))
    clear a1 h hm hp
    go_enter Try.func12, Try.ntmps12
    go_wp2
    exact bodyPost_ret (v := .tuple #[.slice none 0 0, .int .i64 0, .int .i64 1]) (by simp [results, Try.results12, go_sem]) rfl (SinceEnd.err HV.out rfl B0.out)
  · by_cases a2 : 30 < most
    · have d1 : decide (most < 1) = false := decide_eq_false a1
      have d2 : decide (30 < most) = true := decide_eq_true a2
      have HV := Lib.hid (sinceF_1 (s := s) (p := p) (rev := rev) (.inr a2))
      have B0 := Lib.hid (new1 w (.cells (stCells s A n c B m d) 25))
      clear a1 a2 h hm hp
      go_enter Try.func12, Try.ntmps12
      go_wp2
      exact bodyPost_ret (v := .tuple #[.slice none 0 0, .int .i64 0, .int .i64 1]) (by simp [results, Try.results12, go_sem]) rfl (SinceEnd.err HV.out rfl B0.out)
    · by_cases a8 : rev < 1 ∨ s.rev + 1 < rev
      · have d1 : decide (most < 1) = false := decide_eq_false a1
        have d2 : decide (30 < most) = false := decide_eq_false a2
        have HV := Lib.hid (sinceF_8 (p := p) (fun h => h.elim a1 a2) a8)
        have B0 := Lib.hid (new1 w (.cells (stCells s A n c B m d) 25))
        have q0 := (own_new w (stCells s A n c B m d) 25).cell 0 (.int .i64 s.rev) rfl
        by_cases b1 : rev < 1
        · have d3 : decide (rev < 1) = true := decide_eq_true b1
          clear a1 a2 a8 b1 h hm hp
          go_enter Try.func12, Try.ntmps12
          go_wp2
          exact bodyPost_ret (v := .tuple #[.slice none 0 0, .int .i64 0, .int .i64 8]) (by simp [results, Try.results12, go_sem]) rfl (SinceEnd.err HV.out rfl B0.out)
        · have d3 : decide (rev < 1) = false := decide_eq_false b1
          have d4 : decide (s.rev + 1 < rev) = true := decide_eq_true (a8.resolve_left b1)
          clear a1 a2 a8 b1 h hm hp
          go_enter Try.func12, Try.ntmps12
          go_wp2
          exact bodyPost_ret (v := .tuple #[.slice none 0 0, .int .i64 0, .int .i64 8]) (by simp [results, Try.results12, go_sem]) rfl (SinceEnd.err HV.out rfl B0.out)
      · obtain ⟨k, rfl⟩ : ∃ k : Nat, most = k := ⟨most.toNat, by omega⟩
        rw [sinceF_r (by omega) (by omega) a8]
        exact since_any s A n c B m d p rev k w h hm hp hs (by omega) (by omega) (by omega) (by omega)
def mayE (s : St) (rev most : Int) : Int := if most < 1 ∨ 30 < most then 1 else if rev < 1 ∨ s.rev + 1 < rev then 8 else if rev ≤ s.low then 9 else 0
theorem wmay_any (s : St) (A : Option Addr) (n c : Nat) (B : Option Addr) (m d : Nat) (rev most : Int) (w : World) (hr : inI rev) (hs : s.rev ≤ 1099511627774) (h0 : 0 ≤ s.rev) :
    Calls Try.prog 28 #[s.agg A n c B m d, .int .i64 rev, .int .i64 most] w fun e w' => e = .returned (.int .i64 (mayE s rev most)) ∧ Below w.heap.size w w' := by
  have B0 := Lib.hid (new1 w (.cells (stCells s A n c B m d) 25))
  have q0 := (own_new w (stCells s A n c B m d) 25).cell 0 (.int .i64 s.rev) rfl
  have q1 := (own_new w (stCells s A n c B m d) 25).cell 1 (.int .i64 s.low) rfl
  obtain ⟨hr1, hr2⟩ := hr
  by_cases a1 : most < 1
  · have d1 : decide (most < 1) = true := decide_eq_true a1
    have HV : Hid (mayE s rev most = 1) := Lib.hid (if_pos (.inl a1))
    clear a1
    go_enter Try.func28, Try.ntmps28
    go_wp2
    go_ret
    exact ⟨retI HV.out.symm, B0.out⟩
  · by_cases a2 : 30 < most
    · have d1 : decide (most < 1) = false := decide_eq_false a1
      have d2 : decide (30 < most) = true := decide_eq_true a2
      have HV : Hid (mayE s rev most = 1) := Lib.hid (if_pos (.inr a2))
      clear a1 a2
      go_enter Try.func28, Try.ntmps28
      go_wp2
      go_ret
      exact ⟨retI HV.out.symm, B0.out⟩
    · have d1 : decide (most < 1) = false := decide_eq_false a1
      have d2 : decide (30 < most) = false := decide_eq_false a2
      have e1 : ¬ (most < 1 ∨ 30 < most) := fun h => h.elim a1 a2
      by_cases b1 : rev < 1
      · have d3 : decide (rev < 1) = true := decide_eq_true b1
        have HV : Hid (mayE s rev most = 8) := Lib.hid (by unfold mayE; rw [if_neg e1, if_pos (.inl b1)])
        clear a1 a2 b1 e1
        go_enter Try.func28, Try.ntmps28
        go_wp2
        go_ret
        exact ⟨retI HV.out.symm, B0.out⟩
      · have d3 : decide (rev < 1) = false := decide_eq_false b1
        have hw : wrap64 (rev - 1) = rev - 1 := IntWalk.wrap64_in _ (by omega)
        by_cases b2 : s.rev < rev - 1
        · have d4 : decide (s.rev < rev - 1) = true := decide_eq_true b2
          have HV : Hid (mayE s rev most = 8) := Lib.hid (by unfold mayE; rw [if_neg e1, if_pos (.inr (by omega))])
          clear a1 a2 b1 e1 b2
          go_enter Try.func28, Try.ntmps28
          go_wp2
          go_ret
          exact ⟨retI HV.out.symm, B0.out⟩
        · have d4 : decide (s.rev < rev - 1) = false := decide_eq_false b2
          have e2 : ¬ (rev < 1 ∨ s.rev + 1 < rev) := by omega
          by_cases b3 : rev ≤ s.low
          · have d5 : decide (rev ≤ s.low) = true := decide_eq_true b3
            have HV : Hid (mayE s rev most = 9) := Lib.hid (by unfold mayE; rw [if_neg e1, if_neg e2, if_pos b3])
            clear a1 a2 b1 e1 b2 e2 b3
            go_enter Try.func28, Try.ntmps28
            go_wp2
            go_ret
            exact ⟨retI HV.out.symm, B0.out⟩
          · have d5 : decide (rev ≤ s.low) = false := decide_eq_false b3
            have HV : Hid (mayE s rev most = 0) := Lib.hid (by unfold mayE; rw [if_neg e1, if_neg e2, if_neg b3])
            clear a1 a2 b1 e1 b2 e2 b3
            go_enter Try.func28, Try.ntmps28
            go_wp2
            go_ret
            exact ⟨retI HV.out.symm, B0.out⟩
theorem may_err {s : St} {p : ByteArray} {rev most : Int} (h : mayE s rev most ≠ 0) : sinceF s p rev most = ([], 0, mayE s rev most) := by
  unfold mayE at h ⊢
  unfold sinceF
  by_cases h1 : most < 1 ∨ 30 < most
  · rw [if_pos h1, if_pos h1]
  · rw [if_neg h1] at h
    rw [if_neg h1, if_neg h1]
    by_cases h8 : rev < 1 ∨ s.rev + 1 < rev
    · rw [if_pos h8, if_pos h8]
    · rw [if_neg h8] at h
      rw [if_neg h8, if_neg h8]
      by_cases h9 : rev ≤ s.low
      · rw [if_pos h9]; unfold sinceR; rw [if_pos h9]
      · rw [if_neg h9] at h; exact absurd rfl h
theorem may_ok {s : St} {p : ByteArray} {rev most : Int} (h : mayE s rev most = 0) : 1 ≤ most ∧ most ≤ 30 ∧ 1 ≤ rev ∧ rev ≤ s.rev + 1 ∧ sinceF s p rev most = firstV (fltS s p rev) (s.rev + 1) most.toNat := by
  unfold mayE at h
  by_cases h1 : most < 1 ∨ 30 < most
  · rw [if_pos h1] at h; cases h
  · rw [if_neg h1] at h
    by_cases h8 : rev < 1 ∨ s.rev + 1 < rev
    · rw [if_pos h8] at h; cases h
    · rw [if_neg h8] at h
      by_cases h9 : rev ≤ s.low
      · rw [if_pos h9] at h; cases h
      · refine ⟨by omega, by omega, by omega, by omega, ?_⟩
        unfold sinceF sinceR
        rw [if_neg h1, if_neg h8, if_neg h9, since_first]
theorem sincep_any (s : St) (A : Option Addr) (n c : Nat) (B : Option Addr) (m d : Nat) (p : ByteArray) (rev most : Int) (w : World) (h : StAt w s A n c B m d) (hs : MaySt s) (hp : p.size ≤ maxLen) (hr : inI rev) :
    Calls Try.prog 11 #[s.agg A n c B m d, .string p, .int .i64 rev, .int .i64 most] w (SinceEnd (sinceF s p rev most) w) := by
  have B0 := Lib.hid (new1 w (.cells (stCells s A n c B m d) 25))
  have O0 := Lib.hid (own_new w (stCells s A n c B m d) 25)
  have H0 := Lib.hid (h.keep B0.out)
  have hm60 : m ≤ 60 := by rw [← h.ev.len]; exact hs.len
  have HS := Lib.hid hs
  have HP := Lib.hid hp
  have cM := Lib.hid (fun W => wmay_any s A n c B m d rev most W hr hs.max (by have := hs.low; have := hs.le; omega))
  have hm2 := hs.max
  have hm3 : 0 ≤ s.rev := by have := hs.low; have := hs.le; omega
  clear h hs hp hr
  by_cases he : mayE s rev most = 0
  · have HE := Lib.hid he
    obtain ⟨k1, k2, k3, k4, hV⟩ := may_ok (p := p) he
    have HV := Lib.hid hV
    clear he hV
    obtain ⟨k, rfl⟩ : ∃ k : Nat, most = k := ⟨most.toNat, by omega⟩
    rw [Int.toNat_natCast] at HV
    have hw : IntKind.i64.wrap (s.rev + 1) = s.rev + 1 := IntWalk.i64_in _ (by omega)
    have HLN : Hid ((fltS s p rev).length ≤ 60) := Lib.hid (Nat.le_trans (List.length_filter_le _ _) HS.out.len)
    have HSO : Hid ((fltS s p rev).Pairwise fun a b => a.rev ≤ b.rev) := Lib.hid (HS.out.sorted.filter _)
    have HOK : Hid (∀ x ∈ fltS s p rev, x.ok) := Lib.hid (fun x hx => H0.out.ev.ok x (List.mem_filter.1 hx).1)
    go_enter Try.func11, Try.ntmps11
    go_upto_region 1 with fail
    generalize w.alloc (.cells (stCells s A n c B m d) 25) = v0 at *
    have q0 := O0.out.cell 0 (.int .i64 s.rev) rfl
    have q1 := O0.out.cell 1 (.int .i64 s.low) rfl
    have q2 := O0.out.cell 2 (.slice A n c) rfl
    have q3 := O0.out.cell 3 (.slice B m d) rfl
    go_wp2_with fail
    refine (cM.out v0).mono ?_; rintro e v1 ⟨rfl, hb1⟩
    rw [HE.out]
    have O1 := Lib.hid (O0.out.below hb1)
    have B1 := Lib.hid (then_ B0.out hb1)
    have H1 := Lib.hid (H0.out.keep hb1)
    clear hb1 q0 q1 q2 q3 cM O0 B0 H0
    have q0 := O1.out.cell 0 (.int .i64 s.rev) rfl
    have q3 := O1.out.cell 3 (.slice B m d) rfl
    go_upto_region 4 with fail
    have cF : Hid (Calls Try.prog 30 #[.slice B m d, .string p, .int .i64 rev] v1.drew (EvEnd (fltS s p rev) v1.drew)) := Lib.hid (from_any p rev B m d s.log v1.drew (H1.out.keep (new_drew v1)).ev (by omega) HP.out)
    have cI := Lib.hid (fun (X : Option Addr) (dX : Nat) (W : World) (hX : Evs W X (fltS s p rev).length dX (fltS s p rev)) => first_any X (fltS s p rev).length dX (fltS s p rev) k (s.rev + 1) W hX (by have := HLN.out; omega) HSO.out (by omega))
    rw [← HV.out] at cI
    go_region_held3 (fun w' => w'.cell? ⟨w.heap.size, 0, none⟩ = some (.int .i64 s.rev) ∧ w'.cell? ⟨w.heap.size, 3, none⟩ = some (.slice B m d)) (first | exact ⟨q0, q3⟩ | exact ⟨x10, x13⟩ | exact ⟨y10, y13⟩ | go_keep) (first | (go_at_call 30; (with_reducible refine cF.out.mono ?_); rintro e v2 ⟨X, dX, rfl, ho, hb⟩; have D2 := Lib.hid ((new_drew v1).trans hb); have x10 := (O1.out.below D2.out).cell 0 (.int .i64 s.rev) rfl; have x13 := (O1.out.below D2.out).cell 3 (.slice B m d) rfl; have XO := Lib.hid ho; clear ho hb) | (go_at_call 29; (with_reducible refine (cI.out X dX v2 (ev_of_rows (ownG_rows Ev.cells_len8 (by omega) XO.out) HOK.out)).mono ?_); rintro e v3 ⟨Y, dY, rfl, hro, hok, hb⟩; have D3 := Lib.hid (then_ D2.out hb); have y10 := (O1.out.below D3.out).cell 0 (.int .i64 s.rev) rfl; have y13 := (O1.out.below D3.out).cell 3 (.slice B m d) rfl; have HRO := Lib.hid hro; have HOO := Lib.hid hok; clear hro hok hb))
    all_goals (
      go_wp2
      exact bodyPost_ret (v := .tuple #[.slice Y (sinceF s p rev k).1.length dY, .int .i64 (sinceF s p rev k).2.1, .int .i64 (sinceF s p rev k).2.2]) (by simp [results, Try.results11, go_sem]) rfl ⟨Y, dY, rfl, HRO.out, HOO.out, then_ B1.out D3.out⟩)
  · have hne : (mayE s rev most != 0) = true := by simpa using he
    have HV := Lib.hid (may_err (p := p) he)
    clear he
    go_enter Try.func11, Try.ntmps11
    go_upto_region 1 with fail
    generalize w.alloc (.cells (stCells s A n c B m d) 25) = v0 at *
    have q0 := O0.out.cell 0 (.int .i64 s.rev) rfl
    have q1 := O0.out.cell 1 (.int .i64 s.low) rfl
    have q2 := O0.out.cell 2 (.slice A n c) rfl
    have q3 := O0.out.cell 3 (.slice B m d) rfl
    generalize mayE s rev most = er at *
    go_wp2_with fail
    refine (cM.out v0).mono ?_; rintro e v1 ⟨rfl, hb1⟩
    have B1 := Lib.hid (then_ B0.out hb1)
    clear hb1 q0 q1 q2 q3 cM O0 B0 H0
    go_wp2
    refine bodyPost_ret (v := .tuple #[.slice none 0 0, .int .i64 0, .int .i64 er]) (by simp [results, Try.results11, go_sem]) rfl (SinceEnd.err HV.out rfl B1.out)
end Go.Proofs.Ytkikfaeigoeogaa.P
/- Layer 7: All, the program's and the document's, of whatever numbers. GENERATED by wip/gen/waall.py. -/
namespace Go.Proofs.Ytkikfaeigoeogaa.P
open Go.RowKit
set_option maxHeartbeats 4000000
set_option linter.unusedVariables false
set_option linter.unusedSimpArgs false
set_option maxRecDepth 100000
theorem sinceF_ok {s : St} {p : ByteArray} {rev most : Int} {l : List Ev} {nx : Int} (h : sinceF s p rev most = (l, nx, 0)) : 1 ≤ most ∧ most ≤ 30 ∧ 1 ≤ rev ∧ rev ≤ s.rev + 1 ∧ sinceR s p rev most.toNat = (l, nx, 0) := by
  unfold sinceF at h
  by_cases h1 : most < 1 ∨ 30 < most
  · rw [if_pos h1] at h; cases h
  · rw [if_neg h1] at h
    by_cases h8 : rev < 1 ∨ s.rev + 1 < rev
    · rw [if_pos h8] at h; cases h
    · rw [if_neg h8] at h
      exact ⟨by omega, by omega, by omega, by omega, h⟩
theorem sinceF_go {s : St} (hs : MaySt s) {p : ByteArray} {rev most : Int} {l : List Ev} {nx : Int} (h : sinceF s p rev most = (l, nx, 0)) : 1 ≤ rev ∧ rev ≤ s.rev + 1 ∧ (nx ≤ s.rev → rev < nx) ∧ nx ≤ s.rev + 1 ∧ fltS s p rev = l ++ fltS s p nx := by
  obtain ⟨h1, h2, h3, h4, h5⟩ := sinceF_ok h
  obtain ⟨k1, k2, k3⟩ := since_ok hs p h4 (by omega) h5
  exact ⟨h3, h4, k1, k2, k3⟩
theorem sinceF_err {s : St} {p : ByteArray} {rev most er : Int} {l : List Ev} {nx : Int} (h : sinceF s p rev most = (l, nx, er)) (he : er ≠ 0) : l = [] ∧ nx = 0 := by
  unfold sinceF at h
  split at h
  · cases h; exact ⟨rfl, rfl⟩
  · split at h
    · cases h; exact ⟨rfl, rfl⟩
    · unfold sinceR at h
      split at h
      · cases h; exact ⟨rfl, rfl⟩
      · unfold sinceV at h
        split at h
        · cases h; exact absurd rfl he
        · split at h
          · split at h
            · cases h; exact ⟨rfl, rfl⟩
            · cases h; exact absurd rfl he
          · cases h; exact ⟨rfl, rfl⟩
def allG (s : St) (p : ByteArray) (most : Int) : Nat → List Ev → Int → List Ev × Int
  | 0, _, _ => ([], 4)
  | f + 1, acc, rv => if (sinceF s p rv most).2.2 ≠ 0 then ([], (sinceF s p rv most).2.2) else if s.rev < (sinceF s p rv most).2.1 then (acc ++ (sinceF s p rv most).1, 0) else allG s p most f (acc ++ (sinceF s p rv most).1) (sinceF s p rv most).2.1
theorem allG_err {s : St} {p : ByteArray} {most rv er : Int} {f : Nat} {acc l : List Ev} {nx : Int} (h : sinceF s p rv most = (l, nx, er)) (he : er ≠ 0) : allG s p most (f + 1) acc rv = ([], er) := by
  unfold allG; rw [h]; simp only; rw [if_pos he]
theorem allG_end {s : St} {p : ByteArray} {most rv : Int} {f : Nat} {acc l : List Ev} {nx : Int} (h : sinceF s p rv most = (l, nx, 0)) (hn : s.rev < nx) : allG s p most (f + 1) acc rv = (acc ++ l, 0) := by
  unfold allG; rw [h]; simp only; rw [if_neg (by simp), if_pos hn]
theorem allG_on {s : St} {p : ByteArray} {most rv : Int} {f : Nat} {acc l : List Ev} {nx : Int} (h : sinceF s p rv most = (l, nx, 0)) (hn : ¬ s.rev < nx) : allG s p most (f + 1) acc rv = allG s p most f (acc ++ l) nx := by
  conv => lhs; unfold allG
  rw [h]; simp only; rw [if_neg (by simp), if_neg hn]
theorem allG_fuel {s : St} (hs : MaySt s) {p : ByteArray} {most : Int} : ∀ (f g : Nat) (acc : List Ev) (rv : Int), (s.rev + 2 - rv).toNat + 1 ≤ f → (s.rev + 2 - rv).toNat + 1 ≤ g → allG s p most f acc rv = allG s p most g acc rv
  | 0, _, _, _, h, _ => by omega
  | _ + 1, 0, _, _, _, h => by omega
  | f + 1, g + 1, acc, rv, h1, h2 => by
    rcases hq : sinceF s p rv most with ⟨l, nx, er⟩
    by_cases he : er = 0
    · subst he
      by_cases hn : s.rev < nx
      · rw [allG_end hq hn, allG_end hq hn]
      · rw [allG_on hq hn, allG_on hq hn]
        obtain ⟨_, _, k1, k2, _⟩ := sinceF_go hs hq
        have := k1 (by omega)
        exact allG_fuel hs f g _ nx (by omega) (by omega)
    · rw [allG_err hq he, allG_err hq he]
def allF (s : St) (p : ByteArray) (rev most : Int) : List Ev × Int := allG s p most ((s.rev + 2 - rev).toNat + 1) [] rev
theorem allG_acc {s : St} {p : ByteArray} {most : Int} : ∀ (f : Nat) (acc : List Ev) (rv : Int), allG s p most f acc rv = if (allG s p most f [] rv).2 = 0 then (acc ++ (allG s p most f [] rv).1, 0) else ([], (allG s p most f [] rv).2)
  | 0, acc, rv => by unfold allG; simp
  | f + 1, acc, rv => by
    rcases hq : sinceF s p rv most with ⟨l, nx, er⟩
    by_cases he : er = 0
    · subst he
      by_cases hn : s.rev < nx
      · rw [allG_end hq hn, allG_end hq hn]; simp
      · rw [allG_on hq hn, allG_on hq hn, allG_acc f (acc ++ l) nx, allG_acc f ([] ++ l) nx]
        by_cases hz : (allG s p most f [] nx).2 = 0
        · rw [if_pos hz, if_pos hz]; simp
        · rw [if_neg hz, if_neg hz]; simp [hz]
    · rw [allG_err hq he, allG_err hq he]; simp [he]
/-- All is what Since tells, and all behind that. -/
theorem allF_step {s : St} (hs : MaySt s) {p : ByteArray} {rev most : Int} {l : List Ev} {nx : Int} (h : sinceF s p rev most = (l, nx, 0)) (hn : ¬ s.rev < nx) : allF s p rev most = if (allF s p nx most).2 = 0 then (l ++ (allF s p nx most).1, 0) else ([], (allF s p nx most).2) := by
  obtain ⟨_, _, k1, k2, _⟩ := sinceF_go hs h
  have := k1 (by omega)
  unfold allF
  rw [allG_on h hn, List.nil_append, allG_acc, allG_fuel hs _ ((s.rev + 2 - nx).toNat + 1) [] nx (by omega) (Nat.le_refl _)]
theorem allF_flt {s : St} (hs : MaySt s) {p : ByteArray} {most : Int} : ∀ (f : Nat) (rv : Int) (acc : List Ev), (allG s p most f acc rv).2 = 0 → (allG s p most f acc rv).1 = acc ++ fltS s p rv
  | 0, rv, acc, h => by unfold allG at h; cases h
  | f + 1, rv, acc, h => by
    rcases hq : sinceF s p rv most with ⟨l, nx, er⟩
    by_cases he : er = 0
    · subst he
      obtain ⟨_, _, k1, k2, k3⟩ := sinceF_go hs hq
      by_cases hn : s.rev < nx
      · rw [allG_end hq hn]
        rw [k3, flt_end hs p hn, List.append_nil]
      · rw [allG_on hq hn] at h ⊢
        rw [allF_flt hs f nx _ h, k3, List.append_assoc]
    · rw [allG_err hq he] at h; exact absurd h he
theorem allF_is {s : St} (hs : MaySt s) {p : ByteArray} {rev most : Int} (h : (allF s p rev most).2 = 0) : (allF s p rev most).1 = fltS s p rev := by
  have := allF_flt hs (p := p) (most := most) ((s.rev + 2 - rev).toNat + 1) rev [] h
  rwa [List.nil_append] at this
def AllFEnd (r : List Ev × Int) (w : World) (e : Ending) (w' : World) : Prop := ∃ B d, e = .returned (.tuple #[.slice B r.1.length d, .int .i64 r.2]) ∧ RowsOf Ev.cells 8 w' B r.1.length d r.1 ∧ (∀ x ∈ r.1, x.ok) ∧ Below w.heap.size w w'
theorem AllFEnd.mk {r : List Ev × Int} {l : List Ev} {a : Int} {w : World} {e : Ending} {w' : World} {B : Option Addr} {d : Nat} (h : r = (l, a)) (he : e = .returned (.tuple #[.slice B l.length d, .int .i64 a])) (hr : RowsOf Ev.cells 8 w' B l.length d l) (ok : ∀ x ∈ l, x.ok) (hb : Below w.heap.size w w') : AllFEnd r w e w' := by
  subst h
  exact ⟨B, d, he, hr, ok, hb⟩
theorem allr_any (s : St) (A : Option Addr) (n c : Nat) (B : Option Addr) (m d : Nat) (p : ByteArray) (rev most : Int) (w : World) (h : StAt w s A n c B m d) (hs : MaySt s) (hp : p.size ≤ maxLen) (hr : inI rev) :
    Calls Try.prog 16 #[s.agg A n c B m d, .string p, .int .i64 rev, .int .i64 most] w (AllFEnd (allF s p rev most) w) := by
  have hm60 : m ≤ 60 := by rw [← h.ev.len]; exact hs.len
  have hmax := hs.max
  have hlow : 0 ≤ s.rev := by have := hs.low; have := hs.le; omega
  have HS := Lib.hid hs
  have HP := Lib.hid hp
  have H0 := Lib.hid (h.keep (new1 w (.cells (stCells s A n c B m d) 25)))
  have O0 := Lib.hid (own_new w (stCells s A n c B m d) 25)
  have B0 := Lib.hid (new1 w (.cells (stCells s A n c B m d) 25))
  have HL0 : Hid ((fltS s p rev).length ≤ 60) := Lib.hid (Nat.le_trans (List.length_filter_le _ _) hs.len)
  clear h hp hs
  go_enter Try.func16, Try.ntmps16
  go_upto_region 1 with fail
  generalize w.alloc (.cells (stCells s A n c B m d) 25) = w0 at *
  go_wp2
  go_loopw [2, 10] (fun rvv ov wr => ∃ (rv : Int) (X : Option Addr) (dX : Nat) (o : List Ev), rvv = .int .i64 rv ∧ ov = .slice X o.length dX ∧ ownG Ev.cells 8 43 wr w0.heap.size X o.length dX o ∧ inI rv ∧ Hid (o.length + (fltS s p rv).length ≤ 60) ∧ Hid (∀ x ∈ o, x.ok) ∧ Hid (allG s p most ((s.rev + 2 - rv).toNat + 1) o rv = allF s p rev most) ∧ Below w0.heap.size w0 wr) (fun rvv _ _ => (s.rev + 2 - intOf rvv).toNat)
  case atStart => exact ⟨rev, none, 0, [], rfl, rfl, ownG_nil _ _ _ _ _, hr, Lib.hid (by have := HL0.out; simpa using this), Lib.hid (fun x hx => by cases hx), Lib.hid rfl, Below.refl _ _⟩
  case round =>
    rename World => wr
    obtain ⟨rv, X, dX, o, rfl, rfl, hX, g1, HOL, HOK, HO, hb⟩ := hrel
    have XO := Lib.hid hX
    have BR := Lib.hid hb
    have OR := Lib.hid (O0.out.below hb)
    have HR := Lib.hid (H0.out.keep hb)
    have q0 := OR.out.cell 0 (.int .i64 s.rev) rfl
    have q1 := OR.out.cell 1 (.int .i64 s.low) rfl
    have q2 := OR.out.cell 2 (.slice A n c) rfl
    have q3 := OR.out.cell 3 (.slice B m d) rfl
    have cs := since_full s A n c B m d p rv most wr HR.out (by omega) HP.out hmax
    have hol : o.length ≤ 60 := by have := HOL.out; omega
    clear hX hb g1
    rcases hq : sinceF s p rv most with ⟨out, nx, er⟩
    rw [hq] at cs
    have HQ := Lib.hid hq
    clear hq
    unfold SinceEnd at cs
    simp only at cs
    go_wp2_with fail
    refine cs.mono ?_; rintro e w2 ⟨S, dS, rfl, hro, hok, hb⟩
    have RS := Lib.hid hro
    have OKO := Lib.hid hok
    have X2 := Lib.hid (ownG_keep XO.out hb)
    have B2 := Lib.hid (BR.out.trans (hb.mono BR.out.size))
    have O2 := Lib.hid (OR.out.below hb)
    clear hro hok hb cs q0 q1 q2 q3 XO BR OR HR
    by_cases her : er = 0
    · subst her
      obtain ⟨k3, k4, k1, k2, k5⟩ := sinceF_go HS.out HQ.out
      have hout : out.length + o.length ≤ 60 := by
        have h3 := congrArg List.length k5
        rw [List.length_append] at h3
        have := HOL.out
        omega
      have HOL2 : Hid ((o ++ out).length + (fltS s p nx).length ≤ 60) := Lib.hid (by
        have h3 := congrArg List.length k5
        rw [List.length_append] at h3
        have := HOL.out
        rw [List.length_append]
        omega)
      have HOK2 : Hid (∀ x ∈ o ++ out, x.ok) := Lib.hid (fun x hx => (List.mem_append.1 hx).elim (HOK.out x) (OKO.out x))
      have HK1 := Lib.hid k1
      obtain ⟨X', dX', w4, hr4, ho4, hb4, _⟩ := app_ev w0.heap.size X o.length dX o w2 X2.out S out.length dS out RS.out (by omega) B2.out.size
      have O4 := Lib.hid ho4
      have B4 := Lib.hid (B2.out.trans hb4)
      have OO4 := Lib.hid (O2.out.low hb4 O0.out.lt)
      have HLL : Hid (o.length + out.length = (o ++ out).length) := Lib.hid (by rw [List.length_append])
      have nz := OO4.out.cell 0 (.int .i64 s.rev) rfl
      clear hb4 ho4 k1 k5 RS X2
      by_cases hn : s.rev < nx
      · have HEND : Hid (allF s p rev most = (o ++ out, 0)) := Lib.hid (by rw [← HO.out]; exact allG_end HQ.out hn)
        have hd : decide (s.rev < nx) = true := decide_eq_true hn
        clear hn
        go_wp2_with (at_builtin; refine wpList_append_eq _ rfl (.tmp 26) (.tmp 27) _ _ rfl _ _ rfl rfl hr4 ?_)
        rw [HLL.out] at O4 ⊢
        exact bodyPost_ret (v := .tuple #[.slice X' (o ++ out).length dX', .int .i64 0]) (by simp [results, Try.results16, go_sem]) rfl (AllFEnd.mk HEND.out rfl (ownG_rows Ev.cells_len8 (by omega) O4.out) HOK2.out (B0.out.trans (B4.out.mono B0.out.size)))
      · have hlt := HK1.out (by omega)
        have HO2 : Hid (allG s p most ((s.rev + 2 - nx).toNat + 1) (o ++ out) nx = allF s p rev most) := Lib.hid (by
          rw [← HO.out, allG_on HQ.out hn]
          exact allG_fuel HS.out _ _ _ _ (Nat.le_refl _) (by omega))
        have hd : decide (s.rev < nx) = false := decide_eq_false hn
        have hin : inI nx := by unfold inI; omega
        have HLT := Lib.hid hlt
        have HIN := Lib.hid hin
        have HNX : Hid (nx ≤ s.rev) := Lib.hid (by omega)
        clear hn hlt hin
        go_wp2_with (at_builtin; refine wpList_append_eq _ rfl (.tmp 26) (.tmp 27) _ _ rfl _ _ rfl rfl hr4 ?_)
        go_roundw
        case rel => exact ⟨nx, X', dX', o ++ out, rfl, by rw [HLL.out], by rw [HLL.out] at O4; exact O4.out, HIN.out, HOL2, HOK2, HO2, B4.out⟩
        case measure => have h1 := HLT.out; have h2 := HNX.out; simp [intOf]; omega
    · have hne : (er != 0) = true := by simpa using her
      have HEND : Hid (allF s p rev most = ([], er)) := Lib.hid (by rw [← HO.out]; exact allG_err HQ.out her)
      clear her
      go_wp2
      exact bodyPost_ret (v := .tuple #[.slice none 0 0, .int .i64 er]) (by simp [results, Try.results16, go_sem]) rfl (AllFEnd.mk (l := []) (B := none) (d := 0) HEND.out rfl (RowsOf.bare _) (fun x hx => by cases hx) (B0.out.trans (B2.out.mono B0.out.size)))
theorem allp_any (s : St) (A : Option Addr) (n c : Nat) (B : Option Addr) (m d : Nat) (p : ByteArray) (rev most : Int) (w : World) (h : StAt w s A n c B m d) (hs : MaySt s) (hp : p.size ≤ maxLen) (hr : inI rev) :
    Calls Try.prog 15 #[s.agg A n c B m d, .string p, .int .i64 rev, .int .i64 most] w (AllFEnd (allF s p rev most) w) := by
  have hm60 : m ≤ 60 := by rw [← h.ev.len]; exact hs.len
  have hmax := hs.max
  have hlow : 0 ≤ s.rev := by have := hs.low; have := hs.le; omega
  have HS := Lib.hid hs
  have HP := Lib.hid hp
  have H0 := Lib.hid (h.keep (new1 w (.cells (stCells s A n c B m d) 25)))
  have O0 := Lib.hid (own_new w (stCells s A n c B m d) 25)
  have B0 := Lib.hid (new1 w (.cells (stCells s A n c B m d) 25))
  have HL0 : Hid ((fltS s p rev).length ≤ 60) := Lib.hid (Nat.le_trans (List.length_filter_le _ _) hs.len)
  clear h hp hs
  go_enter Try.func15, Try.ntmps15
  go_upto_region 1 with fail
  generalize w.alloc (.cells (stCells s A n c B m d) 25) = w0 at *
  go_wp2
  go_loopw [2, 10] (fun rvv ov wr => ∃ (rv : Int) (X : Option Addr) (dX : Nat) (o : List Ev), rvv = .int .i64 rv ∧ ov = .slice X o.length dX ∧ ownG Ev.cells 8 43 wr w0.heap.size X o.length dX o ∧ inI rv ∧ Hid (o.length + (fltS s p rv).length ≤ 60) ∧ Hid (∀ x ∈ o, x.ok) ∧ Hid (allG s p most ((s.rev + 2 - rv).toNat + 1) o rv = allF s p rev most) ∧ Below w0.heap.size w0 wr) (fun rvv _ _ => (s.rev + 2 - intOf rvv).toNat)
  case atStart => exact ⟨rev, none, 0, [], rfl, rfl, ownG_nil _ _ _ _ _, hr, Lib.hid (by have := HL0.out; simpa using this), Lib.hid (fun x hx => by cases hx), Lib.hid rfl, Below.refl _ _⟩
  case round =>
    rename World => wr
    obtain ⟨rv, X, dX, o, rfl, rfl, hX, g1, HOL, HOK, HO, hb⟩ := hrel
    have XO := Lib.hid hX
    have BR := Lib.hid hb
    have OR := Lib.hid (O0.out.below hb)
    have HR := Lib.hid (H0.out.keep hb)
    have q0 := OR.out.cell 0 (.int .i64 s.rev) rfl
    have q1 := OR.out.cell 1 (.int .i64 s.low) rfl
    have q2 := OR.out.cell 2 (.slice A n c) rfl
    have q3 := OR.out.cell 3 (.slice B m d) rfl
    have cs := sincep_any s A n c B m d p rv most wr HR.out HS.out HP.out g1
    have hol : o.length ≤ 60 := by have := HOL.out; omega
    clear hX hb g1
    rcases hq : sinceF s p rv most with ⟨out, nx, er⟩
    rw [hq] at cs
    have HQ := Lib.hid hq
    clear hq
    unfold SinceEnd at cs
    simp only at cs
    go_wp2_with fail
    refine cs.mono ?_; rintro e w2 ⟨S, dS, rfl, hro, hok, hb⟩
    have RS := Lib.hid hro
    have OKO := Lib.hid hok
    have X2 := Lib.hid (ownG_keep XO.out hb)
    have B2 := Lib.hid (BR.out.trans (hb.mono BR.out.size))
    have O2 := Lib.hid (OR.out.below hb)
    clear hro hok hb cs q0 q1 q2 q3 XO BR OR HR
    by_cases her : er = 0
    · subst her
      obtain ⟨k3, k4, k1, k2, k5⟩ := sinceF_go HS.out HQ.out
      have hout : out.length + o.length ≤ 60 := by
        have h3 := congrArg List.length k5
        rw [List.length_append] at h3
        have := HOL.out
        omega
      have HOL2 : Hid ((o ++ out).length + (fltS s p nx).length ≤ 60) := Lib.hid (by
        have h3 := congrArg List.length k5
        rw [List.length_append] at h3
        have := HOL.out
        rw [List.length_append]
        omega)
      have HOK2 : Hid (∀ x ∈ o ++ out, x.ok) := Lib.hid (fun x hx => (List.mem_append.1 hx).elim (HOK.out x) (OKO.out x))
      have HK1 := Lib.hid k1
      obtain ⟨X', dX', w4, hr4, ho4, hb4, _⟩ := app_ev w0.heap.size X o.length dX o w2 X2.out S out.length dS out RS.out (by omega) B2.out.size
      have O4 := Lib.hid ho4
      have B4 := Lib.hid (B2.out.trans hb4)
      have OO4 := Lib.hid (O2.out.low hb4 O0.out.lt)
      have HLL : Hid (o.length + out.length = (o ++ out).length) := Lib.hid (by rw [List.length_append])
      have nz := OO4.out.cell 0 (.int .i64 s.rev) rfl
      have hw : wrap64 (s.rev + 1) = s.rev + 1 := IntWalk.wrap64_in _ (by omega)
      clear hb4 ho4 k1 k5 RS X2
      by_cases hn : s.rev < nx
      · have HEND : Hid (allF s p rev most = (o ++ out, 0)) := Lib.hid (by rw [← HO.out]; exact allG_end HQ.out hn)
        have hd : (nx == s.rev + 1) = true := by simp; omega
        clear hn
        go_wp2_with (at_builtin; refine wpList_append_eq _ rfl (.tmp 26) (.tmp 27) _ _ rfl _ _ rfl rfl hr4 ?_)
        rw [HLL.out] at O4 ⊢
        exact bodyPost_ret (v := .tuple #[.slice X' (o ++ out).length dX', .int .i64 0]) (by simp [results, Try.results15, go_sem]) rfl (AllFEnd.mk HEND.out rfl (ownG_rows Ev.cells_len8 (by omega) O4.out) HOK2.out (B0.out.trans (B4.out.mono B0.out.size)))
      · have hlt := HK1.out (by omega)
        have HO2 : Hid (allG s p most ((s.rev + 2 - nx).toNat + 1) (o ++ out) nx = allF s p rev most) := Lib.hid (by
          rw [← HO.out, allG_on HQ.out hn]
          exact allG_fuel HS.out _ _ _ _ (Nat.le_refl _) (by omega))
        have hd : (nx == s.rev + 1) = false := by simp; omega
        have hin : inI nx := by unfold inI; omega
        have HLT := Lib.hid hlt
        have HIN := Lib.hid hin
        have HNX : Hid (nx ≤ s.rev) := Lib.hid (by omega)
        clear hn hlt hin
        go_wp2_with (at_builtin; refine wpList_append_eq _ rfl (.tmp 26) (.tmp 27) _ _ rfl _ _ rfl rfl hr4 ?_)
        go_roundw
        case rel => exact ⟨nx, X', dX', o ++ out, rfl, by rw [HLL.out], by rw [HLL.out] at O4; exact O4.out, HIN.out, HOL2, HOK2, HO2, B4.out⟩
        case measure => have h1 := HLT.out; have h2 := HNX.out; simp [intOf]; omega
    · have hne : (er != 0) = true := by simpa using her
      have HEND : Hid (allF s p rev most = ([], er)) := Lib.hid (by rw [← HO.out]; exact allG_err HQ.out her)
      clear her
      go_wp2
      exact bodyPost_ret (v := .tuple #[.slice none 0 0, .int .i64 er]) (by simp [results, Try.results15, go_sem]) rfl (AllFEnd.mk (l := []) (B := none) (d := 0) HEND.out rfl (RowsOf.bare _) (fun x hx => by cases hx) (B0.out.trans (B2.out.mono B0.out.size)))
end Go.Proofs.Ytkikfaeigoeogaa.P
