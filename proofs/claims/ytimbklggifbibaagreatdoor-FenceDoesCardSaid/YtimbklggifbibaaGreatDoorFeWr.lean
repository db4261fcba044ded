/- Layer 20: a write, the program's way and the document's. -/
import Derived.Test.YtimbklggifbibaaGreatDoorFeW
namespace Go.Proofs.YtimbklggifbibaaGreatDoor.P
open Go.RowKit Go.Sort
set_option maxHeartbeats 1000000
set_option linter.unusedVariables false
set_option linter.unusedSimpArgs false
set_option maxRecDepth 100000

theorem below_set3 {B g : Nat} {w w2 : World} (h : Below B w w2) (hg : B ≤ g) (v0 v1 v2 : Value) : Below B w (((w2.setCell ⟨g, 0, none⟩ v0).setCell ⟨g, 1, none⟩ v1).setCell ⟨g, 2, none⟩ v2) :=
  ((h.setCell (p := ⟨g, 0, none⟩) hg _).setCell (p := ⟨g, 1, none⟩) hg _).setCell (p := ⟨g, 2, none⟩) hg _
theorem Acs.other {w : World} {A : Option Addr} {n c : Nat} {l : List Ac} (h : Acs w A n c l) (b i : Nat) (v : Value) (hb : ∀ a, A = some a → a.block ≠ b) : Acs (w.setCell ⟨b, i, none⟩ v) A n c l :=
  ⟨h.row.keep (Lib.grownBy_setCell w b i v) (fun a ha hh => by injection hh with hh; exact hb a ha hh)⟩
theorem Acs.other3 {w : World} {A : Option Addr} {n c : Nat} {l : List Ac} (h : Acs w A n c l) (b : Nat) (v0 v1 v2 : Value) (hb : ∀ a, A = some a → a.block ≠ b) : Acs (((w.setCell ⟨b, 0, none⟩ v0).setCell ⟨b, 1, none⟩ v1).setCell ⟨b, 2, none⟩ v2) A n c l :=
  ((h.other b 0 v0 hb).other b 1 v1 hb).other b 2 v2 hb
/-- How a call ends that tells a resource and an error's number. -/
def RsEnd (r : Rs) (er : Int) (A0 : Option Addr) (n0 c0 : Nat) (w : World) (e : Ending) (w' : World) : Prop := ∃ A n c, e = .returned (.tuple #[r.agg A n c, .int .i64 er]) ∧ RsAt w' r A n c ∧ Below w.heap.size w w' ∧ (er = 0 → ∀ a, A = some a → w.heap.size ≤ a.block) ∧ (er ≠ 0 → A = A0 ∧ n = n0 ∧ c = c0)
theorem RsEnd.mk {r r2 : Rs} {er er2 : Int} {w : World} {e : Ending} {w' : World} {A A0 : Option Addr} {n c n0 c0 : Nat} (h1 : r = r2) (h2 : er = er2) (he : e = .returned (.tuple #[r2.agg A n c, .int .i64 er2])) (hs : RsAt w' r2 A n c) (hb : Below w.heap.size w w') (hf : er2 = 0 → ∀ a, A = some a → w.heap.size ≤ a.block) (ho : er2 ≠ 0 → A = A0 ∧ n = n0 ∧ c = c0) : RsEnd r er A0 n0 c0 w e w' := by
  subst h1 h2; exact ⟨A, n, c, he, hs, hb, hf, ho⟩
theorem absurd_num {p : Prop} {k : Int} (h : k ≠ 0) : k = 0 → p := fun e => absurd e h
abbrev zRs : Array Value := #[.int .i64 0, .string ⟨#[]⟩, .slice none 0 0]
theorem one_inI {x : Ac} (h : oneB x = true) : inI x.tok := by have := oneB_iff.1 h; constructor <;> omega
theorem one_val {x : Ac} (h : oneB x = true) : x.val.size ≤ maxLen := by have := oneB_iff.1 h; unfold maxLen; omega
theorem write_any (r : Rs) (A : Option Addr) (n c : Nat) (x : Ac) (s : Nat → Addr) (w : World) (h : RsAt w r A n c) (hS : Sents w s) :
    Calls Tryz.prog 13 #[r.agg A n c, .int .i64 x.who, .int .i64 x.tok, .string x.val] w (RsEnd (wrR r x) (wrE r x) A n c w) := by
  obtain ⟨W1, hW1⟩ : ∃ W1, W1 = w.alloc (.cells (r.arr A n c) 24) := ⟨_, rfl⟩
  obtain ⟨W2, hW2⟩ : ∃ W2, W2 = W1.alloc (.cells zRs 24) := ⟨_, rfl⟩
  obtain ⟨W3, hW3⟩ : ∃ W3, W3 = W2.alloc (.cells x.arr 46) := ⟨_, rfl⟩
  have s1 : W1.heap.size = w.heap.size + 1 := by rw [hW1]; simp
  have s2 : W2.heap.size = w.heap.size + 2 := by rw [hW2]; simp [s1]
  have b1 : Below w.heap.size w W1 := by rw [hW1]; exact new1 w _
  have b2 : Below w.heap.size w W2 := by rw [hW2]; exact then_ b1 (new1 W1 _)
  have b3 : Below w.heap.size w W3 := by rw [hW3]; exact then_ b2 (new1 W2 _)
  have O4 : Own W3 w.heap.size 24 (r.arr A n c) := by
    rw [hW3, hW2, hW1]; exact ((own_new w _ _).alloc _).alloc _
  have O8 : Own W3 (w.heap.size + 1) 24 zRs := by
    rw [hW3, hW2]; have := (own_new W1 zRs 24).alloc (.cells x.arr 46); rwa [s1] at this
  have O10 : Own W3 (w.heap.size + 2) 46 x.arr := by
    rw [hW3]; have := own_new W2 x.arr 46; rwa [s2] at this
  have cR := Lib.hid (refuses_any r A n c x s W3 (h.keep b3) (hS.keep b3))
  have P4 := Lib.hid O4; have P8 := Lib.hid O8; have P10 := Lib.hid O10
  have B3 := Lib.hid b3
  have H := Lib.hid h
  have S := Lib.hid hS
  have K4 := O4.cell; have K10 := O10.cell
  have q0 := K4 0 _ rfl
  have q1 := K4 1 _ rfl
  have q2 := K4 2 _ rfl
  have p0 := K10 0 _ rfl
  have p1 := K10 1 _ rfl
  have p2 := K10 2 _ rfl
  clear h hS O4 O8 O10 b1 b2 b3 K4 K10 s1 s2
  subst hW2
  subst hW1
  go_enter Tryz.func13, Tryz.ntmps13
  go_wp2_with (rw [← hW3])
  clear q0 q1 q2 p0 p1 p2
  refine cR.out.mono ?_
  rintro e w1 ⟨⟨he, rfl⟩ | ⟨of_, i, hi, he, hc, rfl⟩, hb⟩
  · have HE := Lib.hid he
    have B1 := Lib.hid hb
    have BB := Lib.hid (B3.out.trans (hb.mono B3.out.size))
    have P4' := Lib.hid (P4.out.bel hb)
    have P8' := Lib.hid (P8.out.bel hb)
    have P10' := Lib.hid (P10.out.bel hb)
    have H1 := Lib.hid (H.out.keep BB.out)
    have HL := Lib.hid H.out.len
    have q2 := P4'.out.cell 2 _ rfl
    have p0 := P10'.out.cell 0 _ rfl
    have p1 := P10'.out.cell 1 _ rfl
    have p2 := P10'.out.cell 2 _ rfl
    clear he hb hW3
    obtain ⟨V1, hV1⟩ : ∃ V1, V1 = w1.alloc (.cells x.arr 46) := ⟨_, rfl⟩
    obtain ⟨V2, hV2⟩ : ∃ V2, V2 = V1.alloc (.cells #[.slice A n c, .slice (some ⟨w1.heap.size, 0, none⟩) 1 1] 22) := ⟨_, rfl⟩
    have v1 : V1.heap.size = w1.heap.size + 1 := by rw [hV1]; simp
    have c1 : Below w1.heap.size w1 V1 := by rw [hV1]; exact new1 w1 _
    have c2 : Below w1.heap.size w1 V2 := by rw [hV2]; exact then_ c1 (new1 V1 _)
    have OB : Own V2 (w1.heap.size + 1) 22 #[.slice A n c, .slice (some ⟨w1.heap.size, 0, none⟩) 1 1] := by
      rw [hV2]; have := own_new V1 #[.slice A n c, .slice (some ⟨w1.heap.size, 0, none⟩) 1 1] 22; rwa [v1] at this
    have R1 : Acs V2 (some ⟨w1.heap.size, 0, none⟩) 1 1 [x] := ⟨by
      have hr := rows_new ac_len (e := 46) w1 x x.arr rfl
      rw [← hV1] at hr
      rw [hV2]; exact hr.below (new1 V1 _)⟩
    have hn : n < 40 := by have := (wrE_zero.1 HE.out).2.2; have := HL.out; omega
    have cC := Lib.hid (concat_ac (w1.heap.size + 1) A n c r.log (some ⟨w1.heap.size, 0, none⟩) 1 1 [x] V2 OB (H1.out.log.keep c2) R1 (by omega))
    have B2 := Lib.hid (BB.out.trans (c2.mono BB.out.size))
    have P8'' := Lib.hid (P8'.out.bel c2)
    have hsz : Hid (w.heap.size + 1 < V2.heap.size) := Lib.hid P8''.out.lt
    clear c1 c2 OB R1 hn v1
    subst hV1
    go_wp2_with (first
      | (refine (cC.out).mono ?_; rintro e w2 ⟨A2, c2, rfl, hown, hb⟩
         have HO := Lib.hid (ownA_acs hown)
         have FR : Hid (∀ a, A2 = some a → a.block ≠ w.heap.size + 1) := Lib.hid (fun a ha hh => by
          have h1 := ownG_fresh hown a ha
          have h2 := hsz.out
          omega)
         have FS : Hid (∀ a, A2 = some a → w.heap.size ≤ a.block) := Lib.hid (fun a ha => by
          have h1 := ownG_fresh hown a ha
          have h2 := hsz.out
          omega)
         have P8x := Lib.hid (P8''.out.bel hb)
         have B4 := Lib.hid (B2.out.trans (hb.mono B2.out.size))
         clear hown hb
         have f := P8x.out.frozen
         have r0 := P8x.out.cell 0 _ rfl
         have r1 := P8x.out.cell 1 _ rfl
         have r2 := P8x.out.cell 2 _ rfl
         have hlt := P8x.out.lt)
      | (rw [← hV2]))
    have HX := (wrE_zero.1 HE.out).1
    have HO' : Acs w2 A2 (r.log.length + 1) c2 (r.log ++ [x]) := by have := HO.out; rwa [List.length_append, List.length_singleton] at this
    exact bodyPost_ret (v := .tuple #[.agg #[.int .i64 x.tok, .string x.val, .slice A2 (r.log.length + 1) c2], .int .i64 0]) (by simp [results, Tryz.results13, go_sem, hlt, r0, r1, r2]) rfl
      (RsEnd.mk (r2 := ⟨x.tok, x.val, r.log ++ [x]⟩) (n := r.log.length + 1) (wr_ok HE.out) HE.out rfl ⟨one_inI HX, one_val HX, HO'.other3 _ _ _ _ FR.out⟩ (below_set3 B4.out (Nat.le_succ _) _ _ _) (fun _ => FS.out) (fun hh => absurd rfl hh))
  · have HE := Lib.hid he
    have HC := Lib.hid hc
    have B1 := Lib.hid hb
    have BB := Lib.hid (B3.out.trans (hb.mono B3.out.size))
    have P4' := Lib.hid (P4.out.bel hb)
    have P8' := Lib.hid (P8.out.bel hb)
    have S1 := Lib.hid (S.out.keep BB.out)
    have q0 := P4'.out.cell 0 _ rfl
    have q1 := P4'.out.cell 1 _ rfl
    have q2 := P4'.out.cell 2 _ rfl
    clear he hc hb hW3
    go_wp2
    go_region_held3 (fun w' => w'.cell? ⟨w.heap.size, 0, none⟩ = some (.int .i64 r.high) ∧ w'.cell? ⟨w.heap.size, 1, none⟩ = some (.string r.val) ∧ w'.cell? ⟨w.heap.size, 2, none⟩ = some (.slice A n c)) (go_keep) (first
      | (go_at_call 17; (with_reducible refine (numberOf_any of_ i hi s _ (S1.out.keep (new_drew w1))).mono ?_); rintro e V1 ⟨rfl, hb⟩; have B5 := Lib.hid (then_ (new_drew w1) hb); clear hb; have P4x := Lib.hid (P4'.out.bel B5.out); have P8x := Lib.hid (P8'.out.bel B5.out); have f := P8x.out.frozen; have r0 := P8x.out.cell 0 _ rfl; have r1 := P8x.out.cell 1 _ rfl; have r2 := P8x.out.cell 2 _ rfl; have hlt := P8x.out.lt; clear q0 q1 q2; have q0 := P4x.out.cell 0 _ rfl; have q1 := P4x.out.cell 1 _ rfl; have q2 := P4x.out.cell 2 _ rfl))
    go_wp2
    all_goals
      exact bodyPost_ret (v := .tuple #[r.agg A n c, .int .i64 (codeS i)]) (by simp [results, Tryz.results13, go_sem, hlt, r0, r1, r2]) rfl
        (RsEnd.mk (wr_err HE.out) HC.out.symm rfl (H.out.keep (below_set3 (BB.out.trans (B5.out.mono BB.out.size)) (Nat.le_succ _) _ _ _)) (below_set3 (BB.out.trans (B5.out.mono BB.out.size)) (Nat.le_succ _) _ _ _) (absurd_num (by rw [HC.out]; exact HE.out)) (fun _ => ⟨rfl, rfl, rfl⟩))
theorem ownA_set {w : World} {base g i n c : Nat} {A : Option Addr} {l : List Ac} {v : Value} (h : ownA w base A n c l) (hg : ∀ a, A = some a → a.block ≠ g) : ownA (w.setCell ⟨g, i, none⟩ v) base A n c l := by
  rcases h with ⟨h1, h2 | ⟨k, cap, cur, hv, hbk, hk, h3⟩⟩
  · exact ⟨h1, .inl h2⟩
  · refine ⟨h1, .inr ⟨k, cap, cur, hv, hbk, ?_, h3⟩⟩
    have hlt := blk_lt hk
    have hne : some k ≠ some g := fun e => by
      injection hv with e1
      exact hg _ e1 (Option.some.inj e)
    rw [(Lib.grownBy_setCell w g i v).block k hlt hne]
    exact hk
theorem writer_any (r : Rs) (A : Option Addr) (n c : Nat) (x : Ac) (w : World) (h : RsAt w r A n c) :
    Calls Tryz.prog 19 #[r.agg A n c, .int .i64 x.who, .int .i64 x.tok, .string x.val] w (RsEnd (wrR r x) (wrE r x) A n c w) := by
  obtain ⟨W1, hW1⟩ : ∃ W1, W1 = w.alloc (.cells (r.arr A n c) 24) := ⟨_, rfl⟩
  obtain ⟨W2, hW2⟩ : ∃ W2, W2 = W1.alloc (.cells zRs 24) := ⟨_, rfl⟩
  have s1 : W1.heap.size = w.heap.size + 1 := by rw [hW1]; simp
  have s2 : W2.heap.size = w.heap.size + 2 := by rw [hW2]; simp [s1]
  have b1 : Below w.heap.size w W1 := by rw [hW1]; exact new1 w _
  have b2 : Below w.heap.size w W2 := by rw [hW2]; exact then_ b1 (new1 W1 _)
  have O4 : Own W2 w.heap.size 24 (r.arr A n c) := by
    rw [hW2, hW1]; exact (own_new w _ _).alloc _
  have O8 : Own W2 (w.heap.size + 1) 24 zRs := by
    rw [hW2]; have := own_new W1 zRs 24; rwa [s1] at this
  have c1 := Lib.hid (one_any x W2)
  have B2 := Lib.hid b2
  have H := Lib.hid h
  have HL := Lib.hid h.len
  have S2 := Lib.hid s2
  have P4 := Lib.hid O4; have P8 := Lib.hid O8
  have q0 := O4.cell 0 _ rfl
  have q1 := O4.cell 1 _ rfl
  have q2 := O4.cell 2 _ rfl
  have f := O8.frozen
  have r0 := O8.cell 0 _ rfl
  have r1 := O8.cell 1 _ rfl
  have r2 := O8.cell 2 _ rfl
  have hlt := O8.lt
  clear O4 O8 b1 b2 s1 s2 h
  subst hW1
  cases ho : oneB x with
  | false =>
    have HE := Lib.hid (wrE_one (r := r) ho)
    rw [ho] at c1
    clear ho
    go_enter Tryz.func19, Tryz.ntmps19
    go_wp2_with (rw [← hW2])
    clear hW2
    refine c1.out.mono ?_; rintro e w' ⟨rfl, rfl⟩
    go_wp2
    exact bodyPost_ret (v := .tuple #[r.agg A n c, .int .i64 1]) (by simp [results, Tryz.results19, go_sem, hlt, r0, r1, r2]) rfl
        (RsEnd.mk (wr_err (by rw [HE.out]; decide)) HE.out rfl (H.out.keep (below_set3 B2.out (Nat.le_succ _) _ _ _)) (below_set3 B2.out (Nat.le_succ _) _ _ _) (absurd_num (by decide)) (fun _ => ⟨rfl, rfl, rfl⟩))
  | true =>
    have HO := Lib.hid ho
    rw [ho] at c1
    clear ho
    by_cases h6 : x.tok < r.high
    · have HE := Lib.hid (wrE_stale (r := r) HO.out h6)
      go_enter Tryz.func19, Tryz.ntmps19
      go_wp2_with (rw [← hW2])
      clear hW2
      refine c1.out.mono ?_; rintro e w' ⟨rfl, rfl⟩
      go_wp2
      exact bodyPost_ret (v := .tuple #[r.agg A n c, .int .i64 10]) (by simp [results, Tryz.results19, go_sem, hlt, r0, r1, r2]) rfl
        (RsEnd.mk (wr_err (by rw [HE.out]; decide)) HE.out rfl (H.out.keep (below_set3 B2.out (Nat.le_succ _) _ _ _)) (below_set3 B2.out (Nat.le_succ _) _ _ _) (absurd_num (by decide)) (fun _ => ⟨rfl, rfl, rfl⟩))
    · by_cases h7 : 40 ≤ n
      · have HE := Lib.hid (wrE_full (r := r) HO.out h6 (by rw [HL.out]; exact h7))
        have h7' : (n : Int) ≥ 40 := by omega
        go_enter Tryz.func19, Tryz.ntmps19
        go_wp2_with (rw [← hW2])
        clear hW2
        refine c1.out.mono ?_; rintro e w' ⟨rfl, rfl⟩
        go_wp2
        exact bodyPost_ret (v := .tuple #[r.agg A n c, .int .i64 4]) (by simp [results, Tryz.results19, go_sem, hlt, r0, r1, r2]) rfl
          (RsEnd.mk (wr_err (by rw [HE.out]; decide)) HE.out rfl (H.out.keep (below_set3 B2.out (Nat.le_succ _) _ _ _)) (below_set3 B2.out (Nat.le_succ _) _ _ _) (absurd_num (by decide)) (fun _ => ⟨rfl, rfl, rfl⟩))
      · have HE := Lib.hid ((wrE_zero (r := r)).2 ⟨HO.out, h6, by rw [HL.out]; omega⟩)
        have h7' : ¬ (n : Int) ≥ 40 := by omega
        obtain ⟨W3, hW3⟩ : ∃ W3, W3 = W2.alloc (.cells #[.int .i64 x.tok, .string x.val, .slice none 0 0] 24) := ⟨_, rfl⟩
        have b3 : Below w.heap.size w W3 := by rw [hW3]; exact then_ B2.out (new1 W2 _)
        have o4 : Own W3 w.heap.size 24 (r.arr A n c) := by rw [hW3]; exact P4.out.alloc _
        have o8 : Own W3 (w.heap.size + 1) 24 zRs := by rw [hW3]; exact P8.out.alloc _
        have o10 : Own W3 (W2.heap.size) 24 #[.int .i64 x.tok, .string x.val, .slice none 0 0] := by
          rw [hW3]; exact own_new W2 #[.int .i64 x.tok, .string x.val, .slice none 0 0] 24
        have hA3 := (H.out.keep b3).log
        obtain ⟨B4, d4, w4, hr4, ow4, be4⟩ := app_acs W3.heap.size none 0 0 [] W3 (ownG_nil _ _ _ _ _) A n c r.log hA3 (by omega) (Nat.le_refl _)
        rw [Nat.zero_add] at hr4 ow4
        rw [List.nil_append] at ow4
        have b4 := b3.trans (be4.mono b3.size)
        have o4' := o4.bel be4
        have o8' := o8.bel be4
        have o10' := o10.bel be4
        have fr4 : ∀ a, B4 = some a → a.block ≠ W2.heap.size := fun a ha hh => by
          have h1 := ownG_fresh ow4 a ha
          have h2 := o10.lt
          omega
        obtain ⟨W5, hW5⟩ : ∃ W5, W5 = w4.setCell ⟨W2.heap.size, 2, none⟩ (.slice B4 n d4) := ⟨_, rfl⟩
        have b5 : Below w.heap.size w W5 := by rw [hW5]; exact b4.setCell (p := ⟨W2.heap.size, 2, none⟩) (by show w.heap.size ≤ W2.heap.size; rw [S2.out]; omega) _
        have o8s : Own W5 (w.heap.size + 1) 24 zRs := by rw [hW5]; exact o8'.far (by rw [S2.out]; omega) _ _
        have o10s : Own W5 (W2.heap.size) 24 #[.int .i64 x.tok, .string x.val, .slice B4 n d4] := by rw [hW5]; exact o10'.set 2 _
        have ow5 : ownA W5 W3.heap.size B4 n d4 r.log := by rw [hW5]; exact ownA_set ow4 fr4
        have z45 : W5.heap.size = w4.heap.size := by rw [hW5]; simp [World.setCell]
        have le35 : W3.heap.size ≤ W5.heap.size := by rw [z45]; exact be4.size
        obtain ⟨W6, hW6⟩ : ∃ W6, W6 = W5.alloc (.cells x.arr 46) := ⟨_, rfl⟩
        have b56 : Below W5.heap.size W5 W6 := by rw [hW6]; exact new1 W5 _
        have R1 : Acs W6 (some ⟨W5.heap.size, 0, none⟩) 1 1 [x] := ⟨by rw [hW6]; exact rows_new ac_len (e := 46) W5 x x.arr rfl⟩
        obtain ⟨B7, d7, w7, hr7, ow7, be7⟩ := app_acs W3.heap.size B4 n d4 r.log W6 (ownG_keep ow5 b56) (some ⟨W5.heap.size, 0, none⟩) 1 1 [x] R1 (by omega) (by have := b56.size; omega)
        have o8t : Own w7 (w.heap.size + 1) 24 zRs := ⟨(be7.block _ (by have := o8.lt; omega)).trans (o8s.bel b56).ex⟩
        have o10t : Own w7 (W2.heap.size) 24 #[.int .i64 x.tok, .string x.val, .slice B4 n d4] := ⟨(be7.block _ (by have := o10.lt; omega)).trans (o10s.bel b56).ex⟩
        have fr7 : ∀ a, B7 = some a → W3.heap.size ≤ a.block := fun a ha => ownG_fresh ow7 a ha
        have b7 : Below w.heap.size w w7 := (b5.trans (b56.mono b5.size)).trans (be7.mono b3.size)
        have X8 := Lib.hid o8t; have X10 := Lib.hid o10t; have FR := Lib.hid fr7; have B7x := Lib.hid b7
        have Y4 := Lib.hid o4'; have Y8 := Lib.hid o8'; have Y10 := Lib.hid o10'
        have Z8 := Lib.hid o8s; have Z10 := Lib.hid o10s
        have OW := Lib.hid (ownA_acs ow7)
        have HLT := Lib.hid o10.lt
        have m0 := o4.cell 2 _ rfl
        have m1 := o10.cell 2 _ rfl
        have k1 := o10'.cell 2 _ rfl
        have k2 := o10'.frozen
        have k3 := o10s.cell 2 _ rfl
        have t0 := o10t.cell 0 _ rfl
        have t1 := o10t.cell 1 _ rfl
        have t2 := o10t.cell 2 _ rfl
        have tf := o10t.frozen
        clear o4 o8 o10 hA3 ow4 be4 b4 o4' o8' o10' fr4 b5 o8s o10s ow5 le35 b56 R1 ow7 be7 o8t o10t fr7 b7 b3
        rw [z45] at hr7
        subst hW6
        subst hW5
        subst hW3
        go_enter Tryz.func19, Tryz.ntmps19
        go_wp2_with (rw [← hW2])
        clear hW2
        refine c1.out.mono ?_; rintro e w' ⟨rfl, rfl⟩
        have tk1 : True := trivial
        go_wp2_with (first
          | (at_builtin; have _t := tk1; clear _t tk1; refine wpList_append_eq _ rfl (.tmp 31) (.tmp 33) _ _ rfl _ _ rfl rfl hr4 ?_)
          | (at_builtin; refine wpList_append_eq _ rfl (.tmp 37) (.tmp 42) _ _ rfl _ _ rfl rfl hr7 ?_; clear k1 k2 k3; have g7 := X8.out.frozen; have u0 := X8.out.cell 0 _ rfl; have u1 := X8.out.cell 1 _ rfl; have u2 := X8.out.cell 2 _ rfl; have hl7 := X8.out.lt; have hl8 := X10.out.lt; have n1 : ¬ W2.heap.size = w.heap.size + 1 := (by have := S2.out; omega); have n2 : ¬ w.heap.size + 1 = W2.heap.size := (by have := S2.out; omega)))
        have HX := HO.out
        have e1 : ∀ a, B7 = some a → a.block ≠ W2.heap.size := fun a ha hh => by have h1 := FR.out a ha; have h2 := HLT.out; omega
        have e2 : ∀ a, B7 = some a → a.block ≠ w.heap.size + 1 := fun a ha hh => by have h1 := FR.out a ha; have h2 := HLT.out; have h3 := S2.out; omega
        have BZ := Lib.hid (B7x.out.setCell (p := ⟨W2.heap.size, 2, none⟩) (by show w.heap.size ≤ W2.heap.size; rw [S2.out]; omega) (.slice B7 (n + 1) d7))
        have OZ := Lib.hid (OW.out.other W2.heap.size 2 (.slice B7 (n + 1) d7) e1)
        exact bodyPost_ret (v := .tuple #[.agg #[.int .i64 x.tok, .string x.val, .slice B7 (n + 1) d7], .int .i64 0]) (by simp [results, Tryz.results19, go_sem, hl7, u0, u1, u2, n1, n2]) rfl
          (RsEnd.mk (r2 := ⟨x.tok, x.val, r.log ++ [x]⟩) (n := n + 1) (wr_ok HE.out) HE.out rfl ⟨one_inI HX, one_val HX, OZ.out.other3 _ _ _ _ e2⟩ (below_set3 BZ.out (Nat.le_succ _) _ _ _) (fun _ a ha => by have h1 := FR.out a ha; have h2 := HLT.out; have h3 := S2.out; omega) (fun hh => absurd rfl hh))
end Go.Proofs.YtimbklggifbibaaGreatDoor.P
