/- Layer 6's examples as calls: what each law asks for, too. -/
import Derived.Test.YtgafkpngnoecaaaTxEx
import Derived.Test.YtgafkpngnoecaaaMvSame
import Derived.Deep.RegionHeld3
import Derived.Deep.Cut
import Derived.Deep.DeepCutAuto
namespace Go.Proofs.Ytgafkpngnoecaaa.P
open Go.RowKit Go.Sort
set_option maxHeartbeats 4000000
set_option linter.unusedVariables false
set_option linter.unusedSimpArgs false
set_option maxRecDepth 100000

def DoTo (s' : St) (y : Bool) (es : List Ev) (x : Int) (w : World) (e : Ending) (w' : World) : Prop :=
  ∃ A n c B m d E en ec, e = .returned (.tuple #[s'.agg A n c B m d, .bool y, .slice E en ec, .int .i64 x]) ∧ StAt w' s' A n c B m d ∧ Evs w' E en ec es ∧ Below w.heap.size w w'
theorem do_of {s s' : St} {t : Tx} {y : Bool} {es : List Ev} {x : Int} (h : doE s t = x ∧ doS s t = s' ∧ doV s t = es ∧ doY s t = y) {w : World} {e : Ending} {w' : World} (k : DoEnd s t w e w') : DoTo s' y es x w e w' := by
  obtain ⟨h1, h2, h3, h4⟩ := h
  subst h1 h2 h3 h4
  exact k
theorem yx_at (w : World) : StAt w X0 none 0 0 none 0 0 := ⟨KVs.bare _, evs_bare _, by simp [inI], by simp [inI]⟩
theorem ysize_alloc (w : World) (o : Obj) : w.heap.size + 1 = (w.alloc o).heap.size := by
  show _ = (w.heap.push _).size
  rw [Array.size_push]
/-- What stands behind a deed that a law's example does: the box that holds the store, the rest in its variables. -/
def Done (s : St) (y : Bool) (es : List Ev) (x : Int) (w : World) (v1 v2 v3 v4 : Value) (wx : World) : Prop :=
  ∃ b A n c B m d E en ec, v1 = .pointer (some ⟨b, 0, none⟩) ∧ v2 = .bool y ∧ v3 = .slice E en ec ∧ v4 = .int .i64 x ∧ StAt wx s A n c B m d ∧ Evs wx E en ec es ∧ Own wx b 25 #[.int .i64 s.rev, .int .i64 s.low, .slice A n c, .slice B m d] ∧ Below w.heap.size w wx
theorem done_last {s : St} {y : Bool} {es : List Ev} {x : Int} {w w5 : World} {A : Option Addr} {n c : Nat} {B : Option Addr} {m d : Nat} {E : Option Addr} {en ec : Nat} (h : StAt w5 s A n c B m d) (g : Evs w5 E en ec es) (hb : Below w.heap.size w w5) :
    Done s y es x w (.pointer (some ⟨w5.heap.size, 0, none⟩)) (.bool y) (.slice E en ec) (.int .i64 x) (w5.alloc (.cells #[.int .i64 s.rev, .int .i64 s.low, .slice A n c, .slice B m d] 25)) :=
  ⟨_, _, _, _, _, _, _, _, _, _, rfl, rfl, rfl, rfl, h.keep (new1 _ _), g.keep (new1 _ _), own_new _ _ _, then_ hb (new1 _ _)⟩
theorem done_old {s : St} {y : Bool} {es : List Ev} {x : Int} {w w5 : World} {b : Nat} {A : Option Addr} {n c : Nat} {B : Option Addr} {m d : Nat} {E : Option Addr} {en ec : Nat} (o : Own w5 b 25 zSt) (h : StAt w5 s A n c B m d) (g : Evs w5 E en ec es) (hb : Below w.heap.size w w5) (hle : w.heap.size ≤ b) :
    Done s y es x w (.pointer (some ⟨b, 0, none⟩)) (.bool y) (.slice E en ec) (.int .i64 x) ((((w5.setCell ⟨b, 0, none⟩ (.int .i64 s.rev)).setCell ⟨b, 1, none⟩ (.int .i64 s.low)).setCell ⟨b, 2, none⟩ (.slice A n c)).setCell ⟨b, 3, none⟩ (.slice B m d)) :=
  ⟨_, _, _, _, _, _, _, _, _, _, rfl, rfl, rfl, rfl, st_after4 h o _ _ _ _, evs_after4 g (ev_ne g o z_bool) _ _ _ _, (((o.set 0 (.int .i64 s.rev)).set 1 (.int .i64 s.low)).set 2 (.slice A n c)).set 3 (.slice B m d), below_set4 hb hle _ _ _ _⟩
theorem u1 (A1 : Option Addr) (n1 c1 : Nat) (B1 : Option Addr) (m1 d1 : Nat) (C1 : Option Addr) (o1 e1 : Nat) (w : World) (g : TxAt w (putT tA tV 5) A1 n1 c1 B1 m1 d1 C1 o1 e1) :
    Calls Try.prog 26 #[X0.agg none 0 0 none 0 0, (putT tA tV 5).agg A1 n1 c1 B1 m1 d1 C1 o1 e1] w (DoTo Y1 true [f1] 0 w) := (do_any X0 none 0 0 none 0 0 _ A1 n1 c1 B1 m1 d1 C1 o1 e1 w (yx_at w) g x0may).mono fun e w' k => do_of z1 k
theorem u2 (A : Option Addr) (n c : Nat) (B : Option Addr) (m d : Nat) (A1 : Option Addr) (n1 c1 : Nat) (B1 : Option Addr) (m1 d1 : Nat) (C1 : Option Addr) (o1 e1 : Nat) (w : World) (h : StAt w Y1 A n c B m d) (g : TxAt w (putT tA tW 6) A1 n1 c1 B1 m1 d1 C1 o1 e1) :
    Calls Try.prog 26 #[Y1.agg A n c B m d, (putT tA tW 6).agg A1 n1 c1 B1 m1 d1 C1 o1 e1] w (DoTo Y1 false [] 0 w) := (do_any Y1 A n c B m d _ A1 n1 c1 B1 m1 d1 C1 o1 e1 w h g y1may).mono fun e w' k => do_of z2 k
theorem u3 (A : Option Addr) (n c : Nat) (B : Option Addr) (m d : Nat) (A1 : Option Addr) (n1 c1 : Nat) (B1 : Option Addr) (m1 d1 : Nat) (C1 : Option Addr) (o1 e1 : Nat) (w : World) (h : StAt w Y1 A n c B m d) (g : TxAt w (dropT tA 2) A1 n1 c1 B1 m1 d1 C1 o1 e1) :
    Calls Try.prog 26 #[Y1.agg A n c B m d, (dropT tA 2).agg A1 n1 c1 B1 m1 d1 C1 o1 e1] w (DoTo Y1 false [] 0 w) := (do_any Y1 A n c B m d _ A1 n1 c1 B1 m1 d1 C1 o1 e1 w h g y1may).mono fun e w' k => do_of z3 k
theorem u4 (A : Option Addr) (n c : Nat) (B : Option Addr) (m d : Nat) (A1 : Option Addr) (n1 c1 : Nat) (B1 : Option Addr) (m1 d1 : Nat) (C1 : Option Addr) (o1 e1 : Nat) (w : World) (h : StAt w Y1 A n c B m d) (g : TxAt w (dropT tA 1) A1 n1 c1 B1 m1 d1 C1 o1 e1) :
    Calls Try.prog 26 #[Y1.agg A n c B m d, (dropT tA 1).agg A1 n1 c1 B1 m1 d1 C1 o1 e1] w (DoTo Y2 true [f2] 0 w) := (do_any Y1 A n c B m d _ A1 n1 c1 B1 m1 d1 C1 o1 e1 w h g y1may).mono fun e w' k => do_of z4 k
theorem u5 (A : Option Addr) (n c : Nat) (B : Option Addr) (m d : Nat) (A1 : Option Addr) (n1 c1 : Nat) (B1 : Option Addr) (m1 d1 : Nat) (C1 : Option Addr) (o1 e1 : Nat) (w : World) (h : StAt w Y2 A n c B m d) (g : TxAt w (t5) A1 n1 c1 B1 m1 d1 C1 o1 e1) :
    Calls Try.prog 26 #[Y2.agg A n c B m d, (t5).agg A1 n1 c1 B1 m1 d1 C1 o1 e1] w (DoTo Y2 false [] 1 w) := (do_any Y2 A n c B m d _ A1 n1 c1 B1 m1 d1 C1 o1 e1 w h g y2may).mono fun e w' k => do_of z5 k
theorem q5_ok : q5.ok := ⟨by unfold maxLen; decide, by simp [inI], by simp [inI], by simp [inI], by unfold maxLen; decide⟩
theorem u6 (A : Option Addr) (n c : Nat) (B : Option Addr) (m d : Nat) (w : World) (h : StAt w Y2 A n c B m d) :
    Calls Try.prog 26 #[Y2.agg A n c B m d, .agg #[.slice (some ⟨w.heap.size, 0, none⟩) 1 1, .slice none 0 0, .slice none 0 0]] (w.alloc (q5.obj 56)) (DoTo Y2 false [] 1 (w.alloc (q5.obj 56))) :=
  u5 A n c B m d _ 1 1 none 0 0 none 0 0 _ (h.keep (new1 _ _)) ⟨cms_one (by show (w.heap.push _)[_]? = _; rw [Array.getElem?_push, if_pos rfl]) q5_ok, Mus.bare _, Mus.bare _⟩
theorem u7 (A : Option Addr) (n c : Nat) (w : World) (h : KVs w A n c [g1]) : Calls Try.prog 56 #[.slice A n c, q6.agg] w fun e w' => e = .returned (.bool true) ∧ Below w.heap.size w w' := by
  have k := holds_any A n c [g1] q6 w h (by have := h.len; simp at this; omega)
  rwa [h6] at k
theorem u8 (A : Option Addr) (n c : Nat) (w : World) (h : KVs w A n c [g1]) : Calls Try.prog 56 #[.slice A n c, q7.agg] w fun e w' => e = .returned (.bool false) ∧ Below w.heap.size w w' := by
  have k := holds_any A n c [g1] q7 w h (by have := h.len; simp at this; omega)
  rwa [h7] at k
theorem u9 (w : World) : Calls Try.prog 56 #[.slice none 0 0, (madeC tA 0).agg] w fun e w' => e = .returned (.bool true) ∧ Below w.heap.size w w' := by
  have k := holds_any none 0 0 [] (madeC tA 0) w (KVs.bare _) (by omega)
  rwa [h8] at k
theorem cms_two {w : World} {g : Nat} {x y : Cm} {cs : Array Value} (hcs : cs = #[.string x.key, .int .i64 x.what, .int .i64 x.how, .int .i64 x.n, .string x.val, .string y.key, .int .i64 y.what, .int .i64 y.how, .int .i64 y.n, .string y.val]) (h : w.heap[g]? = some (.cells cs 56)) (ok : x.ok) (ok2 : y.ok) : Cms w (some ⟨g, 0, none⟩) 2 2 [x, y] := by
  subst hcs
  refine ⟨⟨rfl, Nat.le_refl _, by unfold maxLen; omega, fun _ => ⟨_, rfl, ?_, fun i z hz => ?_⟩, fun h => by cases h⟩, fun z hz => (by simp at hz; rcases hz with h | h <;> (rw [h]; assumption))⟩
  · rcases Nat.lt_or_ge g w.heap.size with hlt | hge
    · exact hlt
    · rw [Array.getElem?_eq_none hge] at h; cases h
  · have key : ∀ (k j : Nat) (v : Value), (#[.string x.key, .int .i64 x.what, .int .i64 x.how, .int .i64 x.n, .string x.val, .string y.key, .int .i64 y.what, .int .i64 y.how, .int .i64 y.n, .string y.val] : Array Value)[k * 5 + j]? = some v → w.cell? ⟨g, k * 5 + j, none⟩ = some v := fun k j v hv => by
      rw [World.cell?]; simp only [h]; exact hv
    have e0 : ∀ k, (⟨g, 0, none⟩ : Addr).add (k * 5) = ⟨g, k * 5, none⟩ := fun k => by
      unfold Addr.add; split
      · rename_i h; rw [h]
      · simp
    match i, hz with
    | 0, hz =>
      simp at hz; subst hz
      intro j v hv
      rw [e0]
      have hk := key 0 j v (by simp [Cm.cells] at hv ⊢; match j, hv with
        | 0, hv => simpa using hv
        | 1, hv => simpa using hv
        | 2, hv => simpa using hv
        | 3, hv => simpa using hv
        | 4, hv => simpa using hv
        | (j + 5), hv => simp at hv)
      unfold subA
      split
      · rename_i hj; subst hj; exact hk
      · simpa using hk
    | 1, hz =>
      simp at hz; subst hz
      intro j v hv
      rw [e0]
      have hk := key 1 j v (by simp [Cm.cells] at hv ⊢; match j, hv with
        | 0, hv => simpa using hv
        | 1, hv => simpa using hv
        | 2, hv => simpa using hv
        | 3, hv => simpa using hv
        | 4, hv => simpa using hv
        | (j + 5), hv => simp at hv)
      unfold subA
      split
      · rename_i hj; subst hj; exact hk
      · simpa using hk
    | (i + 2), hz => simp at hz
theorem u10 (A : Option Addr) (n c : Nat) (w : World) (h : KVs w A n c [g1]) (cs : Array Value) (hcs : cs = #[.string tA, .int .i64 1, .int .i64 1, .int .i64 1, .string tN, .string tA, .int .i64 1, .int .i64 1, .int .i64 0, .string tN]) :
    Calls Try.prog 57 #[.slice A n c, .slice (some ⟨w.heap.size, 0, none⟩) 2 2] (w.alloc (.cells cs 56)) fun e w' => e = .returned (.bool false) ∧ Below (w.alloc (.cells cs 56)).heap.size (w.alloc (.cells cs 56)) w' := by
  have k := all_any A n c [g1] (some ⟨w.heap.size, 0, none⟩) 2 2 [madeC tA 1, madeC tA 0] _ (h.keep (new1 w (.cells cs 56))) (cms_two hcs (by show (w.heap.push _)[_]? = _; rw [Array.getElem?_push, if_pos rfl]) (madeC_ok (by unfold maxLen; decide) (by simp [inI])) (madeC_ok (by unfold maxLen; decide) (by simp [inI]))) (by have := h.len; simp at this; omega)
  rwa [h9] at k
theorem u11 (A : Option Addr) (n c : Nat) (B : Option Addr) (m d : Nat) (w : World) (h : StAt w Y1 A n c B m d) : Calls Try.prog 15 #[Y1.agg A n c B m d] w (SomeKVs w [g1]) := by
  have := now_any Y1 A n c B m d w h (by have h1 := h.kv.len; have h2 := h.ev.len; simp at h1 h2; omega)
  rwa [y1now] at this
theorem live_any (w : World) : Calls Try.prog 25 #[] w fun e w' => e = .returned (.bool true) ∧ Below w.heap.size w w' := by
  go_enter Try.func25, Try.ntmps25
  go_upto_region 1 with fail
  go_cut [1, 2, 3, 4] (fun p1 p2 p3 p4 wx => Done Y1 true [f1] 0 w p1 p2 p3 p4 wx)
  case first =>
    go_wp2_with fail
    refine (new_any _).mono ?_; rintro e w1 ⟨rfl, hb⟩
    have D1 := Lib.hid hb; clear hb
    go_wp2_with fail
    refine (put_any tA tV 5 _ (by unfold maxLen; decide) (by unfold maxLen; decide) (by simp [inI])).mono ?_; rintro e w2 ⟨A1, n1, c1, B1, m1, d1, C1, o1, e1, rfl, h1, hb⟩
    have D2 := Lib.hid (then_ D1.out hb); have G2 := Lib.hid h1; clear hb h1
    go_wp2_with fail
    refine (u1 A1 n1 c1 B1 m1 d1 C1 o1 e1 _ G2.out).mono ?_; rintro e w3 ⟨A2, n2, c2, B2, m2, d2, E2, en2, ec2, rfl, h2, v2, hb⟩
    have D3 := Lib.hid (then_ D2.out hb); have K2 := Lib.hid h2; have V2 := Lib.hid v2; clear hb h2 v2
    go_wp2_with fail
    go_meet
    exact done_last K2.out V2.out D3.out
  case rest =>
  rename World => W1
  obtain ⟨b1, A1, n1, c1, B1, m1, d1, E1, en1, ec1, rfl, rfl, rfl, rfl, hk, hv, ho, hb⟩ := hcut
  obtain rfl : en1 = 1 := hv.len.symm
  have S_1 := Lib.hid hb; clear hb
  have B_1 := Lib.hid (S_1.out)
  clear S_1
  have K1_2 := Lib.hid (hk)
  have V1_3 := Lib.hid (hv)
  have R1_4 := Lib.hid (ho)
  clear hk hv ho
  go_upto_region 2 with fail
  go_cut [5, 6, 7, 8] (fun p1 p2 p3 p4 wx => Done Y1 false [] 0 W1 p1 p2 p3 p4 wx)
  case first =>
    have lb := R1_4.out.lt
    have nlb := Nat.ne_of_lt lb
    have nrb := Nat.ne_of_gt lb
    have x0 := R1_4.out.cell 0 _ rfl
    have x1 := R1_4.out.cell 1 _ rfl
    have x2 := R1_4.out.cell 2 _ rfl
    have x3 := R1_4.out.cell 3 _ rfl
    have tk1 : True := trivial
    go_wp2
    go_region_held3 (fun w' => w'.cell? ⟨b1, 0, none⟩ = some (.int .i64 1) ∧ w'.cell? ⟨b1, 1, none⟩ = some (.int .i64 0) ∧ w'.cell? ⟨b1, 2, none⟩ = some (.slice A1 n1 c1) ∧ w'.cell? ⟨b1, 3, none⟩ = some (.slice B1 m1 d1)) (go_keep) (first
      | (go_at_call 28; have _t := tk1; clear _t tk1; (with_reducible refine (put_any tA tW 6 _ (by unfold maxLen; decide) (by unfold maxLen; decide) (by simp [inI])).mono ?_); rintro e w4 ⟨Ax, nx, cx, Bx, mx, dx, Cx, ox, ex, rfl, h4, hb⟩; have H4 : Hid (Below W1.heap.size W1 w4) := Lib.hid (by first | exact then_ (new_drew W1) hb | exact then_ (then_ (new1 W1 _) (new_drew _)) hb | exact then_ (then_ (new_drew W1) (new1 _ _)) hb); (try (have Z4 : Hid (Own w4 W1.heap.size 25 zSt) := Lib.hid (((own_new W1 zSt 25).below (new_drew _)).below hb))); have G4 := Lib.hid h4; clear h4 hb; obtain ⟨hc4, hf4⟩ := bcell H4.out; have l4 := (R1_4.out.below H4.out).lt; have nl4 := Nat.ne_of_lt l4; have nr4 := Nat.ne_of_gt l4; have tk2 : True := trivial)
      | (go_at_call 26; have _t := tk2; clear _t tk2; (with_reducible refine (u2 A1 n1 c1 B1 m1 d1 Ax nx cx Bx mx dx Cx ox ex _ (by first | exact K1_2.out.keep H4.out | exact K1_2.out.keep (then_ H4.out (new1 _ _))) (by first | exact G4.out | exact G4.out.keep (new1 _ _))).mono ?_); rintro e w5 ⟨A5, n5, c5, B5, m5, d5, E5, en5, ec5, rfl, h5, v5, hb⟩; have H5 : Hid (Below W1.heap.size W1 w5) := Lib.hid (by first | exact then_ H4.out hb | exact then_ (then_ H4.out (new1 _ _)) hb); (first | (have Z5 := Lib.hid (Z4.out.below hb)) | (have Z5 : Hid (Own w5 w4.heap.size 25 zSt) := Lib.hid ((own_new w4 zSt 25).below hb)) | skip); (first | (have zf := Z5.out.frozen; have zl := Z5.out.lt; have z0 := Z5.out.cell 0 _ rfl; have z1 := Z5.out.cell 1 _ rfl; have z2 := Z5.out.cell 2 _ rfl; have z3 := Z5.out.cell 3 _ rfl) | skip); have K5 := Lib.hid h5; have V5 := Lib.hid v5; clear h5 v5 hb; have q4 := H4.out.size; clear hc4 hf4; obtain ⟨hc5, hf5⟩ := bcell H5.out; have l5 := (R1_4.out.below H5.out).lt))
    all_goals
      clear hc5 hf5
    all_goals
      go_wp2_with fail
      go_meet
      first
        | exact done_last K5.out V5.out H5.out
        | exact done_old Z5.out K5.out V5.out H5.out (by omega)
  case rest =>
  rename World => W2
  obtain ⟨b2, A2, n2, c2, B2, m2, d2, E2, en2, ec2, rfl, rfl, rfl, rfl, hk, hv, ho, hb⟩ := hcut
  obtain rfl : en2 = 0 := hv.len.symm
  have S_2 := Lib.hid hb; clear hb
  have K1_5 := Lib.hid (K1_2.out.keep S_2.out)
  have V1_6 := Lib.hid (V1_3.out.keep S_2.out)
  have R1_7 := Lib.hid (R1_4.out.below S_2.out)
  have B_8 := Lib.hid (then_ B_1.out S_2.out)
  clear K1_2 V1_3 R1_4 B_1
  clear S_2
  have K2_9 := Lib.hid (hk)
  have V2_10 := Lib.hid (hv)
  have R2_11 := Lib.hid (ho)
  clear hk hv ho
  clear V1_6
  clear V2_10
  go_upto_region 3 with fail
  go_cut [9, 10, 11, 12] (fun p1 p2 p3 p4 wx => Done Y1 false [] 0 W2 p1 p2 p3 p4 wx)
  case first =>
    have lb := R2_11.out.lt
    have nlb := Nat.ne_of_lt lb
    have nrb := Nat.ne_of_gt lb
    have x0 := R2_11.out.cell 0 _ rfl
    have x1 := R2_11.out.cell 1 _ rfl
    have x2 := R2_11.out.cell 2 _ rfl
    have x3 := R2_11.out.cell 3 _ rfl
    have tk1 : True := trivial
    go_wp2
    go_region_held3 (fun w' => w'.cell? ⟨b2, 0, none⟩ = some (.int .i64 1) ∧ w'.cell? ⟨b2, 1, none⟩ = some (.int .i64 0) ∧ w'.cell? ⟨b2, 2, none⟩ = some (.slice A2 n2 c2) ∧ w'.cell? ⟨b2, 3, none⟩ = some (.slice B2 m2 d2)) (go_keep) (first
      | (go_at_call 30; have _t := tk1; clear _t tk1; (with_reducible refine (drop_any tA 2 _ (by unfold maxLen; decide) (by simp [inI])).mono ?_); rintro e w4 ⟨Ax, nx, cx, Bx, mx, dx, Cx, ox, ex, rfl, h4, hb⟩; have H4 : Hid (Below W2.heap.size W2 w4) := Lib.hid (by first | exact then_ (new_drew W2) hb | exact then_ (then_ (new1 W2 _) (new_drew _)) hb | exact then_ (then_ (new_drew W2) (new1 _ _)) hb); (try (have Z4 : Hid (Own w4 W2.heap.size 25 zSt) := Lib.hid (((own_new W2 zSt 25).below (new_drew _)).below hb))); have G4 := Lib.hid h4; clear h4 hb; obtain ⟨hc4, hf4⟩ := bcell H4.out; have l4 := (R2_11.out.below H4.out).lt; have nl4 := Nat.ne_of_lt l4; have nr4 := Nat.ne_of_gt l4; have tk2 : True := trivial)
      | (go_at_call 26; have _t := tk2; clear _t tk2; (with_reducible refine (u3 A2 n2 c2 B2 m2 d2 Ax nx cx Bx mx dx Cx ox ex _ (by first | exact K2_9.out.keep H4.out | exact K2_9.out.keep (then_ H4.out (new1 _ _))) (by first | exact G4.out | exact G4.out.keep (new1 _ _))).mono ?_); rintro e w5 ⟨A5, n5, c5, B5, m5, d5, E5, en5, ec5, rfl, h5, v5, hb⟩; have H5 : Hid (Below W2.heap.size W2 w5) := Lib.hid (by first | exact then_ H4.out hb | exact then_ (then_ H4.out (new1 _ _)) hb); (first | (have Z5 := Lib.hid (Z4.out.below hb)) | (have Z5 : Hid (Own w5 w4.heap.size 25 zSt) := Lib.hid ((own_new w4 zSt 25).below hb)) | skip); (first | (have zf := Z5.out.frozen; have zl := Z5.out.lt; have z0 := Z5.out.cell 0 _ rfl; have z1 := Z5.out.cell 1 _ rfl; have z2 := Z5.out.cell 2 _ rfl; have z3 := Z5.out.cell 3 _ rfl) | skip); have K5 := Lib.hid h5; have V5 := Lib.hid v5; clear h5 v5 hb; have q4 := H4.out.size; clear hc4 hf4; obtain ⟨hc5, hf5⟩ := bcell H5.out; have l5 := (R2_11.out.below H5.out).lt))
    all_goals
      clear hc5 hf5
    all_goals
      go_wp2_with fail
      go_meet
      first
        | exact done_last K5.out V5.out H5.out
        | exact done_old Z5.out K5.out V5.out H5.out (by omega)
  case rest =>
  rename World => W3
  obtain ⟨b3, A3, n3, c3, B3, m3, d3, E3, en3, ec3, rfl, rfl, rfl, rfl, hk, hv, ho, hb⟩ := hcut
  obtain rfl : en3 = 0 := hv.len.symm
  have S_3 := Lib.hid hb; clear hb
  have K1_12 := Lib.hid (K1_5.out.keep S_3.out)
  have R1_13 := Lib.hid (R1_7.out.below S_3.out)
  have K2_14 := Lib.hid (K2_9.out.keep S_3.out)
  have R2_15 := Lib.hid (R2_11.out.below S_3.out)
  have B_16 := Lib.hid (then_ B_8.out S_3.out)
  clear K1_5 R1_7 K2_9 R2_11 B_8
  clear S_3
  have K3_17 := Lib.hid (hk)
  have V3_18 := Lib.hid (hv)
  have R3_19 := Lib.hid (ho)
  clear hk hv ho
  clear V3_18
  go_upto_region 4 with fail
  go_cut [13, 14, 15, 16] (fun p1 p2 p3 p4 wx => Done Y2 true [f2] 0 W3 p1 p2 p3 p4 wx)
  case first =>
    have lb := R3_19.out.lt
    have nlb := Nat.ne_of_lt lb
    have nrb := Nat.ne_of_gt lb
    have x0 := R3_19.out.cell 0 _ rfl
    have x1 := R3_19.out.cell 1 _ rfl
    have x2 := R3_19.out.cell 2 _ rfl
    have x3 := R3_19.out.cell 3 _ rfl
    have tk1 : True := trivial
    go_wp2
    go_region_held3 (fun w' => w'.cell? ⟨b3, 0, none⟩ = some (.int .i64 1) ∧ w'.cell? ⟨b3, 1, none⟩ = some (.int .i64 0) ∧ w'.cell? ⟨b3, 2, none⟩ = some (.slice A3 n3 c3) ∧ w'.cell? ⟨b3, 3, none⟩ = some (.slice B3 m3 d3)) (go_keep) (first
      | (go_at_call 30; have _t := tk1; clear _t tk1; (with_reducible refine (drop_any tA 1 _ (by unfold maxLen; decide) (by simp [inI])).mono ?_); rintro e w4 ⟨Ax, nx, cx, Bx, mx, dx, Cx, ox, ex, rfl, h4, hb⟩; have H4 : Hid (Below W3.heap.size W3 w4) := Lib.hid (by first | exact then_ (new_drew W3) hb | exact then_ (then_ (new1 W3 _) (new_drew _)) hb | exact then_ (then_ (new_drew W3) (new1 _ _)) hb); (try (have Z4 : Hid (Own w4 W3.heap.size 25 zSt) := Lib.hid (((own_new W3 zSt 25).below (new_drew _)).below hb))); have G4 := Lib.hid h4; clear h4 hb; obtain ⟨hc4, hf4⟩ := bcell H4.out; have l4 := (R3_19.out.below H4.out).lt; have nl4 := Nat.ne_of_lt l4; have nr4 := Nat.ne_of_gt l4; have tk2 : True := trivial)
      | (go_at_call 26; have _t := tk2; clear _t tk2; (with_reducible refine (u4 A3 n3 c3 B3 m3 d3 Ax nx cx Bx mx dx Cx ox ex _ (by first | exact K3_17.out.keep H4.out | exact K3_17.out.keep (then_ H4.out (new1 _ _))) (by first | exact G4.out | exact G4.out.keep (new1 _ _))).mono ?_); rintro e w5 ⟨A5, n5, c5, B5, m5, d5, E5, en5, ec5, rfl, h5, v5, hb⟩; have H5 : Hid (Below W3.heap.size W3 w5) := Lib.hid (by first | exact then_ H4.out hb | exact then_ (then_ H4.out (new1 _ _)) hb); (first | (have Z5 := Lib.hid (Z4.out.below hb)) | (have Z5 : Hid (Own w5 w4.heap.size 25 zSt) := Lib.hid ((own_new w4 zSt 25).below hb)) | skip); (first | (have zf := Z5.out.frozen; have zl := Z5.out.lt; have z0 := Z5.out.cell 0 _ rfl; have z1 := Z5.out.cell 1 _ rfl; have z2 := Z5.out.cell 2 _ rfl; have z3 := Z5.out.cell 3 _ rfl) | skip); have K5 := Lib.hid h5; have V5 := Lib.hid v5; clear h5 v5 hb; have q4 := H4.out.size; clear hc4 hf4; obtain ⟨hc5, hf5⟩ := bcell H5.out; have l5 := (R3_19.out.below H5.out).lt))
    all_goals
      clear hc5 hf5
    all_goals
      go_wp2_with fail
      go_meet
      first
        | exact done_last K5.out V5.out H5.out
        | exact done_old Z5.out K5.out V5.out H5.out (by omega)
  case rest =>
  rename World => W4
  obtain ⟨b4, A4, n4, c4, B4, m4, d4, E4, en4, ec4, rfl, rfl, rfl, rfl, hk, hv, ho, hb⟩ := hcut
  obtain rfl : en4 = 1 := hv.len.symm
  have S_4 := Lib.hid hb; clear hb
  have K1_20 := Lib.hid (K1_12.out.keep S_4.out)
  have R1_21 := Lib.hid (R1_13.out.below S_4.out)
  have K2_22 := Lib.hid (K2_14.out.keep S_4.out)
  have R2_23 := Lib.hid (R2_15.out.below S_4.out)
  have K3_24 := Lib.hid (K3_17.out.keep S_4.out)
  have R3_25 := Lib.hid (R3_19.out.below S_4.out)
  have B_26 := Lib.hid (then_ B_16.out S_4.out)
  clear K1_12 R1_13 K2_14 R2_15 K3_17 R3_19 B_16
  clear S_4
  have K4_27 := Lib.hid (hk)
  have V4_28 := Lib.hid (hv)
  have R4_29 := Lib.hid (ho)
  clear hk hv ho
  clear R3_25
  clear K3_24
  have x0 := R4_29.out.cell 0 _ rfl
  have x1 := R4_29.out.cell 1 _ rfl
  have x2 := R4_29.out.cell 2 _ rfl
  have x3 := R4_29.out.cell 3 _ rfl
  go_wp2_with fail
  refine (u6 A4 n4 c4 B4 m4 d4 _ K4_27.out).mono ?_; rintro e w6 ⟨A6, n6, c6, B6, m6, d6, E6, en6, ec6, rfl, h6, v6, hb⟩
  clear h6 v6
  have S_6 := Lib.hid (then_ (new1 W4 (q5.obj 56)) hb); clear hb
  have K1_30 := Lib.hid (K1_20.out.keep S_6.out)
  have R1_31 := Lib.hid (R1_21.out.below S_6.out)
  have K2_32 := Lib.hid (K2_22.out.keep S_6.out)
  have R2_33 := Lib.hid (R2_23.out.below S_6.out)
  have K4_34 := Lib.hid (K4_27.out.keep S_6.out)
  have V4_35 := Lib.hid (V4_28.out.keep S_6.out)
  have R4_36 := Lib.hid (R4_29.out.below S_6.out)
  have B_37 := Lib.hid (then_ B_26.out S_6.out)
  clear K1_20 R1_21 K2_22 R2_23 K4_27 V4_28 R4_29 B_26
  clear S_6
  clear x0 x1 x2 x3
  clear R4_36
  clear K4_34
  have K1_38 := Lib.hid (K1_30.out.keep (new1 w6 (.cells #[.int .i64 2, .int .i64 0, .slice A6 n6 c6, .slice B6 m6 d6] 25)))
  have R1_39 := Lib.hid (R1_31.out.below (new1 w6 (.cells #[.int .i64 2, .int .i64 0, .slice A6 n6 c6, .slice B6 m6 d6] 25)))
  have K2_40 := Lib.hid (K2_32.out.keep (new1 w6 (.cells #[.int .i64 2, .int .i64 0, .slice A6 n6 c6, .slice B6 m6 d6] 25)))
  have R2_41 := Lib.hid (R2_33.out.below (new1 w6 (.cells #[.int .i64 2, .int .i64 0, .slice A6 n6 c6, .slice B6 m6 d6] 25)))
  have V4_42 := Lib.hid (V4_35.out.keep (new1 w6 (.cells #[.int .i64 2, .int .i64 0, .slice A6 n6 c6, .slice B6 m6 d6] 25)))
  have B_43 := Lib.hid (then_ B_37.out (new1 w6 (.cells #[.int .i64 2, .int .i64 0, .slice A6 n6 c6, .slice B6 m6 d6] 25)))
  clear K1_30 R1_31 K2_32 R2_33 V4_35 B_37
  have x0 := R1_39.out.cell 0 _ rfl
  have x1 := R1_39.out.cell 1 _ rfl
  have x2 := R1_39.out.cell 2 _ rfl
  have x3 := R1_39.out.cell 3 _ rfl
  go_wp2_with fail
  refine (u11 A1 n1 c1 B1 m1 d1 _ K1_38.out).mono ?_; rintro e w7 ⟨A7, n7, c7, rfl, h7, hb⟩
  have S_44 := Lib.hid hb; clear hb
  have K1_45 := Lib.hid (K1_38.out.keep S_44.out)
  have R1_46 := Lib.hid (R1_39.out.below S_44.out)
  have K2_47 := Lib.hid (K2_40.out.keep S_44.out)
  have R2_48 := Lib.hid (R2_41.out.below S_44.out)
  have V4_49 := Lib.hid (V4_42.out.keep S_44.out)
  have B_50 := Lib.hid (then_ B_43.out S_44.out)
  clear K1_38 R1_39 K2_40 R2_41 V4_42 B_43
  clear S_44
  have K7_51 := Lib.hid (h7)
  clear h7
  clear x0 x1 x2 x3
  obtain rfl : n1 = n2 := K1_45.out.kv.len.symm.trans K2_47.out.kv.len
  obtain rfl : m1 = m2 := K1_45.out.ev.len.symm.trans K2_47.out.ev.len
  have x0 := R1_46.out.cell 0 _ rfl
  have x1 := R1_46.out.cell 1 _ rfl
  have x2 := R1_46.out.cell 2 _ rfl
  have x3 := R1_46.out.cell 3 _ rfl
  have y0 := R2_48.out.cell 0 _ rfl
  have y1 := R2_48.out.cell 1 _ rfl
  have y2 := R2_48.out.cell 2 _ rfl
  have y3 := R2_48.out.cell 3 _ rfl
  go_wp2_with fail
  refine (st_same Y1 A1 A2 n1 c1 c2 B1 B2 m1 d1 d2 _ K1_45.out K2_47.out (by have h1 := K1_45.out.kv.len; have h2 := K1_45.out.ev.len; simp at h1 h2; omega) (by have h1 := K1_45.out.kv.len; have h2 := K1_45.out.ev.len; simp at h1 h2; omega)).mono ?_; rintro e w8 ⟨rfl, hb⟩
  have S_52 := Lib.hid hb; clear hb
  have K1_53 := Lib.hid (K1_45.out.keep S_52.out)
  have R1_54 := Lib.hid (R1_46.out.below S_52.out)
  have K2_55 := Lib.hid (K2_47.out.keep S_52.out)
  have R2_56 := Lib.hid (R2_48.out.below S_52.out)
  have V4_57 := Lib.hid (V4_49.out.keep S_52.out)
  have K7_58 := Lib.hid (K7_51.out.keep S_52.out)
  have B_59 := Lib.hid (then_ B_50.out S_52.out)
  clear K1_45 R1_46 K2_47 R2_48 V4_49 K7_51 B_50
  clear S_52
  clear x0 x1 x2 x3
  clear y0 y1 y2 y3
  clear R1_54
  clear R2_56
  clear K1_53
  clear K2_55
  obtain ⟨aq, yq, rfl, _, hyq, _, kq⟩ := V4_57.out.at_ (show 0 < 1 by omega)
  obtain rfl : f2 = yq := Option.some.inj hyq
  have kq1 : w8.cell? ⟨aq.block, aq.off + 1, none⟩ = some (.bool true) := by have := kq.c1; simpa [Addr.add] using this
  clear hyq kq
  go_wp2_with fail
  refine (u7 A7 n7 c7 _ K7_58.out).mono ?_; rintro e w9 ⟨rfl, hb⟩
  have S_60 := Lib.hid hb; clear hb
  have V4_61 := Lib.hid (V4_57.out.keep S_60.out)
  have K7_62 := Lib.hid (K7_58.out.keep S_60.out)
  have B_63 := Lib.hid (then_ B_59.out S_60.out)
  clear V4_57 K7_58 B_59
  clear S_60
  clear kq1
  go_wp2_with fail
  refine (u8 A7 n7 c7 _ K7_62.out).mono ?_; rintro e w10 ⟨rfl, hb⟩
  have S_64 := Lib.hid hb; clear hb
  have V4_65 := Lib.hid (V4_61.out.keep S_64.out)
  have K7_66 := Lib.hid (K7_62.out.keep S_64.out)
  have B_67 := Lib.hid (then_ B_63.out S_64.out)
  clear V4_61 K7_62 B_63
  clear S_64
  go_wp2_with fail
  refine (absent_any tA _).mono ?_; rintro e w11 ⟨rfl, hb⟩
  have S_68 := Lib.hid hb; clear hb
  have V4_69 := Lib.hid (V4_65.out.keep S_68.out)
  have K7_70 := Lib.hid (K7_66.out.keep S_68.out)
  have B_71 := Lib.hid (then_ B_67.out S_68.out)
  clear V4_65 K7_66 B_67
  clear S_68
  go_wp2_with fail
  refine (u9 _).mono ?_; rintro e w12 ⟨rfl, hb⟩
  have S_72 := Lib.hid hb; clear hb
  have V4_73 := Lib.hid (V4_69.out.keep S_72.out)
  have K7_74 := Lib.hid (K7_70.out.keep S_72.out)
  have B_75 := Lib.hid (then_ B_71.out S_72.out)
  clear V4_69 K7_70 B_71
  clear S_72
  go_wp2_with fail
  refine (made_any tA 1 _).mono ?_; rintro e w13 ⟨rfl, hb⟩
  have S_76 := Lib.hid hb; clear hb
  have V4_77 := Lib.hid (V4_73.out.keep S_76.out)
  have K7_78 := Lib.hid (K7_74.out.keep S_76.out)
  have B_79 := Lib.hid (then_ B_75.out S_76.out)
  clear V4_73 K7_74 B_75
  clear S_76
  go_wp2_with fail
  refine (absent_any tA _).mono ?_; rintro e w14 ⟨rfl, hb⟩
  have S_80 := Lib.hid hb; clear hb
  have V4_81 := Lib.hid (V4_77.out.keep S_80.out)
  have K7_82 := Lib.hid (K7_78.out.keep S_80.out)
  have B_83 := Lib.hid (then_ B_79.out S_80.out)
  clear V4_77 K7_78 B_79
  clear S_80
  go_wp2_with fail
  refine (u10 A7 n7 c7 w14 K7_82.out _ rfl).mono ?_; rintro e wl ⟨rfl, hb⟩
  have BL := Lib.hid (then_ (then_ B_83.out (new1 w14 (.cells #[.string tA, .int .i64 1, .int .i64 1, .int .i64 1, .string tN, .string tA, .int .i64 1, .int .i64 1, .int .i64 0, .string tN] 56))) hb); clear hb
  go_wp2
  go_ret
  exact ⟨rfl, BL.out⟩
end Go.Proofs.Ytgafkpngnoecaaa.P
