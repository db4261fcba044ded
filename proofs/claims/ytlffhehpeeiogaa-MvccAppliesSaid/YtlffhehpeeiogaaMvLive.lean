/- Layer 5's examples as calls: what each law asks for, too. -/
import Derived.Test.YtlffhehpeeiogaaMvEx
namespace Go.Proofs.Ytlffhehpeeiogaa.P
open Go.RowKit Go.Sort
set_option maxHeartbeats 4000000
set_option linter.unusedVariables false
set_option linter.unusedSimpArgs false
set_option maxRecDepth 100000

def ApEnd (s' : St) (es : List Ev) (x : Int) (w : World) (e : Ending) (w' : World) : Prop :=
  ∃ A n c B m d E en ec, e = .returned (.tuple #[s'.agg A n c B m d, .slice E en ec, .int .i64 x]) ∧ StAt w' s' A n c B m d ∧ Evs w' E en ec es ∧ Below w.heap.size w w'
theorem ap_of {s s' : St} {ms : List Mu} {es : List Ev} {x : Int} (h : applyE s ms = x ∧ applyS s ms = s' ∧ applyEv s ms = es) {w : World} {e : Ending} {w' : World} (k : ApplyEnd s ms w e w') : ApEnd s' es x w e w' := by
  obtain ⟨h1, h2, h3⟩ := h
  subst h1 h2 h3
  exact k
theorem mus_lit (w : World) (l : List Mu) (cs : Array Value) (hcs : cs.toList = l.flatMap fun x => [.bool x.gone, .string x.key, .string x.val, .int .i64 x.lea]) (ok : ∀ x ∈ l, x.ok) (hn : l.length ≤ 1000) : Mus (w.alloc (.cells cs 47)) (some ⟨w.heap.size, 0, none⟩) l.length l.length l := by
  have hat : ∀ (l : List Mu) (i j : Nat) (x : Mu), l[i]? = some x → j < 4 → (l.flatMap fun x => [Value.bool x.gone, .string x.key, .string x.val, .int .i64 x.lea])[i * 4 + j]? = ([Value.bool x.gone, .string x.key, .string x.val, .int .i64 x.lea] : List Value)[j]? := by
    intro l
    induction l with
    | nil => intro i j x h; simp at h
    | cons y r ih =>
      intro i j x h hj
      cases i with
      | zero =>
        simp at h; subst h
        rw [List.flatMap_cons, Nat.zero_mul, Nat.zero_add, List.getElem?_append_left (by simpa using hj)]
      | succ i =>
        rw [List.flatMap_cons, List.getElem?_append_right (by simp; omega)]
        have := ih i j x (by simpa using h) hj
        rw [← this]; congr 1; simp; omega
  have e0 : ∀ k, (⟨w.heap.size, 0, none⟩ : Addr).add (k * 4) = ⟨w.heap.size, k * 4, none⟩ := fun k => by
    unfold Addr.add; split
    · rename_i h; rw [h]
    · simp
  refine ⟨rfl, Nat.le_refl _, by unfold maxLen; omega, ok, fun _ => ⟨_, rfl, by simp, fun i x hx => ?_⟩, fun h => by cases h⟩
  have hc : ∀ j, j < 4 → (w.alloc (.cells cs 47)).cell? ⟨w.heap.size, i * 4 + j, none⟩ = ([Value.bool x.gone, .string x.key, .string x.val, .int .i64 x.lea] : List Value)[j]? := fun j hj => by
    have e := hat l i j x hx hj
    rw [← hcs, Array.getElem?_toList] at e
    rw [← e]
    cases h : cs[i * 4 + j]? with
    | some v => exact (own_new w cs 47).cell _ v h
    | none => rw [h, List.getElem?_eq_getElem (by simpa using hj)] at e; cases e
  rw [e0]
  exact ⟨hc 0 (by omega), hc 1 (by omega), hc 2 (by omega), hc 3 (by omega)⟩
theorem mu_small {x : Mu} (h1 : x.key.size ≤ 1000) (h2 : x.val.size ≤ 1000) (h3 : inI x.lea) : x.ok := ⟨by unfold maxLen; omega, by unfold maxLen; omega, h3⟩
theorem ok1 : ∀ x ∈ N1, x.ok := by intro x hx; simp at hx; rcases hx with rfl | rfl <;> exact mu_small (by decide) (by decide) (by simp [inI])
theorem ok2 : ∀ x ∈ N2, x.ok := by intro x hx; simp at hx; rcases hx with rfl | rfl | rfl <;> exact mu_small (by decide) (by decide) (by simp [inI])
theorem ok3 : ∀ x ∈ N3, x.ok := by intro x hx; simp at hx; rcases hx with rfl; exact mu_small (by decide) (by decide) (by simp [inI])
theorem ok4 : ∀ x ∈ N4, x.ok := by intro x hx; simp at hx; rcases hx with rfl; exact mu_small (by decide) (by decide) (by simp [inI])
theorem xn_at (w : World) : StAt w Xn none 0 0 none 0 0 := ⟨KVs.bare _, evs_bare _, by simp [inI], by simp [inI]⟩
theorem x0_at (w : World) : StAt w X0 none 0 0 none 0 0 := ⟨KVs.bare _, evs_bare _, by simp [inI], by simp [inI]⟩
theorem size_alloc (w : World) (o : Obj) : w.heap.size + 1 = (w.alloc o).heap.size := by
  show _ = (w.heap.push _).size
  rw [Array.size_push]
theorem v1 (w : World) (cs : Array Value) (hcs : cs.toList = N1.flatMap fun x => [.bool x.gone, .string x.key, .string x.val, .int .i64 x.lea]) : Calls Try.prog 25 #[X0.agg none 0 0 none 0 0, .slice (some ⟨w.heap.size, 0, none⟩) 2 2] (w.alloc (.cells cs 47)) (ApEnd X1 [d1, d2] 0 (w.alloc (.cells cs 47))) :=
  (apply_any X0 none 0 0 none 0 0 _ 2 2 N1 _ (x0_at _) (mus_lit w N1 cs hcs ok1 (by decide)) x0may).mono fun e w' h => ap_of a1 h
theorem v2 (A : Option Addr) (n c : Nat) (B : Option Addr) (m d : Nat) (w : World) (cs : Array Value) (h : StAt (w.alloc (.cells cs 47)) X1 A n c B m d) (b : Nat) (hB : b = w.heap.size) (hcs : cs.toList = N2.flatMap fun x => [.bool x.gone, .string x.key, .string x.val, .int .i64 x.lea]) : Calls Try.prog 25 #[X1.agg A n c B m d, .slice (some ⟨b, 0, none⟩) 3 3] (w.alloc (.cells cs 47)) (ApEnd X2 [d3, d4] 0 (w.alloc (.cells cs 47))) := by
  subst hB
  exact (apply_any X1 A n c B m d _ 3 3 N2 _ h (mus_lit w N2 cs hcs ok2 (by decide)) x1may).mono fun e w' h => ap_of a2 h
theorem v3 (A : Option Addr) (n c : Nat) (B : Option Addr) (m d : Nat) (w : World) (cs : Array Value) (h : StAt (w.alloc (.cells cs 47)) X2 A n c B m d) (b : Nat) (hB : b = w.heap.size) (hcs : cs.toList = N3.flatMap fun x => [.bool x.gone, .string x.key, .string x.val, .int .i64 x.lea]) : Calls Try.prog 25 #[X2.agg A n c B m d, .slice (some ⟨b, 0, none⟩) 1 1] (w.alloc (.cells cs 47)) (ApEnd X2 [] 0 (w.alloc (.cells cs 47))) := by
  subst hB
  exact (apply_any X2 A n c B m d _ 1 1 N3 _ h (mus_lit w N3 cs hcs ok3 (by decide)) x2may).mono fun e w' h => ap_of a3 h
theorem v4 (A : Option Addr) (n c : Nat) (B : Option Addr) (m d : Nat) (w : World) (cs : Array Value) (h : StAt (w.alloc (.cells cs 47)) X2 A n c B m d) (b : Nat) (hB : b = w.heap.size) (hcs : cs.toList = N4.flatMap fun x => [.bool x.gone, .string x.key, .string x.val, .int .i64 x.lea]) : Calls Try.prog 25 #[X2.agg A n c B m d, .slice (some ⟨b, 0, none⟩) 1 1] (w.alloc (.cells cs 47)) (ApEnd X2 [] 1 (w.alloc (.cells cs 47))) := by
  subst hB
  exact (apply_any X2 A n c B m d _ 1 1 N4 _ h (mus_lit w N4 cs hcs ok4 (by decide)) x2may).mono fun e w' h => ap_of a4 h
def AtTo (l : List KV) (x : Int) (w : World) (e : Ending) (w' : World) : Prop := ∃ A n c, e = .returned (.tuple #[.slice A n c, .int .i64 x]) ∧ KVs w' A n c l ∧ Below w.heap.size w w'
theorem at_of {s : St} {rev : Int} {l : List KV} {x : Int} (h : atL s rev = l ∧ atE s rev = x) {w : World} {e : Ending} {w' : World} (k : AtEnd s rev w e w') : AtTo l x w e w' := by
  obtain ⟨h1, h2⟩ := h; subst h1 h2; exact k
theorem st_small2 {w : World} {s : St} {A : Option Addr} {n c : Nat} {B : Option Addr} {m d : Nat} (h : StAt w s A n c B m d) (h1 : s.base.length ≤ 100) (h2 : s.log.length ≤ 100) : n + m ≤ 90000 := by have := h.kv.len; have := h.ev.len; omega
theorem v5 (A : Option Addr) (n c : Nat) (B : Option Addr) (m d : Nat) (w : World) (h : StAt w X2 A n c B m d) : Calls Try.prog 17 #[X2.agg A n c B m d, .int .i64 1] w (AtTo [k1, k2] 0 w) := (at_any X2 A n c B m d 1 w h (by have := st_small2 h (by decide) (by decide); omega) (by simp [inI])).mono fun e w' h => at_of t1 h
theorem v6 (A : Option Addr) (n c : Nat) (B : Option Addr) (m d : Nat) (w : World) (h : StAt w X2 A n c B m d) : Calls Try.prog 17 #[X2.agg A n c B m d, .int .i64 3] w (AtTo [] 8 w) := (at_any X2 A n c B m d 3 w h (by have := st_small2 h (by decide) (by decide); omega) (by simp [inI])).mono fun e w' h => at_of t3 h
def ShTo (s' : St) (x : Int) (w : World) (e : Ending) (w' : World) : Prop := ∃ A n c B m d, e = .returned (.tuple #[s'.agg A n c B m d, .int .i64 x]) ∧ StAt w' s' A n c B m d ∧ Below w.heap.size w w'
theorem v7 (A : Option Addr) (n c : Nat) (B : Option Addr) (m d : Nat) (w : World) (h : StAt w X2 A n c B m d) : Calls Try.prog 27 #[X2.agg A n c B m d, .int .i64 2] w (ShTo X3 0 w) := (shrink_any X2 A n c B m d 2 w h (st_small2 h (by decide) (by decide)) (by simp [inI])).mono fun e w' k => by
  obtain ⟨A, n, c, B, m, d, he, hs, hb⟩ := k
  rw [s2.1] at he hs; rw [s2.2] at he
  exact ⟨A, n, c, B, m, d, he, hs, hb⟩
theorem v8 (A : Option Addr) (n c : Nat) (B : Option Addr) (m d : Nat) (w : World) (h : StAt w X3 A n c B m d) : Calls Try.prog 17 #[X3.agg A n c B m d, .int .i64 1] w (AtTo [] 9 w) := (at_any X3 A n c B m d 1 w h (by have := st_small2 h (by decide) (by decide); omega) (by simp [inI])).mono fun e w' h => at_of t4 h
theorem v9 (A : Option Addr) (n c : Nat) (B : Option Addr) (m d : Nat) (w : World) (h : StAt w X3 A n c B m d) : Calls Try.prog 22 #[X3.agg A n c B m d] w (SomeKVs w [k3]) := by
  have := now_any X3 A n c B m d w h (by have := st_small2 h (by decide) (by decide); omega)
  rwa [w3] at this
theorem v10 (A : Option Addr) (n c : Nat) (B : Option Addr) (m d : Nat) (w : World) (h : StAt w X2 A n c B m d) : Calls Try.prog 19 #[X2.agg A n c B m d] w fun e w' => e = .returned (.bool true) ∧ Below w.heap.size w w' := by have := mvmay_any X2 A n c B m d w h; rwa [b2] at this
theorem v11 (A : Option Addr) (n c : Nat) (B : Option Addr) (m d : Nat) (w : World) (h : StAt w X3 A n c B m d) : Calls Try.prog 19 #[X3.agg A n c B m d] w fun e w' => e = .returned (.bool true) ∧ Below w.heap.size w w' := by have := mvmay_any X3 A n c B m d w h; rwa [b3] at this
theorem v12 (w : World) : Calls Try.prog 19 #[Xn.agg none 0 0 none 0 0] w fun e w' => e = .returned (.bool false) ∧ Below w.heap.size w w' := by have := mvmay_any Xn none 0 0 none 0 0 w (xn_at w); rwa [bn] at this
theorem eql_kv_same (w : World) (a b : ByteArray) (i j k m : Int) : (binOp .eql 45 (.agg #[.string a, .string b, .int .i64 i, .int .i64 j, .int .i64 k, .int .i64 m]) (.agg #[.string a, .string b, .int .i64 i, .int .i64 j, .int .i64 k, .int .i64 m])).run Try.prog w = .ok (.bool true) w := by
  simp [go_sem, Try.underlying45]
theorem live_any (w : World) : Calls Try.prog 16 #[] w fun e w' => e = .returned (.bool true) ∧ Below w.heap.size w w' := by
  go_enter Try.func16, Try.ntmps16
  go_wp2_with fail
  refine (new_any _).mono ?_; rintro e w1 ⟨rfl, hb⟩
  have S_1 := Lib.hid hb; clear hb
  have B_2 := Lib.hid (S_1.out)
  clear S_1
  have B_3 := Lib.hid (then_ B_2.out (new1 _ (.cells #[.bool false, .string ⟨#[97]⟩, .string ⟨#[120]⟩, .int .i64 0, .bool false, .string ⟨#[98]⟩, .string ⟨#[]⟩, .int .i64 3] 47)))
  clear B_2
  go_wp2_with fail
  refine (v1 w1 #[.bool false, .string ⟨#[97]⟩, .string ⟨#[120]⟩, .int .i64 0, .bool false, .string ⟨#[98]⟩, .string ⟨#[]⟩, .int .i64 3] rfl).mono ?_; rintro e w2 ⟨A1, n1, c1, B1, m1, d1, E1, en1, ec1, rfl, h1, v1, hb⟩
  obtain rfl : en1 = 2 := v1.len.symm
  have S_4 := Lib.hid hb; clear hb
  have B_5 := Lib.hid (then_ B_3.out S_4.out)
  clear B_3
  clear S_4
  have L1_6 := Lib.hid (h1)
  have V1_7 := Lib.hid (v1)
  clear h1 v1
  have L1_8 := Lib.hid (L1_6.out.keep (new1 w2 (.cells #[.int .i64 1, .int .i64 0, .slice A1 n1 c1, .slice B1 m1 d1] 25)))
  have V1_9 := Lib.hid (V1_7.out.keep (new1 w2 (.cells #[.int .i64 1, .int .i64 0, .slice A1 n1 c1, .slice B1 m1 d1] 25)))
  have B_10 := Lib.hid (then_ B_5.out (new1 w2 (.cells #[.int .i64 1, .int .i64 0, .slice A1 n1 c1, .slice B1 m1 d1] 25)))
  clear L1_6 V1_7 B_5
  have R1_11 := Lib.hid (own_new w2 #[.int .i64 1, .int .i64 0, .slice A1 n1 c1, .slice B1 m1 d1] 25)
  have p0 := R1_11.out.cell 0 _ rfl
  have p1 := R1_11.out.cell 1 _ rfl
  have p2 := R1_11.out.cell 2 _ rfl
  have p3 := R1_11.out.cell 3 _ rfl
  have L1_12 := Lib.hid (L1_8.out.keep (new1 _ (.cells #[.bool false, .string ⟨#[97]⟩, .string ⟨#[121]⟩, .int .i64 0, .bool true, .string ⟨#[98]⟩, .string ⟨#[]⟩, .int .i64 0, .bool true, .string ⟨#[99]⟩, .string ⟨#[]⟩, .int .i64 0] 47)))
  have V1_13 := Lib.hid (V1_9.out.keep (new1 _ (.cells #[.bool false, .string ⟨#[97]⟩, .string ⟨#[121]⟩, .int .i64 0, .bool true, .string ⟨#[98]⟩, .string ⟨#[]⟩, .int .i64 0, .bool true, .string ⟨#[99]⟩, .string ⟨#[]⟩, .int .i64 0] 47)))
  have R1_14 := Lib.hid (R1_11.out.below (new1 _ (.cells #[.bool false, .string ⟨#[97]⟩, .string ⟨#[121]⟩, .int .i64 0, .bool true, .string ⟨#[98]⟩, .string ⟨#[]⟩, .int .i64 0, .bool true, .string ⟨#[99]⟩, .string ⟨#[]⟩, .int .i64 0] 47)))
  have B_15 := Lib.hid (then_ B_10.out (new1 _ (.cells #[.bool false, .string ⟨#[97]⟩, .string ⟨#[121]⟩, .int .i64 0, .bool true, .string ⟨#[98]⟩, .string ⟨#[]⟩, .int .i64 0, .bool true, .string ⟨#[99]⟩, .string ⟨#[]⟩, .int .i64 0] 47)))
  clear L1_8 V1_9 R1_11 B_10
  go_wp2_with fail
  refine (v2 A1 n1 c1 B1 m1 d1 _ #[.bool false, .string ⟨#[97]⟩, .string ⟨#[121]⟩, .int .i64 0, .bool true, .string ⟨#[98]⟩, .string ⟨#[]⟩, .int .i64 0, .bool true, .string ⟨#[99]⟩, .string ⟨#[]⟩, .int .i64 0] L1_12.out _ (size_alloc w2 _) rfl).mono ?_; rintro e w3 ⟨A2, n2, c2, B2, m2, d2, E2, en2, ec2, rfl, h2, v2, hb⟩
  obtain rfl : en2 = 2 := v2.len.symm
  have S_16 := Lib.hid hb; clear hb
  have L1_17 := Lib.hid (L1_12.out.keep S_16.out)
  have V1_18 := Lib.hid (V1_13.out.keep S_16.out)
  have R1_19 := Lib.hid (R1_14.out.below S_16.out)
  have B_20 := Lib.hid (then_ B_15.out S_16.out)
  clear L1_12 V1_13 R1_14 B_15
  clear S_16
  have L2_21 := Lib.hid (h2)
  have V2_22 := Lib.hid (v2)
  clear h2 v2
  clear p0 p1 p2 p3
  have L1_23 := Lib.hid (L1_17.out.keep (new1 w3 (.cells #[.int .i64 2, .int .i64 0, .slice A2 n2 c2, .slice B2 m2 d2] 25)))
  have V1_24 := Lib.hid (V1_18.out.keep (new1 w3 (.cells #[.int .i64 2, .int .i64 0, .slice A2 n2 c2, .slice B2 m2 d2] 25)))
  have R1_25 := Lib.hid (R1_19.out.below (new1 w3 (.cells #[.int .i64 2, .int .i64 0, .slice A2 n2 c2, .slice B2 m2 d2] 25)))
  have L2_26 := Lib.hid (L2_21.out.keep (new1 w3 (.cells #[.int .i64 2, .int .i64 0, .slice A2 n2 c2, .slice B2 m2 d2] 25)))
  have V2_27 := Lib.hid (V2_22.out.keep (new1 w3 (.cells #[.int .i64 2, .int .i64 0, .slice A2 n2 c2, .slice B2 m2 d2] 25)))
  have B_28 := Lib.hid (then_ B_20.out (new1 w3 (.cells #[.int .i64 2, .int .i64 0, .slice A2 n2 c2, .slice B2 m2 d2] 25)))
  clear L1_17 V1_18 R1_19 L2_21 V2_22 B_20
  have R2_29 := Lib.hid (own_new w3 #[.int .i64 2, .int .i64 0, .slice A2 n2 c2, .slice B2 m2 d2] 25)
  clear R1_25
  clear L1_23
  have p0 := R2_29.out.cell 0 _ rfl
  have p1 := R2_29.out.cell 1 _ rfl
  have p2 := R2_29.out.cell 2 _ rfl
  have p3 := R2_29.out.cell 3 _ rfl
  have V1_30 := Lib.hid (V1_24.out.keep (new1 _ (.cells #[.bool true, .string ⟨#[99]⟩, .string ⟨#[]⟩, .int .i64 0] 47)))
  have L2_31 := Lib.hid (L2_26.out.keep (new1 _ (.cells #[.bool true, .string ⟨#[99]⟩, .string ⟨#[]⟩, .int .i64 0] 47)))
  have V2_32 := Lib.hid (V2_27.out.keep (new1 _ (.cells #[.bool true, .string ⟨#[99]⟩, .string ⟨#[]⟩, .int .i64 0] 47)))
  have R2_33 := Lib.hid (R2_29.out.below (new1 _ (.cells #[.bool true, .string ⟨#[99]⟩, .string ⟨#[]⟩, .int .i64 0] 47)))
  have B_34 := Lib.hid (then_ B_28.out (new1 _ (.cells #[.bool true, .string ⟨#[99]⟩, .string ⟨#[]⟩, .int .i64 0] 47)))
  clear V1_24 L2_26 V2_27 R2_29 B_28
  go_wp2_with fail
  refine (v3 A2 n2 c2 B2 m2 d2 _ #[.bool true, .string ⟨#[99]⟩, .string ⟨#[]⟩, .int .i64 0] L2_31.out _ (size_alloc w3 _) rfl).mono ?_; rintro e w4 ⟨A3, n3, c3, B3, m3, d3, E3, en3, ec3, rfl, h3, v3, hb⟩
  obtain rfl : en3 = 0 := v3.len.symm
  have S_35 := Lib.hid hb; clear hb
  have V1_36 := Lib.hid (V1_30.out.keep S_35.out)
  have L2_37 := Lib.hid (L2_31.out.keep S_35.out)
  have V2_38 := Lib.hid (V2_32.out.keep S_35.out)
  have R2_39 := Lib.hid (R2_33.out.below S_35.out)
  have B_40 := Lib.hid (then_ B_34.out S_35.out)
  clear V1_30 L2_31 V2_32 R2_33 B_34
  clear S_35
  have L3_41 := Lib.hid (h3)
  have V3_42 := Lib.hid (v3)
  clear h3 v3
  clear p0 p1 p2 p3
  have V1_43 := Lib.hid (V1_36.out.keep (new1 w4 (.cells #[.int .i64 2, .int .i64 0, .slice A3 n3 c3, .slice B3 m3 d3] 25)))
  have L2_44 := Lib.hid (L2_37.out.keep (new1 w4 (.cells #[.int .i64 2, .int .i64 0, .slice A3 n3 c3, .slice B3 m3 d3] 25)))
  have V2_45 := Lib.hid (V2_38.out.keep (new1 w4 (.cells #[.int .i64 2, .int .i64 0, .slice A3 n3 c3, .slice B3 m3 d3] 25)))
  have R2_46 := Lib.hid (R2_39.out.below (new1 w4 (.cells #[.int .i64 2, .int .i64 0, .slice A3 n3 c3, .slice B3 m3 d3] 25)))
  have L3_47 := Lib.hid (L3_41.out.keep (new1 w4 (.cells #[.int .i64 2, .int .i64 0, .slice A3 n3 c3, .slice B3 m3 d3] 25)))
  have V3_48 := Lib.hid (V3_42.out.keep (new1 w4 (.cells #[.int .i64 2, .int .i64 0, .slice A3 n3 c3, .slice B3 m3 d3] 25)))
  have B_49 := Lib.hid (then_ B_40.out (new1 w4 (.cells #[.int .i64 2, .int .i64 0, .slice A3 n3 c3, .slice B3 m3 d3] 25)))
  clear V1_36 L2_37 V2_38 R2_39 L3_41 V3_42 B_40
  have R3_50 := Lib.hid (own_new w4 #[.int .i64 2, .int .i64 0, .slice A3 n3 c3, .slice B3 m3 d3] 25)
  have p0 := R2_46.out.cell 0 _ rfl
  have p1 := R2_46.out.cell 1 _ rfl
  have p2 := R2_46.out.cell 2 _ rfl
  have p3 := R2_46.out.cell 3 _ rfl
  have V1_51 := Lib.hid (V1_43.out.keep (new1 _ (.cells #[.bool false, .string ⟨#[]⟩, .string ⟨#[]⟩, .int .i64 0] 47)))
  have L2_52 := Lib.hid (L2_44.out.keep (new1 _ (.cells #[.bool false, .string ⟨#[]⟩, .string ⟨#[]⟩, .int .i64 0] 47)))
  have V2_53 := Lib.hid (V2_45.out.keep (new1 _ (.cells #[.bool false, .string ⟨#[]⟩, .string ⟨#[]⟩, .int .i64 0] 47)))
  have R2_54 := Lib.hid (R2_46.out.below (new1 _ (.cells #[.bool false, .string ⟨#[]⟩, .string ⟨#[]⟩, .int .i64 0] 47)))
  have L3_55 := Lib.hid (L3_47.out.keep (new1 _ (.cells #[.bool false, .string ⟨#[]⟩, .string ⟨#[]⟩, .int .i64 0] 47)))
  have V3_56 := Lib.hid (V3_48.out.keep (new1 _ (.cells #[.bool false, .string ⟨#[]⟩, .string ⟨#[]⟩, .int .i64 0] 47)))
  have R3_57 := Lib.hid (R3_50.out.below (new1 _ (.cells #[.bool false, .string ⟨#[]⟩, .string ⟨#[]⟩, .int .i64 0] 47)))
  have B_58 := Lib.hid (then_ B_49.out (new1 _ (.cells #[.bool false, .string ⟨#[]⟩, .string ⟨#[]⟩, .int .i64 0] 47)))
  clear V1_43 L2_44 V2_45 R2_46 L3_47 V3_48 R3_50 B_49
  go_wp2_with fail
  refine (v4 A2 n2 c2 B2 m2 d2 _ #[.bool false, .string ⟨#[]⟩, .string ⟨#[]⟩, .int .i64 0] L2_52.out _ (size_alloc w4 _) rfl).mono ?_; rintro e w5 ⟨A4, n4, c4, B4, m4, d4, E4, en4, ec4, rfl, h4, v4, hb⟩
  obtain rfl : en4 = 0 := v4.len.symm
  have S_59 := Lib.hid hb; clear hb
  have V1_60 := Lib.hid (V1_51.out.keep S_59.out)
  have L2_61 := Lib.hid (L2_52.out.keep S_59.out)
  have V2_62 := Lib.hid (V2_53.out.keep S_59.out)
  have R2_63 := Lib.hid (R2_54.out.below S_59.out)
  have L3_64 := Lib.hid (L3_55.out.keep S_59.out)
  have V3_65 := Lib.hid (V3_56.out.keep S_59.out)
  have R3_66 := Lib.hid (R3_57.out.below S_59.out)
  have B_67 := Lib.hid (then_ B_58.out S_59.out)
  clear V1_51 L2_52 V2_53 R2_54 L3_55 V3_56 R3_57 B_58
  clear S_59
  have L4_68 := Lib.hid (h4)
  have V4_69 := Lib.hid (v4)
  clear h4 v4
  clear p0 p1 p2 p3
  have V1_70 := Lib.hid (V1_60.out.keep (new1 w5 (.cells #[.int .i64 2, .int .i64 0, .slice A4 n4 c4, .slice B4 m4 d4] 25)))
  have L2_71 := Lib.hid (L2_61.out.keep (new1 w5 (.cells #[.int .i64 2, .int .i64 0, .slice A4 n4 c4, .slice B4 m4 d4] 25)))
  have V2_72 := Lib.hid (V2_62.out.keep (new1 w5 (.cells #[.int .i64 2, .int .i64 0, .slice A4 n4 c4, .slice B4 m4 d4] 25)))
  have R2_73 := Lib.hid (R2_63.out.below (new1 w5 (.cells #[.int .i64 2, .int .i64 0, .slice A4 n4 c4, .slice B4 m4 d4] 25)))
  have L3_74 := Lib.hid (L3_64.out.keep (new1 w5 (.cells #[.int .i64 2, .int .i64 0, .slice A4 n4 c4, .slice B4 m4 d4] 25)))
  have V3_75 := Lib.hid (V3_65.out.keep (new1 w5 (.cells #[.int .i64 2, .int .i64 0, .slice A4 n4 c4, .slice B4 m4 d4] 25)))
  have R3_76 := Lib.hid (R3_66.out.below (new1 w5 (.cells #[.int .i64 2, .int .i64 0, .slice A4 n4 c4, .slice B4 m4 d4] 25)))
  have L4_77 := Lib.hid (L4_68.out.keep (new1 w5 (.cells #[.int .i64 2, .int .i64 0, .slice A4 n4 c4, .slice B4 m4 d4] 25)))
  have V4_78 := Lib.hid (V4_69.out.keep (new1 w5 (.cells #[.int .i64 2, .int .i64 0, .slice A4 n4 c4, .slice B4 m4 d4] 25)))
  have B_79 := Lib.hid (then_ B_67.out (new1 w5 (.cells #[.int .i64 2, .int .i64 0, .slice A4 n4 c4, .slice B4 m4 d4] 25)))
  clear V1_60 L2_61 V2_62 R2_63 L3_64 V3_65 R3_66 L4_68 V4_69 B_67
  have R4_80 := Lib.hid (own_new w5 #[.int .i64 2, .int .i64 0, .slice A4 n4 c4, .slice B4 m4 d4] 25)
  clear R4_80
  clear L4_77
  clear V4_78
  have p0 := R2_73.out.cell 0 _ rfl
  have p1 := R2_73.out.cell 1 _ rfl
  have p2 := R2_73.out.cell 2 _ rfl
  have p3 := R2_73.out.cell 3 _ rfl
  go_wp2_with fail
  refine (v5 A2 n2 c2 B2 m2 d2 _ L2_71.out).mono ?_; rintro e w6 ⟨A5, n5, c5, rfl, h5, hb⟩
  obtain rfl : n5 = 2 := h5.len.symm
  have S_81 := Lib.hid hb; clear hb
  have V1_82 := Lib.hid (V1_70.out.keep S_81.out)
  have L2_83 := Lib.hid (L2_71.out.keep S_81.out)
  have V2_84 := Lib.hid (V2_72.out.keep S_81.out)
  have R2_85 := Lib.hid (R2_73.out.below S_81.out)
  have L3_86 := Lib.hid (L3_74.out.keep S_81.out)
  have V3_87 := Lib.hid (V3_75.out.keep S_81.out)
  have R3_88 := Lib.hid (R3_76.out.below S_81.out)
  have B_89 := Lib.hid (then_ B_79.out S_81.out)
  clear V1_70 L2_71 V2_72 R2_73 L3_74 V3_75 R3_76 B_79
  clear S_81
  have K5_90 := Lib.hid (h5)
  clear h5
  clear p0 p1 p2 p3
  have p0 := R2_85.out.cell 0 _ rfl
  have p1 := R2_85.out.cell 1 _ rfl
  have p2 := R2_85.out.cell 2 _ rfl
  have p3 := R2_85.out.cell 3 _ rfl
  go_wp2_with fail
  refine (v6 A2 n2 c2 B2 m2 d2 _ L2_83.out).mono ?_; rintro e w7 ⟨A6, n6, c6, rfl, h6, hb⟩
  clear h6
  have S_91 := Lib.hid hb; clear hb
  have V1_92 := Lib.hid (V1_82.out.keep S_91.out)
  have L2_93 := Lib.hid (L2_83.out.keep S_91.out)
  have V2_94 := Lib.hid (V2_84.out.keep S_91.out)
  have R2_95 := Lib.hid (R2_85.out.below S_91.out)
  have L3_96 := Lib.hid (L3_86.out.keep S_91.out)
  have V3_97 := Lib.hid (V3_87.out.keep S_91.out)
  have R3_98 := Lib.hid (R3_88.out.below S_91.out)
  have K5_99 := Lib.hid (K5_90.out.keep S_91.out)
  have B_100 := Lib.hid (then_ B_89.out S_91.out)
  clear V1_82 L2_83 V2_84 R2_85 L3_86 V3_87 R3_88 K5_90 B_89
  clear S_91
  clear p0 p1 p2 p3
  have p0 := R2_95.out.cell 0 _ rfl
  have p1 := R2_95.out.cell 1 _ rfl
  have p2 := R2_95.out.cell 2 _ rfl
  have p3 := R2_95.out.cell 3 _ rfl
  go_wp2_with fail
  refine (v7 A2 n2 c2 B2 m2 d2 _ L2_93.out).mono ?_; rintro e w8 ⟨A7, n7, c7, B7, m7, d7, rfl, h7, hb⟩
  have S_101 := Lib.hid hb; clear hb
  have V1_102 := Lib.hid (V1_92.out.keep S_101.out)
  have L2_103 := Lib.hid (L2_93.out.keep S_101.out)
  have V2_104 := Lib.hid (V2_94.out.keep S_101.out)
  have R2_105 := Lib.hid (R2_95.out.below S_101.out)
  have L3_106 := Lib.hid (L3_96.out.keep S_101.out)
  have V3_107 := Lib.hid (V3_97.out.keep S_101.out)
  have R3_108 := Lib.hid (R3_98.out.below S_101.out)
  have K5_109 := Lib.hid (K5_99.out.keep S_101.out)
  have B_110 := Lib.hid (then_ B_100.out S_101.out)
  clear V1_92 L2_93 V2_94 R2_95 L3_96 V3_97 R3_98 K5_99 B_100
  clear S_101
  have L7_111 := Lib.hid (h7)
  clear h7
  clear p0 p1 p2 p3
  have V1_112 := Lib.hid (V1_102.out.keep (new1 w8 (.cells #[.int .i64 2, .int .i64 2, .slice A7 n7 c7, .slice B7 m7 d7] 25)))
  have L2_113 := Lib.hid (L2_103.out.keep (new1 w8 (.cells #[.int .i64 2, .int .i64 2, .slice A7 n7 c7, .slice B7 m7 d7] 25)))
  have V2_114 := Lib.hid (V2_104.out.keep (new1 w8 (.cells #[.int .i64 2, .int .i64 2, .slice A7 n7 c7, .slice B7 m7 d7] 25)))
  have R2_115 := Lib.hid (R2_105.out.below (new1 w8 (.cells #[.int .i64 2, .int .i64 2, .slice A7 n7 c7, .slice B7 m7 d7] 25)))
  have L3_116 := Lib.hid (L3_106.out.keep (new1 w8 (.cells #[.int .i64 2, .int .i64 2, .slice A7 n7 c7, .slice B7 m7 d7] 25)))
  have V3_117 := Lib.hid (V3_107.out.keep (new1 w8 (.cells #[.int .i64 2, .int .i64 2, .slice A7 n7 c7, .slice B7 m7 d7] 25)))
  have R3_118 := Lib.hid (R3_108.out.below (new1 w8 (.cells #[.int .i64 2, .int .i64 2, .slice A7 n7 c7, .slice B7 m7 d7] 25)))
  have K5_119 := Lib.hid (K5_109.out.keep (new1 w8 (.cells #[.int .i64 2, .int .i64 2, .slice A7 n7 c7, .slice B7 m7 d7] 25)))
  have L7_120 := Lib.hid (L7_111.out.keep (new1 w8 (.cells #[.int .i64 2, .int .i64 2, .slice A7 n7 c7, .slice B7 m7 d7] 25)))
  have B_121 := Lib.hid (then_ B_110.out (new1 w8 (.cells #[.int .i64 2, .int .i64 2, .slice A7 n7 c7, .slice B7 m7 d7] 25)))
  clear V1_102 L2_103 V2_104 R2_105 L3_106 V3_107 R3_108 K5_109 L7_111 B_110
  have R7_122 := Lib.hid (own_new w8 #[.int .i64 2, .int .i64 2, .slice A7 n7 c7, .slice B7 m7 d7] 25)
  have p0 := R7_122.out.cell 0 _ rfl
  have p1 := R7_122.out.cell 1 _ rfl
  have p2 := R7_122.out.cell 2 _ rfl
  have p3 := R7_122.out.cell 3 _ rfl
  go_wp2_with fail
  refine (v8 A7 n7 c7 B7 m7 d7 _ L7_120.out).mono ?_; rintro e w9 ⟨A8, n8, c8, rfl, h8, hb⟩
  clear h8
  have S_123 := Lib.hid hb; clear hb
  have V1_124 := Lib.hid (V1_112.out.keep S_123.out)
  have L2_125 := Lib.hid (L2_113.out.keep S_123.out)
  have V2_126 := Lib.hid (V2_114.out.keep S_123.out)
  have R2_127 := Lib.hid (R2_115.out.below S_123.out)
  have L3_128 := Lib.hid (L3_116.out.keep S_123.out)
  have V3_129 := Lib.hid (V3_117.out.keep S_123.out)
  have R3_130 := Lib.hid (R3_118.out.below S_123.out)
  have K5_131 := Lib.hid (K5_119.out.keep S_123.out)
  have L7_132 := Lib.hid (L7_120.out.keep S_123.out)
  have R7_133 := Lib.hid (R7_122.out.below S_123.out)
  have B_134 := Lib.hid (then_ B_121.out S_123.out)
  clear V1_112 L2_113 V2_114 R2_115 L3_116 V3_117 R3_118 K5_119 L7_120 R7_122 B_121
  clear S_123
  clear p0 p1 p2 p3
  have p0 := R7_133.out.cell 0 _ rfl
  have p1 := R7_133.out.cell 1 _ rfl
  have p2 := R7_133.out.cell 2 _ rfl
  have p3 := R7_133.out.cell 3 _ rfl
  go_wp2_with fail
  refine (v9 A7 n7 c7 B7 m7 d7 _ L7_132.out).mono ?_; rintro e w10 ⟨A9, n9, c9, rfl, h9, hb⟩
  obtain rfl : n9 = 1 := h9.len.symm
  have S_135 := Lib.hid hb; clear hb
  have V1_136 := Lib.hid (V1_124.out.keep S_135.out)
  have L2_137 := Lib.hid (L2_125.out.keep S_135.out)
  have V2_138 := Lib.hid (V2_126.out.keep S_135.out)
  have R2_139 := Lib.hid (R2_127.out.below S_135.out)
  have L3_140 := Lib.hid (L3_128.out.keep S_135.out)
  have V3_141 := Lib.hid (V3_129.out.keep S_135.out)
  have R3_142 := Lib.hid (R3_130.out.below S_135.out)
  have K5_143 := Lib.hid (K5_131.out.keep S_135.out)
  have L7_144 := Lib.hid (L7_132.out.keep S_135.out)
  have R7_145 := Lib.hid (R7_133.out.below S_135.out)
  have B_146 := Lib.hid (then_ B_134.out S_135.out)
  clear V1_124 L2_125 V2_126 R2_127 L3_128 V3_129 R3_130 K5_131 L7_132 R7_133 B_134
  clear S_135
  have K9_147 := Lib.hid (h9)
  clear h9
  clear p0 p1 p2 p3
  obtain ⟨ap, yp, rfl, _, hyp, _, kp⟩ := V1_136.out.at_ (show 1 < 2 by omega)
  obtain rfl : (⟨1, false, k2⟩ : Ev) = yp := Option.some.inj hyp
  have kp7 : w10.cell? ⟨ap.block, ap.off + 15, none⟩ = some (.int .i64 3) := by have := kp.c7; simpa [Addr.add] using this
  clear hyp kp
  obtain ⟨aq, yq, rfl, _, hyq, _, kq⟩ := V2_138.out.at_ (show 0 < 2 by omega)
  obtain rfl : (⟨2, false, k3⟩ : Ev) = yq := Option.some.inj hyq
  have kq2 : w10.cell? ⟨aq.block, aq.off + 2, none⟩ = some (.string ⟨#[97]⟩) := by have := kq.c2; simpa [Addr.add] using this
  have kq3 : w10.cell? ⟨aq.block, aq.off + 3, none⟩ = some (.string ⟨#[121]⟩) := by have := kq.c3; simpa [Addr.add] using this
  have kq4 : w10.cell? ⟨aq.block, aq.off + 4, none⟩ = some (.int .i64 1) := by have := kq.c4; simpa [Addr.add] using this
  have kq5 : w10.cell? ⟨aq.block, aq.off + 5, none⟩ = some (.int .i64 2) := by have := kq.c5; simpa [Addr.add] using this
  have kq6 : w10.cell? ⟨aq.block, aq.off + 6, none⟩ = some (.int .i64 2) := by have := kq.c6; simpa [Addr.add] using this
  have kq7 : w10.cell? ⟨aq.block, aq.off + 7, none⟩ = some (.int .i64 0) := by have := kq.c7; simpa [Addr.add] using this
  clear hyq kq
  obtain ⟨ar, yr, er, _, hyr, _, kr⟩ := V2_138.out.at_ (show 1 < 2 by omega)
  obtain rfl : aq = ar := Option.some.inj er
  obtain rfl : (⟨2, true, k2⟩ : Ev) = yr := Option.some.inj hyr
  have kr1 : w10.cell? ⟨aq.block, aq.off + 9, none⟩ = some (.bool true) := by have := kr.c1; simpa [Addr.add] using this
  clear hyr kr er
  obtain ⟨ax, yx, rfl, _, hyx, _, kx⟩ := K5_143.out.at_ (show 0 < 2 by omega)
  obtain rfl : k1 = yx := Option.some.inj hyx
  have kx1 : w10.cell? ⟨ax.block, ax.off + 1, none⟩ = some (.string ⟨#[120]⟩) := by have := kx.c1; simpa [Addr.add] using this
  clear hyx kx
  obtain ⟨au, yu, rfl, _, hyu, _, ku⟩ := K9_147.out.at_ (show 0 < 1 by omega)
  obtain rfl : k3 = yu := Option.some.inj hyu
  have ku1 : w10.cell? ⟨au.block, au.off + 1, none⟩ = some (.string ⟨#[121]⟩) := by have := ku.c1; simpa [Addr.add] using this
  clear hyu ku
  have heq := eql_kv_same
  have r2_0 := R2_139.out.cell 0 _ rfl
  have r2_1 := R2_139.out.cell 1 _ rfl
  have r2_2 := R2_139.out.cell 2 _ rfl
  have r2_3 := R2_139.out.cell 3 _ rfl
  have r3_0 := R3_142.out.cell 0 _ rfl
  have r3_1 := R3_142.out.cell 1 _ rfl
  have r3_2 := R3_142.out.cell 2 _ rfl
  have r3_3 := R3_142.out.cell 3 _ rfl
  have r7_0 := R7_145.out.cell 0 _ rfl
  have r7_1 := R7_145.out.cell 1 _ rfl
  have r7_2 := R7_145.out.cell 2 _ rfl
  have r7_3 := R7_145.out.cell 3 _ rfl
  obtain rfl : n2 = n3 := L2_137.out.kv.len.symm.trans L3_140.out.kv.len
  obtain rfl : m2 = m3 := L2_137.out.ev.len.symm.trans L3_140.out.ev.len
  go_wp2_with fail
  refine (st_same X2 A2 A3 n2 c2 c3 B2 B3 m2 d2 d3 _ L2_137.out L3_140.out (by have := st_small2 (L2_137.out) (by decide) (by decide); omega) (by have := st_small2 (L2_137.out) (by decide) (by decide); omega)).mono ?_; rintro e w11 ⟨rfl, hb⟩
  have S_148 := Lib.hid hb; clear hb
  have V1_149 := Lib.hid (V1_136.out.keep S_148.out)
  have L2_150 := Lib.hid (L2_137.out.keep S_148.out)
  have V2_151 := Lib.hid (V2_138.out.keep S_148.out)
  have R2_152 := Lib.hid (R2_139.out.below S_148.out)
  have L3_153 := Lib.hid (L3_140.out.keep S_148.out)
  have V3_154 := Lib.hid (V3_141.out.keep S_148.out)
  have R3_155 := Lib.hid (R3_142.out.below S_148.out)
  have K5_156 := Lib.hid (K5_143.out.keep S_148.out)
  have L7_157 := Lib.hid (L7_144.out.keep S_148.out)
  have R7_158 := Lib.hid (R7_145.out.below S_148.out)
  have K9_159 := Lib.hid (K9_147.out.keep S_148.out)
  have B_160 := Lib.hid (then_ B_146.out S_148.out)
  clear V1_136 L2_137 V2_138 R2_139 L3_140 V3_141 R3_142 K5_143 L7_144 R7_145 K9_147 B_146
  clear S_148
  clear r2_0 r2_1 r2_2 r2_3
  clear r3_0 r3_1 r3_2 r3_3
  clear r7_0 r7_1 r7_2 r7_3
  clear V1_149
  clear V2_151
  clear V3_154
  clear L3_153
  obtain ⟨bx, yx, ex, _, hyx, _, kx⟩ := K5_156.out.at_ (show 0 < 2 by omega)
  obtain rfl : ax = bx := Option.some.inj ex
  obtain rfl : k1 = yx := Option.some.inj hyx
  have kx2 : w11.cell? ⟨ax.block, ax.off + 1, none⟩ = some (.string ⟨#[120]⟩) := by have := kx.c1; simpa [Addr.add] using this
  clear hyx kx ex
  obtain ⟨bu, yu, eu, _, hyu, _, ku⟩ := K9_159.out.at_ (show 0 < 1 by omega)
  obtain rfl : au = bu := Option.some.inj eu
  obtain rfl : k3 = yu := Option.some.inj hyu
  have ku2 : w11.cell? ⟨au.block, au.off + 1, none⟩ = some (.string ⟨#[121]⟩) := by have := ku.c1; simpa [Addr.add] using this
  clear hyu ku eu
  have p0 := R2_152.out.cell 0 _ rfl
  have p1 := R2_152.out.cell 1 _ rfl
  have p2 := R2_152.out.cell 2 _ rfl
  have p3 := R2_152.out.cell 3 _ rfl
  go_wp2_with fail
  refine (v10 A2 n2 c2 B2 m2 d2 _ L2_150.out).mono ?_; rintro e w12 ⟨rfl, hb⟩
  have S_161 := Lib.hid hb; clear hb
  have L2_162 := Lib.hid (L2_150.out.keep S_161.out)
  have R2_163 := Lib.hid (R2_152.out.below S_161.out)
  have R3_164 := Lib.hid (R3_155.out.below S_161.out)
  have K5_165 := Lib.hid (K5_156.out.keep S_161.out)
  have L7_166 := Lib.hid (L7_157.out.keep S_161.out)
  have R7_167 := Lib.hid (R7_158.out.below S_161.out)
  have K9_168 := Lib.hid (K9_159.out.keep S_161.out)
  have B_169 := Lib.hid (then_ B_160.out S_161.out)
  clear L2_150 R2_152 R3_155 K5_156 L7_157 R7_158 K9_159 B_160
  clear S_161
  clear p0 p1 p2 p3
  have p0 := R7_167.out.cell 0 _ rfl
  have p1 := R7_167.out.cell 1 _ rfl
  have p2 := R7_167.out.cell 2 _ rfl
  have p3 := R7_167.out.cell 3 _ rfl
  go_wp2_with fail
  refine (v11 A7 n7 c7 B7 m7 d7 _ L7_166.out).mono ?_; rintro e w13 ⟨rfl, hb⟩
  have S_170 := Lib.hid hb; clear hb
  have L2_171 := Lib.hid (L2_162.out.keep S_170.out)
  have R2_172 := Lib.hid (R2_163.out.below S_170.out)
  have R3_173 := Lib.hid (R3_164.out.below S_170.out)
  have K5_174 := Lib.hid (K5_165.out.keep S_170.out)
  have L7_175 := Lib.hid (L7_166.out.keep S_170.out)
  have R7_176 := Lib.hid (R7_167.out.below S_170.out)
  have K9_177 := Lib.hid (K9_168.out.keep S_170.out)
  have B_178 := Lib.hid (then_ B_169.out S_170.out)
  clear L2_162 R2_163 R3_164 K5_165 L7_166 R7_167 K9_168 B_169
  clear S_170
  go_wp2_with fail
  refine (v12 _).mono ?_; rintro e w14 ⟨rfl, hb⟩
  have S_179 := Lib.hid hb; clear hb
  have L2_180 := Lib.hid (L2_171.out.keep S_179.out)
  have R2_181 := Lib.hid (R2_172.out.below S_179.out)
  have R3_182 := Lib.hid (R3_173.out.below S_179.out)
  have K5_183 := Lib.hid (K5_174.out.keep S_179.out)
  have L7_184 := Lib.hid (L7_175.out.keep S_179.out)
  have R7_185 := Lib.hid (R7_176.out.below S_179.out)
  have K9_186 := Lib.hid (K9_177.out.keep S_179.out)
  have B_187 := Lib.hid (then_ B_178.out S_179.out)
  clear L2_171 R2_172 R3_173 K5_174 L7_175 R7_176 K9_177 B_178
  clear S_179
  go_wp2
  go_ret
  exact ⟨rfl, B_187.out⟩
end Go.Proofs.Ytlffhehpeeiogaa.P
