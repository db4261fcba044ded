/- A store with revisions: what it reads as; New, kept, Now, behind, event. -/
import Derived.Test.YtkikfaeigoeogaaKvOpen
import Derived.Test.YtkikfaeigoeogaaBaseOwn
import Derived.Test.YtkikfaeigoeogaaMvDone
import Derived.RegionTactic
import Derived.ChangeAlike
namespace Go.Proofs.Ytkikfaeigoeogaa.P
open Go.RowKit Go.Sort
set_option maxHeartbeats 400000
set_option linter.unusedVariables false
set_option linter.unusedSimpArgs false
set_option maxRecDepth 100000

abbrev Ev.agg (x : Ev) : Value := .agg #[.int .i64 x.rev, .bool x.gone, .string x.kv.key, .string x.kv.val, .int .i64 x.kv.cre, .int .i64 x.kv.mod, .int .i64 x.kv.ver, .int .i64 x.kv.lea]
abbrev Mu.agg (x : Mu) : Value := .agg #[.bool x.gone, .string x.key, .string x.val, .int .i64 x.lea]
structure Mu.ok (x : Mu) : Prop where
  key : x.key.size ≤ maxLen
  val : x.val.size ≤ maxLen
  lea : inI x.lea
abbrev St.agg (s : St) (A : Option Addr) (n c : Nat) (B : Option Addr) (m d : Nat) : Value := .agg #[.int .i64 s.rev, .int .i64 s.low, .slice A n c, .slice B m d]
abbrev stCells (s : St) (A : Option Addr) (n c : Nat) (B : Option Addr) (m d : Nat) : Array Value := #[.int .i64 s.rev, .int .i64 s.low, .slice A n c, .slice B m d]
abbrev zSt : Array Value := #[.int .i64 0, .int .i64 0, .slice none 0 0, .slice none 0 0]
structure StAt (w : World) (s : St) (A : Option Addr) (n c : Nat) (B : Option Addr) (m d : Nat) : Prop where
  kv : KVs w A n c s.base
  ev : Evs w B m d s.log
  rev : inI s.rev
  low : inI s.low
theorem StAt.keep {w w1 : World} {s : St} {A : Option Addr} {n c : Nat} {B : Option Addr} {m d : Nat} (h : StAt w s A n c B m d) (hb : Below w.heap.size w w1) : StAt w1 s A n c B m d := ⟨h.kv.keep hb, h.ev.keep hb, h.rev, h.low⟩
abbrev zeroKV : KV := ⟨⟨#[]⟩, ⟨#[]⟩, 0, 0, 0, 0⟩
abbrev zeroSt : St := ⟨0, 0, [], []⟩
theorem evs_bare (w : World) : Evs w none 0 0 [] := ⟨rfl, Nat.le_refl _, Nat.zero_le _, fun _ h => by simp at h, fun h => absurd h (by omega), fun _ => rfl⟩
theorem zero_in : inI 0 := ⟨by decide, by decide⟩
theorem zeroSt_at (w : World) : StAt w zeroSt none 0 0 none 0 0 := ⟨KVs.bare _, evs_bare _, zero_in, zero_in⟩

theorem new_any (w : World) : Calls Try.prog 27 #[] w fun e w' => e = .returned (zeroSt.agg none 0 0 none 0 0) ∧ Below w.heap.size w w' := by
  go_enter Try.func27, Try.ntmps27
  go_wp2
  refine bodyPost_ret (v := .agg #[.int .i64 0, .int .i64 0, .slice none 0 0, .slice none 0 0]) (by simp [results, Try.results27, go_sem]) rfl ⟨rfl, ?_⟩
  exact new1 w _

theorem kept_any (s : St) (A : Option Addr) (n c : Nat) (B : Option Addr) (m d : Nat) (rev : Int) (w : World) (hr : inI s.rev) (hl : inI s.low) (hv : inI rev) :
    Calls Try.prog 35 #[s.agg A n c B m d, .int .i64 rev] w fun e w' => e = .returned (.int .i64 (keptE s rev)) ∧ Below w.heap.size w w' := by
  obtain ⟨r1, r2⟩ := hr; obtain ⟨l1, l2⟩ := hl; obtain ⟨v1, v2⟩ := hv
  by_cases h0 : rev < 0
  · have HR : Hid (keptE s rev = 8) := Lib.hid (by unfold keptE; rw [if_pos (.inl h0)])
    go_enter Try.func35, Try.ntmps35
    go_wp2
    go_ret
    exact ⟨by rw [HR.out]; rfl, new1 w _⟩
  · by_cases h1 : s.rev < rev
    · have HR : Hid (keptE s rev = 8) := Lib.hid (by unfold keptE; rw [if_pos (.inr h1)])
      go_enter Try.func35, Try.ntmps35
      go_wp2
      go_ret
      exact ⟨by rw [HR.out]; rfl, new1 w _⟩
    · by_cases h2 : rev < s.low
      · have HR : Hid (keptE s rev = 9) := Lib.hid (by unfold keptE; rw [if_neg (by omega), if_pos h2])
        go_enter Try.func35, Try.ntmps35
        go_wp2
        go_ret
        exact ⟨by rw [HR.out]; rfl, new1 w _⟩
      · have HR : Hid (keptE s rev = 0) := Lib.hid (by unfold keptE; rw [if_neg (by omega), if_neg h2])
        go_enter Try.func35, Try.ntmps35
        go_wp2
        go_ret
        exact ⟨by rw [HR.out]; rfl, new1 w _⟩

theorem some_past {w : World} {o : Obj} {l : List KV} {e : Ending} {w' : World} (h : SomeKVs (w.alloc o) l e w') : SomeKVs w l e w' := by
  obtain ⟨A, n, c, he, hk, hb⟩ := h
  exact ⟨A, n, c, he, hk, then_ (new1 w o) hb⟩
theorem now_fresh (s : St) (A : Option Addr) (n c : Nat) (B : Option Addr) (m d : Nat) (w : World) (h : StAt w s A n c B m d) (hn : n + m ≤ 900000) :
    Calls Try.prog 22 #[s.agg A n c B m d] w (FreshKVs w (nowL s)) := by
  have H := Lib.hid (h.keep (new1 w (.cells #[.int .i64 s.rev, .int .i64 s.low, .slice A n c, .slice B m d] 25)))
  clear h
  go_enter Try.func22, Try.ntmps22
  go_wp2_with fail
  refine (fold_fresh A n c s.base B m d s.log s.rev _ H.out.kv H.out.ev hn).mono ?_; rintro e w1 ⟨A1, n1, c1, rfl, hk, hb, hfr⟩
  have HF := Lib.hid (show ∀ a, A1 = some a → w.heap.size ≤ a.block from fun a ha => by have := hfr a ha; simp at this; omega); have HK := Lib.hid hk; have HB := Lib.hid (then_ (new1 w _) hb)
  clear hk hb hfr
  go_wp2
  go_ret
  exact ⟨A1, n1, c1, rfl, HK.out, HB.out, HF.out⟩
theorem now_any (s : St) (A : Option Addr) (n c : Nat) (B : Option Addr) (m d : Nat) (w : World) (h : StAt w s A n c B m d) (hn : n + m ≤ 900000) :
    Calls Try.prog 22 #[s.agg A n c B m d] w (SomeKVs w (nowL s)) := (now_fresh s A n c B m d w h hn).mono fun e w' h => h.some_

theorem evs_one (w : World) (e : Ev) (ok : e.ok) : Evs (w.alloc (e.obj 43)) (some ⟨w.heap.size, 0, none⟩) 1 1 [e] :=
  evs_of_row (g := w.heap.size) (own_new w _ _).ex rfl (Nat.le_refl _) (by unfold maxLen; omega) rfl (by intro x hx; simp at hx; subst hx; exact ok)
theorem evs_two (w : World) (o : Obj) (e : Ev) (ok : e.ok) : Evs ((w.alloc o).alloc (e.obj 43)) (some ⟨w.heap.size + 1, 0, none⟩) 1 1 [e] :=
  evs_of_row (g := w.heap.size + 1) (own_new2 w _ _ _).ex rfl (Nat.le_refl _) (by unfold maxLen; omega) rfl (by intro x hx; simp at hx; subst hx; exact ok)
theorem after_fold (l : List KV) (e : Ev) : foldL l [e] e.rev = afterE l e := by show stepL e.rev l e = _; exact step_after (Int.le_refl _)
theorem behind_fresh (A : Option Addr) (n c : Nat) (l : List KV) (e : Ev) (w : World) (h : KVs w A n c l) (ok : e.ok) (hn : n ≤ 800000) :
    Calls Try.prog 54 #[.slice A n c, e.agg] w (FreshKVs w (afterE l e)) := by
  have H := Lib.hid (h.keep (then_ (new1 w (e.obj 43)) (new1 _ (e.obj 43))))
  have G := Lib.hid (evs_two w (e.obj 43) e ok)
  clear h
  go_enter Try.func54, Try.ntmps54
  go_wp2_with fail
  refine (fold_fresh A n c l _ 1 1 [e] e.rev _ H.out G.out (by omega)).mono ?_; rintro e' w1 ⟨A1, n1, c1, rfl, hk, hb, hfr⟩
  rw [after_fold] at hk
  have HF := Lib.hid (show ∀ a, A1 = some a → w.heap.size ≤ a.block from fun a ha => by have := hfr a ha; simp at this; omega); have HK := Lib.hid hk; have HB := Lib.hid (then_ (then_ (new1 w _) (new1 _ _)) hb)
  clear hk hb hfr
  go_wp2
  go_ret
  exact ⟨A1, n1, c1, rfl, HK.out, HB.out, HF.out⟩
theorem behind_any (A : Option Addr) (n c : Nat) (l : List KV) (e : Ev) (w : World) (h : KVs w A n c l) (ok : e.ok) (hn : n ≤ 800000) :
    Calls Try.prog 54 #[.slice A n c, e.agg] w (SomeKVs w (afterE l e)) := (behind_fresh A n c l e w h ok hn).mono fun e w' h => h.some_

theorem mayMut_any (x : Mu) (w : World) (hx : x.ok) : Calls Try.prog 52 #[x.agg] w fun e w' => e = .returned (.bool (mutB x)) ∧ Below w.heap.size w w' := by
  obtain ⟨z1, z2, ⟨a1, b1⟩⟩ := hx
  have Z1 := Lib.hid z1
  unfold maxLen at z1 z2
  by_cases hck : checkL x.key.data.toList = true
  · have HC := Lib.hid hck
    clear hck
    have HL : ∀ p : Prop, [Decidable p] → (p ↔ (x.val.size ≤ 20 ∧ 0 ≤ x.lea ∧ x.lea ≤ 1099511627775)) → decide p = mutB x := fun p _ h => by
      unfold mutB; rw [HC.out, Bool.true_and]; exact decide_eq_decide.2 h
    have HN : ¬ (x.val.size ≤ 20 ∧ 0 ≤ x.lea ∧ x.lea ≤ 1099511627775) → mutB x = false := fun h => by unfold mutB; simp [h]
    have HLh := Lib.hid HL; have HNh := Lib.hid HN
    clear HL HN
    go_enter Try.func52, Try.ntmps52
    go_wp2_with fail
    refine (check_any _ _ Z1.out).mono ?_; rintro e w1 ⟨rfl, hb⟩
    have HB := Lib.hid hb
    clear hb
    rw [HC.out]
    obtain ⟨hc, hf⟩ := bcell HB.out
    have HW := Lib.hid (then_ (new1 w _) HB.out)
    go_wp2
    all_goals go_ret
    all_goals exact ⟨retB (by first | exact HLh.out _ (by omega) | exact (HNh.out (by omega)).symm), HW.out⟩
  · have HC := Lib.hid (show checkL x.key.data.toList = false by simpa using hck)
    clear hck
    go_enter Try.func52, Try.ntmps52
    go_wp2_with fail
    refine (check_any _ _ Z1.out).mono ?_; rintro e w1 ⟨rfl, hb⟩
    have HB := Lib.hid hb
    clear hb
    rw [HC.out]
    have HW := Lib.hid (then_ (new1 w _) HB.out)
    go_wp2
    go_ret
    exact ⟨retB (by unfold mutB; rw [HC.out]; rfl), HW.out⟩

/-- What comes of a thing that is to be done, as the program tells it. -/
def EventEnd (l : List KV) (x : Mu) (rev : Int) (w : World) (e : Ending) (w' : World) : Prop :=
  (match evOf l x rev with | some y => e = .returned (.tuple #[y.agg, .bool true]) | none => e = .returned (.tuple #[(Ev.mk rev true zeroKV).agg, .bool false])) ∧ Below w.heap.size w w'
theorem EventEnd.yes {l : List KV} {x : Mu} {rev : Int} {w : World} {e : Ending} {w' : World} {y : Ev} (h : evOf l x rev = some y) (he : e = .returned (.tuple #[y.agg, .bool true])) (hb : Below w.heap.size w w') : EventEnd l x rev w e w' := by
  unfold EventEnd; rw [h]; exact ⟨he, hb⟩
theorem EventEnd.no {l : List KV} {x : Mu} {rev : Int} {w : World} {e : Ending} {w' : World} (h : evOf l x rev = none) (he : e = .returned (.tuple #[(Ev.mk rev true zeroKV).agg, .bool false])) (hb : Below w.heap.size w w') : EventEnd l x rev w e w' := by
  unfold EventEnd; rw [h]; exact ⟨he, hb⟩
theorem EventEnd.yes' {l : List KV} {x : Mu} {rev : Int} {w : World} {e : Ending} {w' : World} {y : Ev} (h : evOf l x rev = some y) (k : EventEnd l x rev w e w') : e = .returned (.tuple #[y.agg, .bool true]) ∧ Below w.heap.size w w' := by
  unfold EventEnd at k; rwa [h] at k
theorem EventEnd.no' {l : List KV} {x : Mu} {rev : Int} {w : World} {e : Ending} {w' : World} (h : evOf l x rev = none) (k : EventEnd l x rev w e w') : e = .returned (.tuple #[(Ev.mk rev true zeroKV).agg, .bool false]) ∧ Below w.heap.size w w' := by
  unfold EventEnd at k; rwa [h] at k
theorem below_set8 {B g : Nat} {w w2 : World} (h : Below B w w2) (hg : B ≤ g) (v0 v1 v2 v3 v4 v5 v6 v7 : Value) :
    Below B w ((((((((w2.setCell ⟨g, 0, none⟩ v0).setCell ⟨g, 1, none⟩ v1).setCell ⟨g, 2, none⟩ v2).setCell ⟨g, 3, none⟩ v3).setCell ⟨g, 4, none⟩ v4).setCell ⟨g, 5, none⟩ v5).setCell ⟨g, 6, none⟩ v6).setCell ⟨g, 7, none⟩ v7) :=
  ((below_set6 h hg v0 v1 v2 v3 v4 v5).setCell (p := ⟨g, 6, none⟩) hg _).setCell (p := ⟨g, 7, none⟩) hg _
abbrev zEv : Array Value := #[.int .i64 0, .bool false, .string ⟨#[]⟩, .string ⟨#[]⟩, .int .i64 0, .int .i64 0, .int .i64 0, .int .i64 0]
theorem event_gone (A : Option Addr) (n c : Nat) (l : List KV) (x : Mu) (rev : Int) (w : World) (h : KVs w A n c l) (hn : n ≤ 1000000) (hg : x.gone = true) :
    Calls Try.prog 53 #[.slice A n c, x.agg, .int .i64 rev] w (EventEnd l x rev w) := by
  have hb0 := then_ (new1 w (.cells #[.bool x.gone, .string x.key, .string x.val, .int .i64 x.lea] 60)) (new1 _ (.cells zEv 43))
  have H := Lib.hid (h.keep hb0)
  have M0 := Lib.hid ((own_new w #[.bool x.gone, .string x.key, .string x.val, .int .i64 x.lea] 60).alloc (.cells zEv 43))
  have R0 := Lib.hid (own_new2 w (.cells #[.bool x.gone, .string x.key, .string x.val, .int .i64 x.lea] 60) zEv 43)
  have B0 := Lib.hid hb0
  have HG := Lib.hid hg
  have t := find_any A n c l x.key _ H.out hn
  have T := Lib.hid t
  clear h hb0 t
  cases hf : findL l x.key with
  | none =>
    have HE : Hid (evOf l x rev = none) := Lib.hid (by unfold evOf; rw [HG.out, hf]; rfl)
    have HF := Lib.hid hf; clear hf hg
    go_enter Try.func53, Try.ntmps53
    go_wp2_with fail
    refine T.out.mono ?_; rintro e w1 h
    rw [HF.out] at h
    obtain ⟨rfl, hb⟩ := h.none_
    have B1 := Lib.hid (then_ B0.out hb)
    have hc0 := (((M0.out.below hb).alloc (.cells #[.string ⟨#[]⟩, .string ⟨#[]⟩, .int .i64 0, .int .i64 0, .int .i64 0, .int .i64 0] 36)).cell 0 _ rfl)
    have q0 : (w1.alloc (.cells #[.string ⟨#[]⟩, .string ⟨#[]⟩, .int .i64 0, .int .i64 0, .int .i64 0, .int .i64 0] 36)).cell? ⟨w.heap.size, 0, none⟩ = some (.bool true) := by rw [hc0]; simp [HG.out]
    have R1 := Lib.hid ((R0.out.below hb).alloc (.cells #[.string ⟨#[]⟩, .string ⟨#[]⟩, .int .i64 0, .int .i64 0, .int .i64 0, .int .i64 0] 36))
    have f := R1.out.frozen
    have o0 := R1.out.cell 0 _ rfl
    have o1 := R1.out.cell 1 _ rfl
    have o2 := R1.out.cell 2 _ rfl
    have o3 := R1.out.cell 3 _ rfl
    have o4 := R1.out.cell 4 _ rfl
    have o5 := R1.out.cell 5 _ rfl
    have o6 := R1.out.cell 6 _ rfl
    have o7 := R1.out.cell 7 _ rfl
    clear h hb hc0
    go_wp2
    refine bodyPost_ret (v := .tuple #[(Ev.mk rev true zeroKV).agg, .bool false]) (by simp [results, Try.results53, go_sem, o0, o1, o2, o3, o4, o5, o6, o7]) rfl (EventEnd.no HE.out rfl ?_)
    exact below_set8 (then_ B1.out (new1 w1 _)) (Nat.le_succ _) _ _ _ _ _ _ _ _
  | some y =>
    have HE : Hid (evOf l x rev = some ⟨rev, true, y⟩) := Lib.hid (by unfold evOf; rw [HG.out, hf]; rfl)
    have HF := Lib.hid hf; clear hf hg
    go_enter Try.func53, Try.ntmps53
    go_wp2_with fail
    refine T.out.mono ?_; rintro e w1 h
    rw [HF.out] at h
    obtain ⟨rfl, hb⟩ := h.some_
    have B1 := Lib.hid (then_ B0.out hb)
    have hc0 := (((M0.out.below hb).alloc (y.obj 36)).cell 0 _ rfl)
    have q0 : (w1.alloc (y.obj 36)).cell? ⟨w.heap.size, 0, none⟩ = some (.bool true) := by rw [hc0]; simp [HG.out]
    have R1 := Lib.hid ((R0.out.below hb).alloc (y.obj 36))
    have f := R1.out.frozen
    have o0 := R1.out.cell 0 _ rfl
    have o1 := R1.out.cell 1 _ rfl
    have o2 := R1.out.cell 2 _ rfl
    have o3 := R1.out.cell 3 _ rfl
    have o4 := R1.out.cell 4 _ rfl
    have o5 := R1.out.cell 5 _ rfl
    have o6 := R1.out.cell 6 _ rfl
    have o7 := R1.out.cell 7 _ rfl
    clear h hb hc0
    go_wp2
    refine bodyPost_ret (v := .tuple #[(Ev.mk rev true y).agg, .bool true]) (by simp [results, Try.results53, go_sem, o0, o1, o2, o3, o4, o5, o6, o7]) rfl (EventEnd.yes HE.out rfl ?_)
    exact below_set8 (then_ B1.out (new1 w1 _)) (Nat.le_succ _) _ _ _ _ _ _ _ _
def inV (x : KV) : Prop := x.ver ≤ 1152921504606846976
theorem laid_none {l : List KV} {x : Mu} {rev : Int} (h : findL l x.key = none) : laid l x rev = ⟨x.key, x.val, rev, rev, 1, x.lea⟩ := by unfold laid; rw [h]
theorem laid_some {l : List KV} {x : Mu} {rev : Int} {y : KV} (h : findL l x.key = some y) : laid l x rev = ⟨x.key, x.val, y.cre, rev, y.ver + 1, x.lea⟩ := by unfold laid; rw [h]
theorem event_new (A : Option Addr) (n c : Nat) (l : List KV) (x : Mu) (rev : Int) (w : World) (h : KVs w A n c l) (hn : n ≤ 1000000) (hg : x.gone = false) (hf : findL l x.key = none) :
    Calls Try.prog 53 #[.slice A n c, x.agg, .int .i64 rev] w (EventEnd l x rev w) := by
  have hb0 := then_ (new1 w (.cells #[.bool x.gone, .string x.key, .string x.val, .int .i64 x.lea] 60)) (new1 _ (.cells zEv 43))
  have H := Lib.hid (h.keep hb0)
  have M0 := Lib.hid ((own_new w #[.bool x.gone, .string x.key, .string x.val, .int .i64 x.lea] 60).alloc (.cells zEv 43))
  have R0 := Lib.hid (own_new2 w (.cells #[.bool x.gone, .string x.key, .string x.val, .int .i64 x.lea] 60) zEv 43)
  have B0 := Lib.hid hb0
  have HG := Lib.hid hg
  have t := find_any A n c l x.key _ H.out hn
  have T := Lib.hid t
  have HE : Hid (evOf l x rev = some ⟨rev, false, ⟨x.key, x.val, rev, rev, 1, x.lea⟩⟩) := Lib.hid (by unfold evOf; rw [HG.out, laid_none hf]; rfl)
  have HF := Lib.hid hf
  clear h hb0 t hf hg
  go_enter Try.func53, Try.ntmps53
  go_wp2_with fail
  refine T.out.mono ?_; rintro e w1 h
  rw [HF.out] at h
  obtain ⟨rfl, hb⟩ := h.none_
  have B1 := Lib.hid (then_ B0.out hb)
  have M1 := Lib.hid ((M0.out.below hb).alloc (.cells #[.string ⟨#[]⟩, .string ⟨#[]⟩, .int .i64 0, .int .i64 0, .int .i64 0, .int .i64 0] 36))
  have q0 : (w1.alloc (.cells #[.string ⟨#[]⟩, .string ⟨#[]⟩, .int .i64 0, .int .i64 0, .int .i64 0, .int .i64 0] 36)).cell? ⟨w.heap.size, 0, none⟩ = some (.bool false) := by rw [M1.out.cell 0 _ rfl]; simp [HG.out]
  have q1 := M1.out.cell 1 _ rfl
  have q2 := M1.out.cell 2 _ rfl
  have q3 := M1.out.cell 3 _ rfl
  have R1 := Lib.hid (((R0.out.below hb).alloc (.cells #[.string ⟨#[]⟩, .string ⟨#[]⟩, .int .i64 0, .int .i64 0, .int .i64 0, .int .i64 0] 36)).alloc (.cells #[.string x.key, .string x.val, .int .i64 rev, .int .i64 rev, .int .i64 1, .int .i64 x.lea] 36))
  have f := R1.out.frozen
  have o0 := R1.out.cell 0 _ rfl
  have o1 := R1.out.cell 1 _ rfl
  have o2 := R1.out.cell 2 _ rfl
  have o3 := R1.out.cell 3 _ rfl
  have o4 := R1.out.cell 4 _ rfl
  have o5 := R1.out.cell 5 _ rfl
  have o6 := R1.out.cell 6 _ rfl
  have o7 := R1.out.cell 7 _ rfl
  clear h hb
  go_wp2
  refine bodyPost_ret (v := .tuple #[(Ev.mk rev false ⟨x.key, x.val, rev, rev, 1, x.lea⟩).agg, .bool true]) (by simp [results, Try.results53, go_sem, o0, o1, o2, o3, o4, o5, o6, o7]) rfl (EventEnd.yes HE.out rfl ?_)
  exact below_set8 (then_ (then_ B1.out (new1 w1 _)) (new1 _ _)) (Nat.le_succ _) _ _ _ _ _ _ _ _
theorem event_old (A : Option Addr) (n c : Nat) (l : List KV) (x : Mu) (rev : Int) (w : World) (h : KVs w A n c l) (hn : n ≤ 1000000) (hg : x.gone = false) (y : KV) (hf : findL l x.key = some y) (hv : 0 ≤ y.ver ∧ y.ver ≤ 1152921504606846976) :
    Calls Try.prog 53 #[.slice A n c, x.agg, .int .i64 rev] w (EventEnd l x rev w) := by
  have hb0 := then_ (new1 w (.cells #[.bool x.gone, .string x.key, .string x.val, .int .i64 x.lea] 60)) (new1 _ (.cells zEv 43))
  have H := Lib.hid (h.keep hb0)
  have M0 := Lib.hid ((own_new w #[.bool x.gone, .string x.key, .string x.val, .int .i64 x.lea] 60).alloc (.cells zEv 43))
  have R0 := Lib.hid (own_new2 w (.cells #[.bool x.gone, .string x.key, .string x.val, .int .i64 x.lea] 60) zEv 43)
  have B0 := Lib.hid hb0
  have HG := Lib.hid hg
  have t := find_any A n c l x.key _ H.out hn
  have T := Lib.hid t
  have HE : Hid (evOf l x rev = some ⟨rev, false, ⟨x.key, x.val, y.cre, rev, y.ver + 1, x.lea⟩⟩) := Lib.hid (by unfold evOf; rw [HG.out, laid_some hf]; rfl)
  have HF := Lib.hid hf
  obtain ⟨hv0, hv1⟩ := hv
  clear h hb0 t hf hg
  go_enter Try.func53, Try.ntmps53
  go_wp2_with fail
  refine T.out.mono ?_; rintro e w1 h
  rw [HF.out] at h
  obtain ⟨rfl, hb⟩ := h.some_
  have B1 := Lib.hid (then_ B0.out hb)
  have M1 := Lib.hid ((M0.out.below hb).alloc (y.obj 36))
  have q0 : (w1.alloc (y.obj 36)).cell? ⟨w.heap.size, 0, none⟩ = some (.bool false) := by rw [M1.out.cell 0 _ rfl]; simp [HG.out]
  have q1 := M1.out.cell 1 _ rfl
  have q2 := M1.out.cell 2 _ rfl
  have q3 := M1.out.cell 3 _ rfl
  have R1 := Lib.hid (((R0.out.below hb).alloc (y.obj 36)).alloc (.cells #[.string x.key, .string x.val, .int .i64 y.cre, .int .i64 rev, .int .i64 (y.ver + 1), .int .i64 x.lea] 36))
  clear h hb
  have f := R1.out.frozen
  have o0 := R1.out.cell 0 _ rfl
  have o1 := R1.out.cell 1 _ rfl
  have o2 := R1.out.cell 2 _ rfl
  have o3 := R1.out.cell 3 _ rfl
  have o4 := R1.out.cell 4 _ rfl
  have o5 := R1.out.cell 5 _ rfl
  have o6 := R1.out.cell 6 _ rfl
  have o7 := R1.out.cell 7 _ rfl
  go_wp2
  go_region
  go_wp2
  refine bodyPost_ret (v := .tuple #[(Ev.mk rev false ⟨x.key, x.val, y.cre, rev, y.ver + 1, x.lea⟩).agg, .bool true]) (by simp [results, Try.results53, go_sem, o0, o1, o2, o3, o4, o5, o6, o7]) rfl (EventEnd.yes HE.out rfl ?_)
  exact Below.drew (below_set8 (then_ (then_ B1.out (new1 w1 _)) (new1 _ _)) (Nat.le_succ _) _ _ _ _ _ _ _ _)
theorem event_any (A : Option Addr) (n c : Nat) (l : List KV) (x : Mu) (rev : Int) (w : World) (h : KVs w A n c l) (hn : n ≤ 1000000) (hv : ∀ y ∈ l, 0 ≤ y.ver ∧ y.ver ≤ 1152921504606846976) :
    Calls Try.prog 53 #[.slice A n c, x.agg, .int .i64 rev] w (EventEnd l x rev w) := by
  cases hg : x.gone with
  | true => exact event_gone A n c l x rev w h hn hg
  | false =>
    cases hf : findL l x.key with
    | none => exact event_new A n c l x rev w h hn hg hf
    | some y => exact event_old A n c l x rev w h hn hg y hf (hv y (findL_mem _ _ _ hf).1)
end Go.Proofs.Ytkikfaeigoeogaa.P
