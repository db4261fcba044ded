/- Who leads: the head, by the program and by the document. -/
import Derived.Test.YtjjngablalnbeaaDoorElPure
import Derived.Test.YtjjngablalnbeaaDoorRowOwn
import Derived.Test.YtjjngablalnbeaaDoorTkRef
namespace Go.Proofs.YtjjngablalnbeaaDoor.P
open Go.RowKit Go.Sort
set_option maxHeartbeats 2000000
set_option linter.unusedVariables false
set_option linter.unusedSimpArgs false
set_option maxRecDepth 100000

abbrev zKV : Array Value := #[.string ⟨#[]⟩, .string ⟨#[]⟩, .int .i64 0, .int .i64 0, .int .i64 0, .int .i64 0]
theorem headL_nil {l : List KV} (h : ordL befB l = []) : headL l = none := by unfold headL; rw [h]; rfl
theorem headL_cons {l : List KV} {x : KV} {r : List KV} (h : ordL befB l = x :: r) : headL l = some x := by unfold headL; rw [h]; rfl
theorem head_any (A : Option Addr) (n c : Nat) (l : List KV) (w : World) (h : KVs w A n c l) (hn : n ≤ 100000) :
    Calls Tryd.prog 11 #[.slice A n c] w (FoundEnd (headL l) w) := by
  have O0 := Lib.hid (own_new w zKV 26)
  have B0 := Lib.hid (new1 w (.cells zKV 26))
  have c1 := order_any A n c l _ (h.keep B0.out) (by omega)
  have hl := h.len
  unfold OrdEnd at c1
  rw [hl] at c1
  cases ho : ordL befB l with
  | nil =>
    have hz : n = 0 := by rw [← hl, ← ordL_len (lt := befB), ho]; rfl
    subst hz
    rw [ho] at c1
    have HV := Lib.hid (headL_nil ho)
    clear h ho hl
    go_enter Tryd.func11, Tryd.ntmps11
    go_wp2_with fail
    refine c1.mono ?_; rintro e w1 ⟨g, rfl, -, hk, hb⟩
    have O1 := Lib.hid (O0.out.below hb)
    have B1 := Lib.hid (then_ B0.out hb)
    clear hk hb c1
    go_wp2_with (first | (refine wpList_store_row rfl 26 _ _ rfl _ _ rfl rfl 26 _ O1.out.ex (by kernel_rfl) rfl (by simp [Value.oneCell']) ?_))
    exact bodyPost_ret (v := .tuple #[.agg zKV, .bool false]) (results_row1 Tryd.results11 _ _ w.heap.size 26 _ _ rfl ((O1.out.row _).ex) Tryd.underlying26 rfl (by kernel_rfl)) rfl (by rw [HV.out]; exact ⟨rfl, below_setRow B1.out (Nat.le_refl _) _⟩)
  | cons x r =>
    have hz : 0 < n := by rw [← hl, ← ordL_len (lt := befB), ho]; simp
    rw [ho] at c1
    have HV := Lib.hid (headL_cons ho)
    have hz1 : ((n : Int) == 0) = false := by simp; omega
    have hz2 : (0 : Int) < n := by omega
    clear h ho hl
    go_enter Tryd.func11, Tryd.ntmps11
    go_wp2_with fail
    refine c1.mono ?_; rintro e w1 ⟨g, rfl, -, hk, hb⟩
    have O1 := Lib.hid (O0.out.below hb)
    have B1 := Lib.hid (then_ B0.out hb)
    generalize (some (⟨g, 0, none⟩ : Addr)) = Ag at *
    obtain ⟨a, x', rfl, _, hx, _, hc⟩ := hk.at_ hz
    obtain rfl : x = x' := Option.some.inj hx
    rw [Nat.zero_mul, Addr.add_zero'] at hc
    obtain ⟨d0, d1, d2, d3, d4, d5⟩ := hc
    clear hk hb c1 hx
    go_wp2_with (first | (refine wpList_store_row rfl 26 _ _ rfl _ _ rfl rfl 26 _ O1.out.ex (by kernel_rfl) rfl (by simp [Value.oneCell']) ?_))
    exact bodyPost_ret (v := .tuple #[x.agg, .bool true]) (results_row1 Tryd.results11 _ _ w.heap.size 26 _ _ rfl ((O1.out.row _).ex) Tryd.underlying26 rfl (by kernel_rfl)) rfl (by rw [HV.out]; exact ⟨rfl, below_setRow B1.out (Nat.le_refl _) _⟩)
theorem headr_any (A : Option Addr) (n c : Nat) (l : List KV) (w : World) (h : KVs w A n c l) (hn : n ≤ 100000) :
    Calls Tryd.prog 12 #[.slice A n c] w (FoundEnd (headL l) w) := by
  have O0 := Lib.hid (own_new w zKV 26)
  have B0 := Lib.hid (new1 w (.cells zKV 26))
  have c1 := orderR_any A n c l _ (h.keep B0.out) (by omega)
  have hl := h.len
  have hol := ordL_len (lt := befB) l
  rw [hl] at hol
  cases ho : ordL befB l with
  | nil =>
    rw [ho] at c1 hol
    have hz : n = 0 := hol.symm
    subst hz
    have HV := Lib.hid (headL_nil ho)
    clear h ho hl hol
    go_enter Tryd.func12, Tryd.ntmps12
    go_wp2_with fail
    refine c1.mono ?_; rintro e w1 ⟨Ag, m, d, rfl, hk, hb⟩
    obtain rfl : 0 = m := hk.len
    have O1 := Lib.hid (O0.out.below hb)
    have B1 := Lib.hid (then_ B0.out hb)
    clear hk hb c1
    go_wp2_with (first | (refine wpList_store_row rfl 26 _ _ rfl _ _ rfl rfl 26 _ O1.out.ex (by kernel_rfl) rfl (by simp [Value.oneCell']) ?_))
    exact bodyPost_ret (v := .tuple #[.agg zKV, .bool false]) (results_row1 Tryd.results12 _ _ w.heap.size 26 _ _ rfl ((O1.out.row _).ex) Tryd.underlying26 rfl (by kernel_rfl)) rfl (by rw [HV.out]; exact ⟨rfl, below_setRow B1.out (Nat.le_refl _) _⟩)
  | cons x r =>
    rw [ho] at c1 hol
    have hz : 0 < n := by rw [← hol]; simp
    have HV := Lib.hid (headL_cons ho)
    have HOL := Lib.hid hol
    have hz1 : ((n : Int) == 0) = false := by simp; omega
    have hz2 : (0 : Int) < n := by omega
    clear h ho hl hol
    go_enter Tryd.func12, Tryd.ntmps12
    go_wp2_with fail
    refine c1.mono ?_; rintro e w1 ⟨Ag, m, d, rfl, hk, hb⟩
    obtain rfl : n = m := HOL.out.symm.trans hk.len
    have O1 := Lib.hid (O0.out.below hb)
    have B1 := Lib.hid (then_ B0.out hb)
    obtain ⟨a, x', rfl, _, hx, _, hc⟩ := hk.at_ hz
    obtain rfl : x = x' := Option.some.inj hx
    rw [Nat.zero_mul, Addr.add_zero'] at hc
    obtain ⟨d0, d1, d2, d3, d4, d5⟩ := hc
    clear hk hb c1 hx
    go_wp2_with (first | (refine wpList_store_row rfl 26 _ _ rfl _ _ rfl rfl 26 _ O1.out.ex (by kernel_rfl) rfl (by simp [Value.oneCell']) ?_))
    exact bodyPost_ret (v := .tuple #[x.agg, .bool true]) (results_row1 Tryd.results12 _ _ w.heap.size 26 _ _ rfl ((O1.out.row _).ex) Tryd.underlying26 rfl (by kernel_rfl)) rfl (by rw [HV.out]; exact ⟨rfl, below_setRow B1.out (Nat.le_refl _) _⟩)
theorem results_row0 {P : Program} {fn : Func} {p : Tmp} {ty : TypeId} (h : fn.results = #[.cell p ty]) (tmps : Array Value) (w : World) (g : Nat) (t : TypeId) (cs : Array Value) (d : TypeDesc)
    (hp : tmps.getD p undef = .pointer (some ⟨g, 0, none⟩)) (hg : w.heap[g]? = some (.cells cs t (0, 0)))
    (hu : P.underlying ty = some d) (hd : (match d with | .struct _ | .array _ _ => true | _ => false) = true) (hi : (P.info? ty).map (·.size) = some cs.size) :
    (results fn tmps).run P w = .ok (.agg cs) w := by
  have hp' : tmps[p]?.getD undef = .pointer (some ⟨g, 0, none⟩) := by simpa using hp
  simp [results, h, hp', asAddr, run_loadVar_row w g t ty cs (0, 0) d hg hu hd hi]
/-- A head, or none, as the program holds it. -/
abbrev hcs : Option KV → Array Value
  | some x => #[.string x.key, .string x.val, .int .i64 x.cre, .int .i64 x.mod, .int .i64 x.ver, .int .i64 x.lea, .bool true]
  | none => #[.string ⟨#[]⟩, .string ⟨#[]⟩, .int .i64 0, .int .i64 0, .int .i64 0, .int .i64 0, .bool false]
theorem headOf_any (A : Option Addr) (n c : Nat) (l : List KV) (w : World) (h : KVs w A n c l) (hn : n ≤ 100000) :
    Calls Tryd.prog 37 #[.slice A n c] w fun e w' => e = .returned (.agg (hcs (headL l))) ∧ Below w.heap.size w w' := by
  have O0 := Lib.hid (own_new w (hcs none) 63)
  have B0 := Lib.hid (new1 w (.cells (hcs none) 63))
  have c1 := head_any A n c l _ (h.keep B0.out) hn
  clear h
  cases ho : headL l with
  | none =>
    rw [ho] at c1
    clear ho
    go_enter Tryd.func37, Tryd.ntmps37
    go_wp2_with fail
    refine c1.mono ?_; rintro e w1 hf
    obtain ⟨rfl, hb⟩ := hf.none_
    have O1 := Lib.hid ((O0.out.below hb).alloc (.cells zKV 26))
    have B1 := Lib.hid (then_ (then_ B0.out hb) (new1 w1 (.cells zKV 26)))
    clear hf hb c1
    go_wp2_with (first | (refine wpList_store_row rfl 63 _ _ rfl _ _ rfl rfl 63 _ O1.out.ex (by kernel_rfl) rfl (by simp [Value.oneCell']) ?_))
    exact bodyPost_ret (v := .agg (hcs none)) (results_row0 Tryd.results37 _ _ w.heap.size 63 _ _ rfl ((O1.out.row _).ex) Tryd.underlying63 rfl (by kernel_rfl)) rfl ⟨rfl, below_setRow B1.out (Nat.le_refl _) _⟩
  | some x =>
    rw [ho] at c1
    clear ho
    go_enter Tryd.func37, Tryd.ntmps37
    go_wp2_with fail
    refine c1.mono ?_; rintro e w1 hf
    obtain ⟨rfl, hb⟩ := hf.some_
    have O1 := Lib.hid ((O0.out.below hb).alloc (x.obj 26))
    have B1 := Lib.hid (then_ (then_ B0.out hb) (new1 w1 (x.obj 26)))
    clear hf hb c1
    go_wp2_with (first | (refine wpList_store_row rfl 63 _ _ rfl _ _ rfl rfl 63 _ O1.out.ex (by kernel_rfl) rfl (by simp [Value.oneCell']) ?_))
    exact bodyPost_ret (v := .agg (hcs (some x))) (results_row0 Tryd.results37 _ _ w.heap.size 63 _ _ rfl ((O1.out.row _).ex) Tryd.underlying63 rfl (by kernel_rfl)) rfl ⟨rfl, below_setRow B1.out (Nat.le_refl _) _⟩
end Go.Proofs.YtjjngablalnbeaaDoor.P
