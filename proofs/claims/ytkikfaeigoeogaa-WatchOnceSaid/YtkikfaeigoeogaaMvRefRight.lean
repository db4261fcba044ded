/- Whether an event is right: the document's answer. -/
import Derived.Test.YtkikfaeigoeogaaMgMm
namespace Go.Proofs.Ytkikfaeigoeogaa.P
open Go.RowKit Go.Sort
set_option maxHeartbeats 1000000
set_option linter.unusedVariables false
set_option linter.unusedSimpArgs false
set_option maxRecDepth 100000

theorem right_gone {l : List KV} {e : Ev} {x : KV} (hone : oneB x = true) (hg : e.gone = true) (hf : findL l e.kv.key = some x) : rightB l e = kvEq x e.kv := by
  refine right_B ?_
  unfold RightE
  rw [if_pos hg, hf, kvEq_iff]
  constructor
  · rintro ⟨_, h⟩; exact Option.some.inj h
  · intro h; subst h; exact ⟨hone, rfl⟩
theorem right_lack {l : List KV} {e : Ev} (hg : e.gone = true) (hf : findL l e.kv.key = none) : rightB l e = false := by
  refine right_B ?_
  unfold RightE
  rw [if_pos hg, hf]
  constructor
  · rintro ⟨_, h⟩; cases h
  · intro h; cases h
theorem right_bad {l : List KV} {e : Ev} (hg : e.gone = false) (h : oneB e.kv = false ∨ e.kv.mod ≠ e.rev) : rightB l e = false := by
  refine right_B ?_
  unfold RightE
  rw [if_neg (by rw [hg]; simp)]
  constructor
  · rintro ⟨h1, h2, _⟩
    rcases h with h | h
    · rw [h] at h1; cases h1
    · exact absurd h2 h
  · intro h; cases h
theorem right_new {l : List KV} {e : Ev} {b : Bool} (hg : e.gone = false) (h1 : oneB e.kv = true) (h2 : e.kv.mod = e.rev) (hf : findL l e.kv.key = none) (hb : (e.kv.cre = e.rev ∧ e.kv.ver = 1) ↔ b = true) : rightB l e = b := by
  refine right_B ?_
  unfold RightE
  rw [if_neg (by rw [hg]; simp), hf]
  simp only [h1, h2, true_and]
  exact hb
theorem right_old {l : List KV} {e : Ev} {x : KV} {b : Bool} (hg : e.gone = false) (h1 : oneB e.kv = true) (h2 : e.kv.mod = e.rev) (hf : findL l e.kv.key = some x) (hb : (e.kv.cre = x.cre ∧ e.kv.ver = x.ver + 1) ↔ b = true) : rightB l e = b := by
  refine right_B ?_
  unfold RightE
  rw [if_neg (by rw [hg]; simp), hf]
  simp only [h1, h2, true_and]
  exact hb
theorem right_r1 (A : Option Addr) (n c : Nat) (l : List KV) (e : Ev) (w : World) (h : KVs w A n c l) (ok : e.ok) (hn : n ≤ 800000) (hone : ∀ y ∈ l, oneB y = true) (hg : e.gone = true) (hf : findL l e.kv.key = none) :
    Calls Try.prog 43 #[.slice A n c, e.agg] w fun r w' => r = .returned (.bool (rightB l e)) ∧ Below w.heap.size w w' := by
  have HR : Hid (rightB l e = false) := Lib.hid (right_lack hg hf)
  have E_0 := Lib.hid (own_new w #[.int .i64 e.rev, .bool true, .string e.kv.key, .string e.kv.val, .int .i64 e.kv.cre, .int .i64 e.kv.mod, .int .i64 e.kv.ver, .int .i64 e.kv.lea] 43)
  have B_0 := Lib.hid (new1 w (.cells #[.int .i64 e.rev, .bool true, .string e.kv.key, .string e.kv.val, .int .i64 e.kv.cre, .int .i64 e.kv.mod, .int .i64 e.kv.ver, .int .i64 e.kv.lea] 43))
  have t := find_ref A n c l e.kv.key (w.alloc (.cells #[.int .i64 e.rev, .bool true, .string e.kv.key, .string e.kv.val, .int .i64 e.kv.cre, .int .i64 e.kv.mod, .int .i64 e.kv.ver, .int .i64 e.kv.lea] 43)) (h.keep (new1 w (.cells #[.int .i64 e.rev, .bool true, .string e.kv.key, .string e.kv.val, .int .i64 e.kv.cre, .int .i64 e.kv.mod, .int .i64 e.kv.ver, .int .i64 e.kv.lea] 43))) (by omega)
  rw [hf] at t
  have TT := Lib.hid t
  have OK := Lib.hid ok
  
  clear t h hf ok hone
  go_enter Try.func43, Try.ntmps43
  have x0 := E_0.out.cell 0 _ rfl
  have x1 := E_0.out.cell 1 _ rfl
  have x2 := E_0.out.cell 2 _ rfl
  have x3 := E_0.out.cell 3 _ rfl
  have x4 := E_0.out.cell 4 _ rfl
  have x5 := E_0.out.cell 5 _ rfl
  have x6 := E_0.out.cell 6 _ rfl
  have x7 := E_0.out.cell 7 _ rfl
  go_wp2_with fail
  refine TT.out.mono ?_; intro r w1 hr
  obtain ⟨rfl, hb⟩ := hr.none_
  have S := Lib.hid hb; clear hb hr
  have E_1 := Lib.hid (E_0.out.below S.out)
  have B_2 := Lib.hid (then_ B_0.out S.out)
  clear E_0 B_0
  clear S
  have E_3 := Lib.hid (E_1.out.below (new1 w1 (.cells #[.string ⟨#[]⟩, .string ⟨#[]⟩, .int .i64 0, .int .i64 0, .int .i64 0, .int .i64 0] 36)))
  have B_4 := Lib.hid (then_ B_2.out (new1 w1 (.cells #[.string ⟨#[]⟩, .string ⟨#[]⟩, .int .i64 0, .int .i64 0, .int .i64 0, .int .i64 0] 36)))
  clear E_1 B_2
  have Y_5 := Lib.hid (own_new w1 #[.string ⟨#[]⟩, .string ⟨#[]⟩, .int .i64 0, .int .i64 0, .int .i64 0, .int .i64 0] 36)
  clear x0 x1 x2 x3 x4 x5 x6 x7
  have x0 := E_3.out.cell 0 _ rfl
  have x1 := E_3.out.cell 1 _ rfl
  have x2 := E_3.out.cell 2 _ rfl
  have x3 := E_3.out.cell 3 _ rfl
  have x4 := E_3.out.cell 4 _ rfl
  have x5 := E_3.out.cell 5 _ rfl
  have x6 := E_3.out.cell 6 _ rfl
  have x7 := E_3.out.cell 7 _ rfl
  have y0 := Y_5.out.cell 0 _ rfl
  have y1 := Y_5.out.cell 1 _ rfl
  have y2 := Y_5.out.cell 2 _ rfl
  have y3 := Y_5.out.cell 3 _ rfl
  have y4 := Y_5.out.cell 4 _ rfl
  have y5 := Y_5.out.cell 5 _ rfl
  go_wp2
  go_ret
  exact ⟨retB HR.out.symm, B_4.out⟩
theorem right_r2 (A : Option Addr) (n c : Nat) (l : List KV) (e : Ev) (w : World) (h : KVs w A n c l) (ok : e.ok) (hn : n ≤ 800000) (hone : ∀ y ∈ l, oneB y = true) (hg : e.gone = true) (y : KV) (hf : findL l e.kv.key = some y) :
    Calls Try.prog 43 #[.slice A n c, e.agg] w fun r w' => r = .returned (.bool (rightB l e)) ∧ Below w.heap.size w w' := by
  have HR : Hid (rightB l e = kvEq y e.kv) := Lib.hid (right_gone (hone y (findL_mem _ _ _ hf).1) hg hf)
  have E_0 := Lib.hid (own_new w #[.int .i64 e.rev, .bool true, .string e.kv.key, .string e.kv.val, .int .i64 e.kv.cre, .int .i64 e.kv.mod, .int .i64 e.kv.ver, .int .i64 e.kv.lea] 43)
  have B_0 := Lib.hid (new1 w (.cells #[.int .i64 e.rev, .bool true, .string e.kv.key, .string e.kv.val, .int .i64 e.kv.cre, .int .i64 e.kv.mod, .int .i64 e.kv.ver, .int .i64 e.kv.lea] 43))
  have t := find_ref A n c l e.kv.key (w.alloc (.cells #[.int .i64 e.rev, .bool true, .string e.kv.key, .string e.kv.val, .int .i64 e.kv.cre, .int .i64 e.kv.mod, .int .i64 e.kv.ver, .int .i64 e.kv.lea] 43)) (h.keep (new1 w (.cells #[.int .i64 e.rev, .bool true, .string e.kv.key, .string e.kv.val, .int .i64 e.kv.cre, .int .i64 e.kv.mod, .int .i64 e.kv.ver, .int .i64 e.kv.lea] 43))) (by omega)
  rw [hf] at t
  have TT := Lib.hid t
  have OK := Lib.hid ok
  have heq := eql_kv y e.kv
  clear t h hf ok hone
  go_enter Try.func43, Try.ntmps43
  have x0 := E_0.out.cell 0 _ rfl
  have x1 := E_0.out.cell 1 _ rfl
  have x2 := E_0.out.cell 2 _ rfl
  have x3 := E_0.out.cell 3 _ rfl
  have x4 := E_0.out.cell 4 _ rfl
  have x5 := E_0.out.cell 5 _ rfl
  have x6 := E_0.out.cell 6 _ rfl
  have x7 := E_0.out.cell 7 _ rfl
  go_wp2_with fail
  refine TT.out.mono ?_; intro r w1 hr
  obtain ⟨rfl, hb⟩ := hr.some_
  have S := Lib.hid hb; clear hb hr
  have E_1 := Lib.hid (E_0.out.below S.out)
  have B_2 := Lib.hid (then_ B_0.out S.out)
  clear E_0 B_0
  clear S
  have E_3 := Lib.hid (E_1.out.below (new1 w1 (.cells #[.string y.key, .string y.val, .int .i64 y.cre, .int .i64 y.mod, .int .i64 y.ver, .int .i64 y.lea] 36)))
  have B_4 := Lib.hid (then_ B_2.out (new1 w1 (.cells #[.string y.key, .string y.val, .int .i64 y.cre, .int .i64 y.mod, .int .i64 y.ver, .int .i64 y.lea] 36)))
  clear E_1 B_2
  have Y_5 := Lib.hid (own_new w1 #[.string y.key, .string y.val, .int .i64 y.cre, .int .i64 y.mod, .int .i64 y.ver, .int .i64 y.lea] 36)
  clear x0 x1 x2 x3 x4 x5 x6 x7
  have x0 := E_3.out.cell 0 _ rfl
  have x1 := E_3.out.cell 1 _ rfl
  have x2 := E_3.out.cell 2 _ rfl
  have x3 := E_3.out.cell 3 _ rfl
  have x4 := E_3.out.cell 4 _ rfl
  have x5 := E_3.out.cell 5 _ rfl
  have x6 := E_3.out.cell 6 _ rfl
  have x7 := E_3.out.cell 7 _ rfl
  have y0 := Y_5.out.cell 0 _ rfl
  have y1 := Y_5.out.cell 1 _ rfl
  have y2 := Y_5.out.cell 2 _ rfl
  have y3 := Y_5.out.cell 3 _ rfl
  have y4 := Y_5.out.cell 4 _ rfl
  have y5 := Y_5.out.cell 5 _ rfl
  go_wp2
  go_ret
  exact ⟨retB HR.out.symm, B_4.out⟩
theorem right_n1 (A : Option Addr) (n c : Nat) (l : List KV) (e : Ev) (w : World) (h : KVs w A n c l) (ok : e.ok) (hn : n ≤ 800000) (hone : ∀ y ∈ l, oneB y = true) (hg : e.gone = false) (hf : findL l e.kv.key = none) (ho : oneB e.kv = false) :
    Calls Try.prog 43 #[.slice A n c, e.agg] w fun r w' => r = .returned (.bool (rightB l e)) ∧ Below w.heap.size w w' := by
  have HR : Hid (rightB l e = false) := Lib.hid (right_bad hg (.inl ho))
  have E_0 := Lib.hid (own_new w #[.int .i64 e.rev, .bool false, .string e.kv.key, .string e.kv.val, .int .i64 e.kv.cre, .int .i64 e.kv.mod, .int .i64 e.kv.ver, .int .i64 e.kv.lea] 43)
  have B_0 := Lib.hid (new1 w (.cells #[.int .i64 e.rev, .bool false, .string e.kv.key, .string e.kv.val, .int .i64 e.kv.cre, .int .i64 e.kv.mod, .int .i64 e.kv.ver, .int .i64 e.kv.lea] 43))
  have t := find_ref A n c l e.kv.key (w.alloc (.cells #[.int .i64 e.rev, .bool false, .string e.kv.key, .string e.kv.val, .int .i64 e.kv.cre, .int .i64 e.kv.mod, .int .i64 e.kv.ver, .int .i64 e.kv.lea] 43)) (h.keep (new1 w (.cells #[.int .i64 e.rev, .bool false, .string e.kv.key, .string e.kv.val, .int .i64 e.kv.cre, .int .i64 e.kv.mod, .int .i64 e.kv.ver, .int .i64 e.kv.lea] 43))) (by omega)
  rw [hf] at t
  have TT := Lib.hid t
  have OK := Lib.hid ok
  have HO := Lib.hid ho; clear ho
  clear t h hf ok hone
  go_enter Try.func43, Try.ntmps43
  have x0 := E_0.out.cell 0 _ rfl
  have x1 := E_0.out.cell 1 _ rfl
  have x2 := E_0.out.cell 2 _ rfl
  have x3 := E_0.out.cell 3 _ rfl
  have x4 := E_0.out.cell 4 _ rfl
  have x5 := E_0.out.cell 5 _ rfl
  have x6 := E_0.out.cell 6 _ rfl
  have x7 := E_0.out.cell 7 _ rfl
  go_wp2_with fail
  refine TT.out.mono ?_; intro r w1 hr
  obtain ⟨rfl, hb⟩ := hr.none_
  have S := Lib.hid hb; clear hb hr
  have E_1 := Lib.hid (E_0.out.below S.out)
  have B_2 := Lib.hid (then_ B_0.out S.out)
  clear E_0 B_0
  clear S
  have E_3 := Lib.hid (E_1.out.below (new1 w1 (.cells #[.string ⟨#[]⟩, .string ⟨#[]⟩, .int .i64 0, .int .i64 0, .int .i64 0, .int .i64 0] 36)))
  have B_4 := Lib.hid (then_ B_2.out (new1 w1 (.cells #[.string ⟨#[]⟩, .string ⟨#[]⟩, .int .i64 0, .int .i64 0, .int .i64 0, .int .i64 0] 36)))
  clear E_1 B_2
  have Y_5 := Lib.hid (own_new w1 #[.string ⟨#[]⟩, .string ⟨#[]⟩, .int .i64 0, .int .i64 0, .int .i64 0, .int .i64 0] 36)
  clear x0 x1 x2 x3 x4 x5 x6 x7
  have x0 := E_3.out.cell 0 _ rfl
  have x1 := E_3.out.cell 1 _ rfl
  have x2 := E_3.out.cell 2 _ rfl
  have x3 := E_3.out.cell 3 _ rfl
  have x4 := E_3.out.cell 4 _ rfl
  have x5 := E_3.out.cell 5 _ rfl
  have x6 := E_3.out.cell 6 _ rfl
  have x7 := E_3.out.cell 7 _ rfl
  have y0 := Y_5.out.cell 0 _ rfl
  have y1 := Y_5.out.cell 1 _ rfl
  have y2 := Y_5.out.cell 2 _ rfl
  have y3 := Y_5.out.cell 3 _ rfl
  have y4 := Y_5.out.cell 4 _ rfl
  have y5 := Y_5.out.cell 5 _ rfl
  go_wp2_with fail
  refine (one_any e.kv _ OK.out.kv).mono ?_; rintro e w2 ⟨rfl, hb⟩
  rw [HO.out]
  have S_6 := Lib.hid hb; clear hb
  have E_7 := Lib.hid (E_3.out.below S_6.out)
  have Y_8 := Lib.hid (Y_5.out.below S_6.out)
  have B_9 := Lib.hid (then_ B_4.out S_6.out)
  clear E_3 Y_5 B_4
  clear S_6
  clear x0 x1 x2 x3 x4 x5 x6 x7
  clear y0 y1 y2 y3 y4 y5
  have x0 := E_7.out.cell 0 _ rfl
  have x1 := E_7.out.cell 1 _ rfl
  have x2 := E_7.out.cell 2 _ rfl
  have x3 := E_7.out.cell 3 _ rfl
  have x4 := E_7.out.cell 4 _ rfl
  have x5 := E_7.out.cell 5 _ rfl
  have x6 := E_7.out.cell 6 _ rfl
  have x7 := E_7.out.cell 7 _ rfl
  have y0 := Y_8.out.cell 0 _ rfl
  have y1 := Y_8.out.cell 1 _ rfl
  have y2 := Y_8.out.cell 2 _ rfl
  have y3 := Y_8.out.cell 3 _ rfl
  have y4 := Y_8.out.cell 4 _ rfl
  have y5 := Y_8.out.cell 5 _ rfl
  go_wp2
  go_ret
  exact ⟨retB HR.out.symm, B_9.out⟩
theorem right_n2 (A : Option Addr) (n c : Nat) (l : List KV) (e : Ev) (w : World) (h : KVs w A n c l) (ok : e.ok) (hn : n ≤ 800000) (hone : ∀ y ∈ l, oneB y = true) (hg : e.gone = false) (hf : findL l e.kv.key = none) (ho : oneB e.kv = true) (hm : e.kv.mod ≠ e.rev) :
    Calls Try.prog 43 #[.slice A n c, e.agg] w fun r w' => r = .returned (.bool (rightB l e)) ∧ Below w.heap.size w w' := by
  have HR : Hid (rightB l e = false) := Lib.hid (right_bad hg (.inr hm))
  have E_0 := Lib.hid (own_new w #[.int .i64 e.rev, .bool false, .string e.kv.key, .string e.kv.val, .int .i64 e.kv.cre, .int .i64 e.kv.mod, .int .i64 e.kv.ver, .int .i64 e.kv.lea] 43)
  have B_0 := Lib.hid (new1 w (.cells #[.int .i64 e.rev, .bool false, .string e.kv.key, .string e.kv.val, .int .i64 e.kv.cre, .int .i64 e.kv.mod, .int .i64 e.kv.ver, .int .i64 e.kv.lea] 43))
  have t := find_ref A n c l e.kv.key (w.alloc (.cells #[.int .i64 e.rev, .bool false, .string e.kv.key, .string e.kv.val, .int .i64 e.kv.cre, .int .i64 e.kv.mod, .int .i64 e.kv.ver, .int .i64 e.kv.lea] 43)) (h.keep (new1 w (.cells #[.int .i64 e.rev, .bool false, .string e.kv.key, .string e.kv.val, .int .i64 e.kv.cre, .int .i64 e.kv.mod, .int .i64 e.kv.ver, .int .i64 e.kv.lea] 43))) (by omega)
  rw [hf] at t
  have TT := Lib.hid t
  have OK := Lib.hid ok
  have HO := Lib.hid ho; clear ho
  have hm1 : (e.kv.mod != e.rev) = true := by simp [hm]
  clear hm
  clear t h hf ok hone
  go_enter Try.func43, Try.ntmps43
  have x0 := E_0.out.cell 0 _ rfl
  have x1 := E_0.out.cell 1 _ rfl
  have x2 := E_0.out.cell 2 _ rfl
  have x3 := E_0.out.cell 3 _ rfl
  have x4 := E_0.out.cell 4 _ rfl
  have x5 := E_0.out.cell 5 _ rfl
  have x6 := E_0.out.cell 6 _ rfl
  have x7 := E_0.out.cell 7 _ rfl
  go_wp2_with fail
  refine TT.out.mono ?_; intro r w1 hr
  obtain ⟨rfl, hb⟩ := hr.none_
  have S := Lib.hid hb; clear hb hr
  have E_1 := Lib.hid (E_0.out.below S.out)
  have B_2 := Lib.hid (then_ B_0.out S.out)
  clear E_0 B_0
  clear S
  have E_3 := Lib.hid (E_1.out.below (new1 w1 (.cells #[.string ⟨#[]⟩, .string ⟨#[]⟩, .int .i64 0, .int .i64 0, .int .i64 0, .int .i64 0] 36)))
  have B_4 := Lib.hid (then_ B_2.out (new1 w1 (.cells #[.string ⟨#[]⟩, .string ⟨#[]⟩, .int .i64 0, .int .i64 0, .int .i64 0, .int .i64 0] 36)))
  clear E_1 B_2
  have Y_5 := Lib.hid (own_new w1 #[.string ⟨#[]⟩, .string ⟨#[]⟩, .int .i64 0, .int .i64 0, .int .i64 0, .int .i64 0] 36)
  clear x0 x1 x2 x3 x4 x5 x6 x7
  have x0 := E_3.out.cell 0 _ rfl
  have x1 := E_3.out.cell 1 _ rfl
  have x2 := E_3.out.cell 2 _ rfl
  have x3 := E_3.out.cell 3 _ rfl
  have x4 := E_3.out.cell 4 _ rfl
  have x5 := E_3.out.cell 5 _ rfl
  have x6 := E_3.out.cell 6 _ rfl
  have x7 := E_3.out.cell 7 _ rfl
  have y0 := Y_5.out.cell 0 _ rfl
  have y1 := Y_5.out.cell 1 _ rfl
  have y2 := Y_5.out.cell 2 _ rfl
  have y3 := Y_5.out.cell 3 _ rfl
  have y4 := Y_5.out.cell 4 _ rfl
  have y5 := Y_5.out.cell 5 _ rfl
  go_wp2_with fail
  refine (one_any e.kv _ OK.out.kv).mono ?_; rintro e w2 ⟨rfl, hb⟩
  rw [HO.out]
  have S_6 := Lib.hid hb; clear hb
  have E_7 := Lib.hid (E_3.out.below S_6.out)
  have Y_8 := Lib.hid (Y_5.out.below S_6.out)
  have B_9 := Lib.hid (then_ B_4.out S_6.out)
  clear E_3 Y_5 B_4
  clear S_6
  clear x0 x1 x2 x3 x4 x5 x6 x7
  clear y0 y1 y2 y3 y4 y5
  have x0 := E_7.out.cell 0 _ rfl
  have x1 := E_7.out.cell 1 _ rfl
  have x2 := E_7.out.cell 2 _ rfl
  have x3 := E_7.out.cell 3 _ rfl
  have x4 := E_7.out.cell 4 _ rfl
  have x5 := E_7.out.cell 5 _ rfl
  have x6 := E_7.out.cell 6 _ rfl
  have x7 := E_7.out.cell 7 _ rfl
  have y0 := Y_8.out.cell 0 _ rfl
  have y1 := Y_8.out.cell 1 _ rfl
  have y2 := Y_8.out.cell 2 _ rfl
  have y3 := Y_8.out.cell 3 _ rfl
  have y4 := Y_8.out.cell 4 _ rfl
  have y5 := Y_8.out.cell 5 _ rfl
  go_wp2
  go_ret
  exact ⟨retB HR.out.symm, B_9.out⟩
theorem right_n3 (A : Option Addr) (n c : Nat) (l : List KV) (e : Ev) (w : World) (h : KVs w A n c l) (ok : e.ok) (hn : n ≤ 800000) (hone : ∀ y ∈ l, oneB y = true) (hg : e.gone = false) (hf : findL l e.kv.key = none) (ho : oneB e.kv = true) (hm : e.kv.mod = e.rev) (hc : e.kv.cre ≠ e.rev) :
    Calls Try.prog 43 #[.slice A n c, e.agg] w fun r w' => r = .returned (.bool (rightB l e)) ∧ Below w.heap.size w w' := by
  have HR : Hid (rightB l e = false) := Lib.hid (right_new hg ho hm hf ⟨fun ⟨q1, q2⟩ => absurd q1 hc, fun q => (by cases q)⟩)
  have E_0 := Lib.hid (own_new w #[.int .i64 e.rev, .bool false, .string e.kv.key, .string e.kv.val, .int .i64 e.kv.cre, .int .i64 e.kv.mod, .int .i64 e.kv.ver, .int .i64 e.kv.lea] 43)
  have B_0 := Lib.hid (new1 w (.cells #[.int .i64 e.rev, .bool false, .string e.kv.key, .string e.kv.val, .int .i64 e.kv.cre, .int .i64 e.kv.mod, .int .i64 e.kv.ver, .int .i64 e.kv.lea] 43))
  have t := find_ref A n c l e.kv.key (w.alloc (.cells #[.int .i64 e.rev, .bool false, .string e.kv.key, .string e.kv.val, .int .i64 e.kv.cre, .int .i64 e.kv.mod, .int .i64 e.kv.ver, .int .i64 e.kv.lea] 43)) (h.keep (new1 w (.cells #[.int .i64 e.rev, .bool false, .string e.kv.key, .string e.kv.val, .int .i64 e.kv.cre, .int .i64 e.kv.mod, .int .i64 e.kv.ver, .int .i64 e.kv.lea] 43))) (by omega)
  rw [hf] at t
  have TT := Lib.hid t
  have OK := Lib.hid ok
  have HO := Lib.hid ho
  have OP := one_p ho
  obtain ⟨_, p1, p2, p3, p4, p5, _, _⟩ := OP
  clear ho
  have hm1 : (e.kv.mod != e.rev) = false := by simp [hm]
  have hc1 : (e.kv.cre == e.rev) = false := by simp [hc]
  clear hm hc
  clear t h hf ok hone
  go_enter Try.func43, Try.ntmps43
  have x0 := E_0.out.cell 0 _ rfl
  have x1 := E_0.out.cell 1 _ rfl
  have x2 := E_0.out.cell 2 _ rfl
  have x3 := E_0.out.cell 3 _ rfl
  have x4 := E_0.out.cell 4 _ rfl
  have x5 := E_0.out.cell 5 _ rfl
  have x6 := E_0.out.cell 6 _ rfl
  have x7 := E_0.out.cell 7 _ rfl
  go_wp2_with fail
  refine TT.out.mono ?_; intro r w1 hr
  obtain ⟨rfl, hb⟩ := hr.none_
  have S := Lib.hid hb; clear hb hr
  have E_1 := Lib.hid (E_0.out.below S.out)
  have B_2 := Lib.hid (then_ B_0.out S.out)
  clear E_0 B_0
  clear S
  have E_3 := Lib.hid (E_1.out.below (new1 w1 (.cells #[.string ⟨#[]⟩, .string ⟨#[]⟩, .int .i64 0, .int .i64 0, .int .i64 0, .int .i64 0] 36)))
  have B_4 := Lib.hid (then_ B_2.out (new1 w1 (.cells #[.string ⟨#[]⟩, .string ⟨#[]⟩, .int .i64 0, .int .i64 0, .int .i64 0, .int .i64 0] 36)))
  clear E_1 B_2
  have Y_5 := Lib.hid (own_new w1 #[.string ⟨#[]⟩, .string ⟨#[]⟩, .int .i64 0, .int .i64 0, .int .i64 0, .int .i64 0] 36)
  clear x0 x1 x2 x3 x4 x5 x6 x7
  have x0 := E_3.out.cell 0 _ rfl
  have x1 := E_3.out.cell 1 _ rfl
  have x2 := E_3.out.cell 2 _ rfl
  have x3 := E_3.out.cell 3 _ rfl
  have x4 := E_3.out.cell 4 _ rfl
  have x5 := E_3.out.cell 5 _ rfl
  have x6 := E_3.out.cell 6 _ rfl
  have x7 := E_3.out.cell 7 _ rfl
  have y0 := Y_5.out.cell 0 _ rfl
  have y1 := Y_5.out.cell 1 _ rfl
  have y2 := Y_5.out.cell 2 _ rfl
  have y3 := Y_5.out.cell 3 _ rfl
  have y4 := Y_5.out.cell 4 _ rfl
  have y5 := Y_5.out.cell 5 _ rfl
  go_wp2_with fail
  refine (one_any e.kv _ OK.out.kv).mono ?_; rintro e w2 ⟨rfl, hb⟩
  rw [HO.out]
  have S_6 := Lib.hid hb; clear hb
  have E_7 := Lib.hid (E_3.out.below S_6.out)
  have Y_8 := Lib.hid (Y_5.out.below S_6.out)
  have B_9 := Lib.hid (then_ B_4.out S_6.out)
  clear E_3 Y_5 B_4
  clear S_6
  clear x0 x1 x2 x3 x4 x5 x6 x7
  clear y0 y1 y2 y3 y4 y5
  have x0 := E_7.out.cell 0 _ rfl
  have x1 := E_7.out.cell 1 _ rfl
  have x2 := E_7.out.cell 2 _ rfl
  have x3 := E_7.out.cell 3 _ rfl
  have x4 := E_7.out.cell 4 _ rfl
  have x5 := E_7.out.cell 5 _ rfl
  have x6 := E_7.out.cell 6 _ rfl
  have x7 := E_7.out.cell 7 _ rfl
  have y0 := Y_8.out.cell 0 _ rfl
  have y1 := Y_8.out.cell 1 _ rfl
  have y2 := Y_8.out.cell 2 _ rfl
  have y3 := Y_8.out.cell 3 _ rfl
  have y4 := Y_8.out.cell 4 _ rfl
  have y5 := Y_8.out.cell 5 _ rfl
  go_wp2
  go_ret
  exact ⟨retB HR.out.symm, B_9.out⟩
theorem right_n4 (A : Option Addr) (n c : Nat) (l : List KV) (e : Ev) (w : World) (h : KVs w A n c l) (ok : e.ok) (hn : n ≤ 800000) (hone : ∀ y ∈ l, oneB y = true) (hg : e.gone = false) (hf : findL l e.kv.key = none) (ho : oneB e.kv = true) (hm : e.kv.mod = e.rev) (hc : e.kv.cre = e.rev) (hv : e.kv.ver ≠ 1) :
    Calls Try.prog 43 #[.slice A n c, e.agg] w fun r w' => r = .returned (.bool (rightB l e)) ∧ Below w.heap.size w w' := by
  have HR : Hid (rightB l e = false) := Lib.hid (right_new hg ho hm hf ⟨fun ⟨q1, q2⟩ => absurd q2 hv, fun q => (by cases q)⟩)
  have E_0 := Lib.hid (own_new w #[.int .i64 e.rev, .bool false, .string e.kv.key, .string e.kv.val, .int .i64 e.kv.cre, .int .i64 e.kv.mod, .int .i64 e.kv.ver, .int .i64 e.kv.lea] 43)
  have B_0 := Lib.hid (new1 w (.cells #[.int .i64 e.rev, .bool false, .string e.kv.key, .string e.kv.val, .int .i64 e.kv.cre, .int .i64 e.kv.mod, .int .i64 e.kv.ver, .int .i64 e.kv.lea] 43))
  have t := find_ref A n c l e.kv.key (w.alloc (.cells #[.int .i64 e.rev, .bool false, .string e.kv.key, .string e.kv.val, .int .i64 e.kv.cre, .int .i64 e.kv.mod, .int .i64 e.kv.ver, .int .i64 e.kv.lea] 43)) (h.keep (new1 w (.cells #[.int .i64 e.rev, .bool false, .string e.kv.key, .string e.kv.val, .int .i64 e.kv.cre, .int .i64 e.kv.mod, .int .i64 e.kv.ver, .int .i64 e.kv.lea] 43))) (by omega)
  rw [hf] at t
  have TT := Lib.hid t
  have OK := Lib.hid ok
  have HO := Lib.hid ho
  have OP := one_p ho
  obtain ⟨_, p1, p2, p3, p4, p5, _, _⟩ := OP
  clear ho
  have hm1 : (e.kv.mod != e.rev) = false := by simp [hm]
  have hc1 : (e.kv.cre == e.rev) = true := by simp [hc]
  have hv1 : (e.kv.ver == 1) = false := by simp [hv]
  clear hm hc hv
  clear t h hf ok hone
  go_enter Try.func43, Try.ntmps43
  have x0 := E_0.out.cell 0 _ rfl
  have x1 := E_0.out.cell 1 _ rfl
  have x2 := E_0.out.cell 2 _ rfl
  have x3 := E_0.out.cell 3 _ rfl
  have x4 := E_0.out.cell 4 _ rfl
  have x5 := E_0.out.cell 5 _ rfl
  have x6 := E_0.out.cell 6 _ rfl
  have x7 := E_0.out.cell 7 _ rfl
  go_wp2_with fail
  refine TT.out.mono ?_; intro r w1 hr
  obtain ⟨rfl, hb⟩ := hr.none_
  have S := Lib.hid hb; clear hb hr
  have E_1 := Lib.hid (E_0.out.below S.out)
  have B_2 := Lib.hid (then_ B_0.out S.out)
  clear E_0 B_0
  clear S
  have E_3 := Lib.hid (E_1.out.below (new1 w1 (.cells #[.string ⟨#[]⟩, .string ⟨#[]⟩, .int .i64 0, .int .i64 0, .int .i64 0, .int .i64 0] 36)))
  have B_4 := Lib.hid (then_ B_2.out (new1 w1 (.cells #[.string ⟨#[]⟩, .string ⟨#[]⟩, .int .i64 0, .int .i64 0, .int .i64 0, .int .i64 0] 36)))
  clear E_1 B_2
  have Y_5 := Lib.hid (own_new w1 #[.string ⟨#[]⟩, .string ⟨#[]⟩, .int .i64 0, .int .i64 0, .int .i64 0, .int .i64 0] 36)
  clear x0 x1 x2 x3 x4 x5 x6 x7
  have x0 := E_3.out.cell 0 _ rfl
  have x1 := E_3.out.cell 1 _ rfl
  have x2 := E_3.out.cell 2 _ rfl
  have x3 := E_3.out.cell 3 _ rfl
  have x4 := E_3.out.cell 4 _ rfl
  have x5 := E_3.out.cell 5 _ rfl
  have x6 := E_3.out.cell 6 _ rfl
  have x7 := E_3.out.cell 7 _ rfl
  have y0 := Y_5.out.cell 0 _ rfl
  have y1 := Y_5.out.cell 1 _ rfl
  have y2 := Y_5.out.cell 2 _ rfl
  have y3 := Y_5.out.cell 3 _ rfl
  have y4 := Y_5.out.cell 4 _ rfl
  have y5 := Y_5.out.cell 5 _ rfl
  go_wp2_with fail
  refine (one_any e.kv _ OK.out.kv).mono ?_; rintro e w2 ⟨rfl, hb⟩
  rw [HO.out]
  have S_6 := Lib.hid hb; clear hb
  have E_7 := Lib.hid (E_3.out.below S_6.out)
  have Y_8 := Lib.hid (Y_5.out.below S_6.out)
  have B_9 := Lib.hid (then_ B_4.out S_6.out)
  clear E_3 Y_5 B_4
  clear S_6
  clear x0 x1 x2 x3 x4 x5 x6 x7
  clear y0 y1 y2 y3 y4 y5
  have x0 := E_7.out.cell 0 _ rfl
  have x1 := E_7.out.cell 1 _ rfl
  have x2 := E_7.out.cell 2 _ rfl
  have x3 := E_7.out.cell 3 _ rfl
  have x4 := E_7.out.cell 4 _ rfl
  have x5 := E_7.out.cell 5 _ rfl
  have x6 := E_7.out.cell 6 _ rfl
  have x7 := E_7.out.cell 7 _ rfl
  have y0 := Y_8.out.cell 0 _ rfl
  have y1 := Y_8.out.cell 1 _ rfl
  have y2 := Y_8.out.cell 2 _ rfl
  have y3 := Y_8.out.cell 3 _ rfl
  have y4 := Y_8.out.cell 4 _ rfl
  have y5 := Y_8.out.cell 5 _ rfl
  go_wp2
  go_ret
  exact ⟨retB HR.out.symm, B_9.out⟩
theorem right_n5 (A : Option Addr) (n c : Nat) (l : List KV) (e : Ev) (w : World) (h : KVs w A n c l) (ok : e.ok) (hn : n ≤ 800000) (hone : ∀ y ∈ l, oneB y = true) (hg : e.gone = false) (hf : findL l e.kv.key = none) (ho : oneB e.kv = true) (hm : e.kv.mod = e.rev) (hc : e.kv.cre = e.rev) (hv : e.kv.ver = 1) :
    Calls Try.prog 43 #[.slice A n c, e.agg] w fun r w' => r = .returned (.bool (rightB l e)) ∧ Below w.heap.size w w' := by
  have HR : Hid (rightB l e = true) := Lib.hid (right_new hg ho hm hf ⟨fun ⟨q1, q2⟩ => rfl, fun q => ⟨hc, hv⟩⟩)
  have E_0 := Lib.hid (own_new w #[.int .i64 e.rev, .bool false, .string e.kv.key, .string e.kv.val, .int .i64 e.kv.cre, .int .i64 e.kv.mod, .int .i64 e.kv.ver, .int .i64 e.kv.lea] 43)
  have B_0 := Lib.hid (new1 w (.cells #[.int .i64 e.rev, .bool false, .string e.kv.key, .string e.kv.val, .int .i64 e.kv.cre, .int .i64 e.kv.mod, .int .i64 e.kv.ver, .int .i64 e.kv.lea] 43))
  have t := find_ref A n c l e.kv.key (w.alloc (.cells #[.int .i64 e.rev, .bool false, .string e.kv.key, .string e.kv.val, .int .i64 e.kv.cre, .int .i64 e.kv.mod, .int .i64 e.kv.ver, .int .i64 e.kv.lea] 43)) (h.keep (new1 w (.cells #[.int .i64 e.rev, .bool false, .string e.kv.key, .string e.kv.val, .int .i64 e.kv.cre, .int .i64 e.kv.mod, .int .i64 e.kv.ver, .int .i64 e.kv.lea] 43))) (by omega)
  rw [hf] at t
  have TT := Lib.hid t
  have OK := Lib.hid ok
  have HO := Lib.hid ho
  have OP := one_p ho
  obtain ⟨_, p1, p2, p3, p4, p5, _, _⟩ := OP
  clear ho
  have hm1 : (e.kv.mod != e.rev) = false := by simp [hm]
  have hc1 : (e.kv.cre == e.rev) = true := by simp [hc]
  have hv1 : (e.kv.ver == 1) = true := by simp [hv]
  clear hm hc hv
  clear t h hf ok hone
  go_enter Try.func43, Try.ntmps43
  have x0 := E_0.out.cell 0 _ rfl
  have x1 := E_0.out.cell 1 _ rfl
  have x2 := E_0.out.cell 2 _ rfl
  have x3 := E_0.out.cell 3 _ rfl
  have x4 := E_0.out.cell 4 _ rfl
  have x5 := E_0.out.cell 5 _ rfl
  have x6 := E_0.out.cell 6 _ rfl
  have x7 := E_0.out.cell 7 _ rfl
  go_wp2_with fail
  refine TT.out.mono ?_; intro r w1 hr
  obtain ⟨rfl, hb⟩ := hr.none_
  have S := Lib.hid hb; clear hb hr
  have E_1 := Lib.hid (E_0.out.below S.out)
  have B_2 := Lib.hid (then_ B_0.out S.out)
  clear E_0 B_0
  clear S
  have E_3 := Lib.hid (E_1.out.below (new1 w1 (.cells #[.string ⟨#[]⟩, .string ⟨#[]⟩, .int .i64 0, .int .i64 0, .int .i64 0, .int .i64 0] 36)))
  have B_4 := Lib.hid (then_ B_2.out (new1 w1 (.cells #[.string ⟨#[]⟩, .string ⟨#[]⟩, .int .i64 0, .int .i64 0, .int .i64 0, .int .i64 0] 36)))
  clear E_1 B_2
  have Y_5 := Lib.hid (own_new w1 #[.string ⟨#[]⟩, .string ⟨#[]⟩, .int .i64 0, .int .i64 0, .int .i64 0, .int .i64 0] 36)
  clear x0 x1 x2 x3 x4 x5 x6 x7
  have x0 := E_3.out.cell 0 _ rfl
  have x1 := E_3.out.cell 1 _ rfl
  have x2 := E_3.out.cell 2 _ rfl
  have x3 := E_3.out.cell 3 _ rfl
  have x4 := E_3.out.cell 4 _ rfl
  have x5 := E_3.out.cell 5 _ rfl
  have x6 := E_3.out.cell 6 _ rfl
  have x7 := E_3.out.cell 7 _ rfl
  have y0 := Y_5.out.cell 0 _ rfl
  have y1 := Y_5.out.cell 1 _ rfl
  have y2 := Y_5.out.cell 2 _ rfl
  have y3 := Y_5.out.cell 3 _ rfl
  have y4 := Y_5.out.cell 4 _ rfl
  have y5 := Y_5.out.cell 5 _ rfl
  go_wp2_with fail
  refine (one_any e.kv _ OK.out.kv).mono ?_; rintro e w2 ⟨rfl, hb⟩
  rw [HO.out]
  have S_6 := Lib.hid hb; clear hb
  have E_7 := Lib.hid (E_3.out.below S_6.out)
  have Y_8 := Lib.hid (Y_5.out.below S_6.out)
  have B_9 := Lib.hid (then_ B_4.out S_6.out)
  clear E_3 Y_5 B_4
  clear S_6
  clear x0 x1 x2 x3 x4 x5 x6 x7
  clear y0 y1 y2 y3 y4 y5
  have x0 := E_7.out.cell 0 _ rfl
  have x1 := E_7.out.cell 1 _ rfl
  have x2 := E_7.out.cell 2 _ rfl
  have x3 := E_7.out.cell 3 _ rfl
  have x4 := E_7.out.cell 4 _ rfl
  have x5 := E_7.out.cell 5 _ rfl
  have x6 := E_7.out.cell 6 _ rfl
  have x7 := E_7.out.cell 7 _ rfl
  have y0 := Y_8.out.cell 0 _ rfl
  have y1 := Y_8.out.cell 1 _ rfl
  have y2 := Y_8.out.cell 2 _ rfl
  have y3 := Y_8.out.cell 3 _ rfl
  have y4 := Y_8.out.cell 4 _ rfl
  have y5 := Y_8.out.cell 5 _ rfl
  go_wp2
  go_ret
  exact ⟨retB HR.out.symm, B_9.out⟩
theorem right_s1 (A : Option Addr) (n c : Nat) (l : List KV) (e : Ev) (w : World) (h : KVs w A n c l) (ok : e.ok) (hn : n ≤ 800000) (hone : ∀ y ∈ l, oneB y = true) (hg : e.gone = false) (y : KV) (hf : findL l e.kv.key = some y) (ho : oneB e.kv = false) :
    Calls Try.prog 43 #[.slice A n c, e.agg] w fun r w' => r = .returned (.bool (rightB l e)) ∧ Below w.heap.size w w' := by
  have HR : Hid (rightB l e = false) := Lib.hid (right_bad hg (.inl ho))
  have E_0 := Lib.hid (own_new w #[.int .i64 e.rev, .bool false, .string e.kv.key, .string e.kv.val, .int .i64 e.kv.cre, .int .i64 e.kv.mod, .int .i64 e.kv.ver, .int .i64 e.kv.lea] 43)
  have B_0 := Lib.hid (new1 w (.cells #[.int .i64 e.rev, .bool false, .string e.kv.key, .string e.kv.val, .int .i64 e.kv.cre, .int .i64 e.kv.mod, .int .i64 e.kv.ver, .int .i64 e.kv.lea] 43))
  have t := find_ref A n c l e.kv.key (w.alloc (.cells #[.int .i64 e.rev, .bool false, .string e.kv.key, .string e.kv.val, .int .i64 e.kv.cre, .int .i64 e.kv.mod, .int .i64 e.kv.ver, .int .i64 e.kv.lea] 43)) (h.keep (new1 w (.cells #[.int .i64 e.rev, .bool false, .string e.kv.key, .string e.kv.val, .int .i64 e.kv.cre, .int .i64 e.kv.mod, .int .i64 e.kv.ver, .int .i64 e.kv.lea] 43))) (by omega)
  rw [hf] at t
  have TT := Lib.hid t
  have OK := Lib.hid ok
  have HO := Lib.hid ho; clear ho
  clear t h hf ok hone
  go_enter Try.func43, Try.ntmps43
  have x0 := E_0.out.cell 0 _ rfl
  have x1 := E_0.out.cell 1 _ rfl
  have x2 := E_0.out.cell 2 _ rfl
  have x3 := E_0.out.cell 3 _ rfl
  have x4 := E_0.out.cell 4 _ rfl
  have x5 := E_0.out.cell 5 _ rfl
  have x6 := E_0.out.cell 6 _ rfl
  have x7 := E_0.out.cell 7 _ rfl
  go_wp2_with fail
  refine TT.out.mono ?_; intro r w1 hr
  obtain ⟨rfl, hb⟩ := hr.some_
  have S := Lib.hid hb; clear hb hr
  have E_1 := Lib.hid (E_0.out.below S.out)
  have B_2 := Lib.hid (then_ B_0.out S.out)
  clear E_0 B_0
  clear S
  have E_3 := Lib.hid (E_1.out.below (new1 w1 (.cells #[.string y.key, .string y.val, .int .i64 y.cre, .int .i64 y.mod, .int .i64 y.ver, .int .i64 y.lea] 36)))
  have B_4 := Lib.hid (then_ B_2.out (new1 w1 (.cells #[.string y.key, .string y.val, .int .i64 y.cre, .int .i64 y.mod, .int .i64 y.ver, .int .i64 y.lea] 36)))
  clear E_1 B_2
  have Y_5 := Lib.hid (own_new w1 #[.string y.key, .string y.val, .int .i64 y.cre, .int .i64 y.mod, .int .i64 y.ver, .int .i64 y.lea] 36)
  clear x0 x1 x2 x3 x4 x5 x6 x7
  have x0 := E_3.out.cell 0 _ rfl
  have x1 := E_3.out.cell 1 _ rfl
  have x2 := E_3.out.cell 2 _ rfl
  have x3 := E_3.out.cell 3 _ rfl
  have x4 := E_3.out.cell 4 _ rfl
  have x5 := E_3.out.cell 5 _ rfl
  have x6 := E_3.out.cell 6 _ rfl
  have x7 := E_3.out.cell 7 _ rfl
  have y0 := Y_5.out.cell 0 _ rfl
  have y1 := Y_5.out.cell 1 _ rfl
  have y2 := Y_5.out.cell 2 _ rfl
  have y3 := Y_5.out.cell 3 _ rfl
  have y4 := Y_5.out.cell 4 _ rfl
  have y5 := Y_5.out.cell 5 _ rfl
  go_wp2_with fail
  refine (one_any e.kv _ OK.out.kv).mono ?_; rintro e w2 ⟨rfl, hb⟩
  rw [HO.out]
  have S_6 := Lib.hid hb; clear hb
  have E_7 := Lib.hid (E_3.out.below S_6.out)
  have Y_8 := Lib.hid (Y_5.out.below S_6.out)
  have B_9 := Lib.hid (then_ B_4.out S_6.out)
  clear E_3 Y_5 B_4
  clear S_6
  clear x0 x1 x2 x3 x4 x5 x6 x7
  clear y0 y1 y2 y3 y4 y5
  have x0 := E_7.out.cell 0 _ rfl
  have x1 := E_7.out.cell 1 _ rfl
  have x2 := E_7.out.cell 2 _ rfl
  have x3 := E_7.out.cell 3 _ rfl
  have x4 := E_7.out.cell 4 _ rfl
  have x5 := E_7.out.cell 5 _ rfl
  have x6 := E_7.out.cell 6 _ rfl
  have x7 := E_7.out.cell 7 _ rfl
  have y0 := Y_8.out.cell 0 _ rfl
  have y1 := Y_8.out.cell 1 _ rfl
  have y2 := Y_8.out.cell 2 _ rfl
  have y3 := Y_8.out.cell 3 _ rfl
  have y4 := Y_8.out.cell 4 _ rfl
  have y5 := Y_8.out.cell 5 _ rfl
  go_wp2
  go_ret
  exact ⟨retB HR.out.symm, B_9.out⟩
theorem right_s2 (A : Option Addr) (n c : Nat) (l : List KV) (e : Ev) (w : World) (h : KVs w A n c l) (ok : e.ok) (hn : n ≤ 800000) (hone : ∀ y ∈ l, oneB y = true) (hg : e.gone = false) (y : KV) (hf : findL l e.kv.key = some y) (ho : oneB e.kv = true) (hm : e.kv.mod ≠ e.rev) :
    Calls Try.prog 43 #[.slice A n c, e.agg] w fun r w' => r = .returned (.bool (rightB l e)) ∧ Below w.heap.size w w' := by
  have HR : Hid (rightB l e = false) := Lib.hid (right_bad hg (.inr hm))
  have E_0 := Lib.hid (own_new w #[.int .i64 e.rev, .bool false, .string e.kv.key, .string e.kv.val, .int .i64 e.kv.cre, .int .i64 e.kv.mod, .int .i64 e.kv.ver, .int .i64 e.kv.lea] 43)
  have B_0 := Lib.hid (new1 w (.cells #[.int .i64 e.rev, .bool false, .string e.kv.key, .string e.kv.val, .int .i64 e.kv.cre, .int .i64 e.kv.mod, .int .i64 e.kv.ver, .int .i64 e.kv.lea] 43))
  have t := find_ref A n c l e.kv.key (w.alloc (.cells #[.int .i64 e.rev, .bool false, .string e.kv.key, .string e.kv.val, .int .i64 e.kv.cre, .int .i64 e.kv.mod, .int .i64 e.kv.ver, .int .i64 e.kv.lea] 43)) (h.keep (new1 w (.cells #[.int .i64 e.rev, .bool false, .string e.kv.key, .string e.kv.val, .int .i64 e.kv.cre, .int .i64 e.kv.mod, .int .i64 e.kv.ver, .int .i64 e.kv.lea] 43))) (by omega)
  rw [hf] at t
  have TT := Lib.hid t
  have OK := Lib.hid ok
  have HO := Lib.hid ho; clear ho
  have hm1 : (e.kv.mod != e.rev) = true := by simp [hm]
  clear hm
  clear t h hf ok hone
  go_enter Try.func43, Try.ntmps43
  have x0 := E_0.out.cell 0 _ rfl
  have x1 := E_0.out.cell 1 _ rfl
  have x2 := E_0.out.cell 2 _ rfl
  have x3 := E_0.out.cell 3 _ rfl
  have x4 := E_0.out.cell 4 _ rfl
  have x5 := E_0.out.cell 5 _ rfl
  have x6 := E_0.out.cell 6 _ rfl
  have x7 := E_0.out.cell 7 _ rfl
  go_wp2_with fail
  refine TT.out.mono ?_; intro r w1 hr
  obtain ⟨rfl, hb⟩ := hr.some_
  have S := Lib.hid hb; clear hb hr
  have E_1 := Lib.hid (E_0.out.below S.out)
  have B_2 := Lib.hid (then_ B_0.out S.out)
  clear E_0 B_0
  clear S
  have E_3 := Lib.hid (E_1.out.below (new1 w1 (.cells #[.string y.key, .string y.val, .int .i64 y.cre, .int .i64 y.mod, .int .i64 y.ver, .int .i64 y.lea] 36)))
  have B_4 := Lib.hid (then_ B_2.out (new1 w1 (.cells #[.string y.key, .string y.val, .int .i64 y.cre, .int .i64 y.mod, .int .i64 y.ver, .int .i64 y.lea] 36)))
  clear E_1 B_2
  have Y_5 := Lib.hid (own_new w1 #[.string y.key, .string y.val, .int .i64 y.cre, .int .i64 y.mod, .int .i64 y.ver, .int .i64 y.lea] 36)
  clear x0 x1 x2 x3 x4 x5 x6 x7
  have x0 := E_3.out.cell 0 _ rfl
  have x1 := E_3.out.cell 1 _ rfl
  have x2 := E_3.out.cell 2 _ rfl
  have x3 := E_3.out.cell 3 _ rfl
  have x4 := E_3.out.cell 4 _ rfl
  have x5 := E_3.out.cell 5 _ rfl
  have x6 := E_3.out.cell 6 _ rfl
  have x7 := E_3.out.cell 7 _ rfl
  have y0 := Y_5.out.cell 0 _ rfl
  have y1 := Y_5.out.cell 1 _ rfl
  have y2 := Y_5.out.cell 2 _ rfl
  have y3 := Y_5.out.cell 3 _ rfl
  have y4 := Y_5.out.cell 4 _ rfl
  have y5 := Y_5.out.cell 5 _ rfl
  go_wp2_with fail
  refine (one_any e.kv _ OK.out.kv).mono ?_; rintro e w2 ⟨rfl, hb⟩
  rw [HO.out]
  have S_6 := Lib.hid hb; clear hb
  have E_7 := Lib.hid (E_3.out.below S_6.out)
  have Y_8 := Lib.hid (Y_5.out.below S_6.out)
  have B_9 := Lib.hid (then_ B_4.out S_6.out)
  clear E_3 Y_5 B_4
  clear S_6
  clear x0 x1 x2 x3 x4 x5 x6 x7
  clear y0 y1 y2 y3 y4 y5
  have x0 := E_7.out.cell 0 _ rfl
  have x1 := E_7.out.cell 1 _ rfl
  have x2 := E_7.out.cell 2 _ rfl
  have x3 := E_7.out.cell 3 _ rfl
  have x4 := E_7.out.cell 4 _ rfl
  have x5 := E_7.out.cell 5 _ rfl
  have x6 := E_7.out.cell 6 _ rfl
  have x7 := E_7.out.cell 7 _ rfl
  have y0 := Y_8.out.cell 0 _ rfl
  have y1 := Y_8.out.cell 1 _ rfl
  have y2 := Y_8.out.cell 2 _ rfl
  have y3 := Y_8.out.cell 3 _ rfl
  have y4 := Y_8.out.cell 4 _ rfl
  have y5 := Y_8.out.cell 5 _ rfl
  go_wp2
  go_ret
  exact ⟨retB HR.out.symm, B_9.out⟩
theorem right_s3 (A : Option Addr) (n c : Nat) (l : List KV) (e : Ev) (w : World) (h : KVs w A n c l) (ok : e.ok) (hn : n ≤ 800000) (hone : ∀ y ∈ l, oneB y = true) (hg : e.gone = false) (y : KV) (hf : findL l e.kv.key = some y) (ho : oneB e.kv = true) (hm : e.kv.mod = e.rev) (hc : e.kv.cre ≠ y.cre) :
    Calls Try.prog 43 #[.slice A n c, e.agg] w fun r w' => r = .returned (.bool (rightB l e)) ∧ Below w.heap.size w w' := by
  have HR : Hid (rightB l e = false) := Lib.hid (right_old hg ho hm hf ⟨fun ⟨q1, q2⟩ => absurd q1 hc, fun q => (by cases q)⟩)
  have E_0 := Lib.hid (own_new w #[.int .i64 e.rev, .bool false, .string e.kv.key, .string e.kv.val, .int .i64 e.kv.cre, .int .i64 e.kv.mod, .int .i64 e.kv.ver, .int .i64 e.kv.lea] 43)
  have B_0 := Lib.hid (new1 w (.cells #[.int .i64 e.rev, .bool false, .string e.kv.key, .string e.kv.val, .int .i64 e.kv.cre, .int .i64 e.kv.mod, .int .i64 e.kv.ver, .int .i64 e.kv.lea] 43))
  have t := find_ref A n c l e.kv.key (w.alloc (.cells #[.int .i64 e.rev, .bool false, .string e.kv.key, .string e.kv.val, .int .i64 e.kv.cre, .int .i64 e.kv.mod, .int .i64 e.kv.ver, .int .i64 e.kv.lea] 43)) (h.keep (new1 w (.cells #[.int .i64 e.rev, .bool false, .string e.kv.key, .string e.kv.val, .int .i64 e.kv.cre, .int .i64 e.kv.mod, .int .i64 e.kv.ver, .int .i64 e.kv.lea] 43))) (by omega)
  rw [hf] at t
  have TT := Lib.hid t
  have OK := Lib.hid ok
  have HO := Lib.hid ho
  have OP := one_p ho
  obtain ⟨_, p1, p2, p3, p4, p5, _, _⟩ := OP
  clear ho
  have hm1 : (e.kv.mod != e.rev) = false := by simp [hm]
  have hc1 : (e.kv.cre == y.cre) = false := by simp [hc]
  clear hm hc
  clear t h hf ok hone
  go_enter Try.func43, Try.ntmps43
  have x0 := E_0.out.cell 0 _ rfl
  have x1 := E_0.out.cell 1 _ rfl
  have x2 := E_0.out.cell 2 _ rfl
  have x3 := E_0.out.cell 3 _ rfl
  have x4 := E_0.out.cell 4 _ rfl
  have x5 := E_0.out.cell 5 _ rfl
  have x6 := E_0.out.cell 6 _ rfl
  have x7 := E_0.out.cell 7 _ rfl
  go_wp2_with fail
  refine TT.out.mono ?_; intro r w1 hr
  obtain ⟨rfl, hb⟩ := hr.some_
  have S := Lib.hid hb; clear hb hr
  have E_1 := Lib.hid (E_0.out.below S.out)
  have B_2 := Lib.hid (then_ B_0.out S.out)
  clear E_0 B_0
  clear S
  have E_3 := Lib.hid (E_1.out.below (new1 w1 (.cells #[.string y.key, .string y.val, .int .i64 y.cre, .int .i64 y.mod, .int .i64 y.ver, .int .i64 y.lea] 36)))
  have B_4 := Lib.hid (then_ B_2.out (new1 w1 (.cells #[.string y.key, .string y.val, .int .i64 y.cre, .int .i64 y.mod, .int .i64 y.ver, .int .i64 y.lea] 36)))
  clear E_1 B_2
  have Y_5 := Lib.hid (own_new w1 #[.string y.key, .string y.val, .int .i64 y.cre, .int .i64 y.mod, .int .i64 y.ver, .int .i64 y.lea] 36)
  clear x0 x1 x2 x3 x4 x5 x6 x7
  have x0 := E_3.out.cell 0 _ rfl
  have x1 := E_3.out.cell 1 _ rfl
  have x2 := E_3.out.cell 2 _ rfl
  have x3 := E_3.out.cell 3 _ rfl
  have x4 := E_3.out.cell 4 _ rfl
  have x5 := E_3.out.cell 5 _ rfl
  have x6 := E_3.out.cell 6 _ rfl
  have x7 := E_3.out.cell 7 _ rfl
  have y0 := Y_5.out.cell 0 _ rfl
  have y1 := Y_5.out.cell 1 _ rfl
  have y2 := Y_5.out.cell 2 _ rfl
  have y3 := Y_5.out.cell 3 _ rfl
  have y4 := Y_5.out.cell 4 _ rfl
  have y5 := Y_5.out.cell 5 _ rfl
  go_wp2_with fail
  refine (one_any e.kv _ OK.out.kv).mono ?_; rintro e w2 ⟨rfl, hb⟩
  rw [HO.out]
  have S_6 := Lib.hid hb; clear hb
  have E_7 := Lib.hid (E_3.out.below S_6.out)
  have Y_8 := Lib.hid (Y_5.out.below S_6.out)
  have B_9 := Lib.hid (then_ B_4.out S_6.out)
  clear E_3 Y_5 B_4
  clear S_6
  clear x0 x1 x2 x3 x4 x5 x6 x7
  clear y0 y1 y2 y3 y4 y5
  have x0 := E_7.out.cell 0 _ rfl
  have x1 := E_7.out.cell 1 _ rfl
  have x2 := E_7.out.cell 2 _ rfl
  have x3 := E_7.out.cell 3 _ rfl
  have x4 := E_7.out.cell 4 _ rfl
  have x5 := E_7.out.cell 5 _ rfl
  have x6 := E_7.out.cell 6 _ rfl
  have x7 := E_7.out.cell 7 _ rfl
  have y0 := Y_8.out.cell 0 _ rfl
  have y1 := Y_8.out.cell 1 _ rfl
  have y2 := Y_8.out.cell 2 _ rfl
  have y3 := Y_8.out.cell 3 _ rfl
  have y4 := Y_8.out.cell 4 _ rfl
  have y5 := Y_8.out.cell 5 _ rfl
  go_wp2
  go_ret
  exact ⟨retB HR.out.symm, B_9.out⟩
theorem right_s4 (A : Option Addr) (n c : Nat) (l : List KV) (e : Ev) (w : World) (h : KVs w A n c l) (ok : e.ok) (hn : n ≤ 800000) (hone : ∀ y ∈ l, oneB y = true) (hg : e.gone = false) (y : KV) (hf : findL l e.kv.key = some y) (ho : oneB e.kv = true) (hm : e.kv.mod = e.rev) (hc : e.kv.cre = y.cre) (hv : e.kv.ver ≠ y.ver + 1) :
    Calls Try.prog 43 #[.slice A n c, e.agg] w fun r w' => r = .returned (.bool (rightB l e)) ∧ Below w.heap.size w w' := by
  have HR : Hid (rightB l e = false) := Lib.hid (right_old hg ho hm hf ⟨fun ⟨q1, q2⟩ => absurd q2 hv, fun q => (by cases q)⟩)
  have E_0 := Lib.hid (own_new w #[.int .i64 e.rev, .bool false, .string e.kv.key, .string e.kv.val, .int .i64 e.kv.cre, .int .i64 e.kv.mod, .int .i64 e.kv.ver, .int .i64 e.kv.lea] 43)
  have B_0 := Lib.hid (new1 w (.cells #[.int .i64 e.rev, .bool false, .string e.kv.key, .string e.kv.val, .int .i64 e.kv.cre, .int .i64 e.kv.mod, .int .i64 e.kv.ver, .int .i64 e.kv.lea] 43))
  have t := find_ref A n c l e.kv.key (w.alloc (.cells #[.int .i64 e.rev, .bool false, .string e.kv.key, .string e.kv.val, .int .i64 e.kv.cre, .int .i64 e.kv.mod, .int .i64 e.kv.ver, .int .i64 e.kv.lea] 43)) (h.keep (new1 w (.cells #[.int .i64 e.rev, .bool false, .string e.kv.key, .string e.kv.val, .int .i64 e.kv.cre, .int .i64 e.kv.mod, .int .i64 e.kv.ver, .int .i64 e.kv.lea] 43))) (by omega)
  rw [hf] at t
  have TT := Lib.hid t
  have OK := Lib.hid ok
  have HO := Lib.hid ho
  have OP := one_p ho
  obtain ⟨_, p1, p2, p3, p4, p5, _, _⟩ := OP
  clear ho
  have hm1 : (e.kv.mod != e.rev) = false := by simp [hm]
  have hc1 : (e.kv.cre == y.cre) = true := by simp [hc]
  have hv1 : (e.kv.ver - 1 == y.ver) = false := by simp; omega
  clear hm hc hv
  clear t h hf ok hone
  go_enter Try.func43, Try.ntmps43
  have x0 := E_0.out.cell 0 _ rfl
  have x1 := E_0.out.cell 1 _ rfl
  have x2 := E_0.out.cell 2 _ rfl
  have x3 := E_0.out.cell 3 _ rfl
  have x4 := E_0.out.cell 4 _ rfl
  have x5 := E_0.out.cell 5 _ rfl
  have x6 := E_0.out.cell 6 _ rfl
  have x7 := E_0.out.cell 7 _ rfl
  go_wp2_with fail
  refine TT.out.mono ?_; intro r w1 hr
  obtain ⟨rfl, hb⟩ := hr.some_
  have S := Lib.hid hb; clear hb hr
  have E_1 := Lib.hid (E_0.out.below S.out)
  have B_2 := Lib.hid (then_ B_0.out S.out)
  clear E_0 B_0
  clear S
  have E_3 := Lib.hid (E_1.out.below (new1 w1 (.cells #[.string y.key, .string y.val, .int .i64 y.cre, .int .i64 y.mod, .int .i64 y.ver, .int .i64 y.lea] 36)))
  have B_4 := Lib.hid (then_ B_2.out (new1 w1 (.cells #[.string y.key, .string y.val, .int .i64 y.cre, .int .i64 y.mod, .int .i64 y.ver, .int .i64 y.lea] 36)))
  clear E_1 B_2
  have Y_5 := Lib.hid (own_new w1 #[.string y.key, .string y.val, .int .i64 y.cre, .int .i64 y.mod, .int .i64 y.ver, .int .i64 y.lea] 36)
  clear x0 x1 x2 x3 x4 x5 x6 x7
  have x0 := E_3.out.cell 0 _ rfl
  have x1 := E_3.out.cell 1 _ rfl
  have x2 := E_3.out.cell 2 _ rfl
  have x3 := E_3.out.cell 3 _ rfl
  have x4 := E_3.out.cell 4 _ rfl
  have x5 := E_3.out.cell 5 _ rfl
  have x6 := E_3.out.cell 6 _ rfl
  have x7 := E_3.out.cell 7 _ rfl
  have y0 := Y_5.out.cell 0 _ rfl
  have y1 := Y_5.out.cell 1 _ rfl
  have y2 := Y_5.out.cell 2 _ rfl
  have y3 := Y_5.out.cell 3 _ rfl
  have y4 := Y_5.out.cell 4 _ rfl
  have y5 := Y_5.out.cell 5 _ rfl
  go_wp2_with fail
  refine (one_any e.kv _ OK.out.kv).mono ?_; rintro e w2 ⟨rfl, hb⟩
  rw [HO.out]
  have S_6 := Lib.hid hb; clear hb
  have E_7 := Lib.hid (E_3.out.below S_6.out)
  have Y_8 := Lib.hid (Y_5.out.below S_6.out)
  have B_9 := Lib.hid (then_ B_4.out S_6.out)
  clear E_3 Y_5 B_4
  clear S_6
  clear x0 x1 x2 x3 x4 x5 x6 x7
  clear y0 y1 y2 y3 y4 y5
  have x0 := E_7.out.cell 0 _ rfl
  have x1 := E_7.out.cell 1 _ rfl
  have x2 := E_7.out.cell 2 _ rfl
  have x3 := E_7.out.cell 3 _ rfl
  have x4 := E_7.out.cell 4 _ rfl
  have x5 := E_7.out.cell 5 _ rfl
  have x6 := E_7.out.cell 6 _ rfl
  have x7 := E_7.out.cell 7 _ rfl
  have y0 := Y_8.out.cell 0 _ rfl
  have y1 := Y_8.out.cell 1 _ rfl
  have y2 := Y_8.out.cell 2 _ rfl
  have y3 := Y_8.out.cell 3 _ rfl
  have y4 := Y_8.out.cell 4 _ rfl
  have y5 := Y_8.out.cell 5 _ rfl
  go_wp2
  go_ret
  exact ⟨retB HR.out.symm, B_9.out⟩
theorem right_s5 (A : Option Addr) (n c : Nat) (l : List KV) (e : Ev) (w : World) (h : KVs w A n c l) (ok : e.ok) (hn : n ≤ 800000) (hone : ∀ y ∈ l, oneB y = true) (hg : e.gone = false) (y : KV) (hf : findL l e.kv.key = some y) (ho : oneB e.kv = true) (hm : e.kv.mod = e.rev) (hc : e.kv.cre = y.cre) (hv : e.kv.ver = y.ver + 1) :
    Calls Try.prog 43 #[.slice A n c, e.agg] w fun r w' => r = .returned (.bool (rightB l e)) ∧ Below w.heap.size w w' := by
  have HR : Hid (rightB l e = true) := Lib.hid (right_old hg ho hm hf ⟨fun ⟨q1, q2⟩ => rfl, fun q => ⟨hc, hv⟩⟩)
  have E_0 := Lib.hid (own_new w #[.int .i64 e.rev, .bool false, .string e.kv.key, .string e.kv.val, .int .i64 e.kv.cre, .int .i64 e.kv.mod, .int .i64 e.kv.ver, .int .i64 e.kv.lea] 43)
  have B_0 := Lib.hid (new1 w (.cells #[.int .i64 e.rev, .bool false, .string e.kv.key, .string e.kv.val, .int .i64 e.kv.cre, .int .i64 e.kv.mod, .int .i64 e.kv.ver, .int .i64 e.kv.lea] 43))
  have t := find_ref A n c l e.kv.key (w.alloc (.cells #[.int .i64 e.rev, .bool false, .string e.kv.key, .string e.kv.val, .int .i64 e.kv.cre, .int .i64 e.kv.mod, .int .i64 e.kv.ver, .int .i64 e.kv.lea] 43)) (h.keep (new1 w (.cells #[.int .i64 e.rev, .bool false, .string e.kv.key, .string e.kv.val, .int .i64 e.kv.cre, .int .i64 e.kv.mod, .int .i64 e.kv.ver, .int .i64 e.kv.lea] 43))) (by omega)
  rw [hf] at t
  have TT := Lib.hid t
  have OK := Lib.hid ok
  have HO := Lib.hid ho
  have OP := one_p ho
  obtain ⟨_, p1, p2, p3, p4, p5, _, _⟩ := OP
  clear ho
  have hm1 : (e.kv.mod != e.rev) = false := by simp [hm]
  have hc1 : (e.kv.cre == y.cre) = true := by simp [hc]
  have hv1 : (e.kv.ver - 1 == y.ver) = true := by simp; omega
  clear hm hc hv
  clear t h hf ok hone
  go_enter Try.func43, Try.ntmps43
  have x0 := E_0.out.cell 0 _ rfl
  have x1 := E_0.out.cell 1 _ rfl
  have x2 := E_0.out.cell 2 _ rfl
  have x3 := E_0.out.cell 3 _ rfl
  have x4 := E_0.out.cell 4 _ rfl
  have x5 := E_0.out.cell 5 _ rfl
  have x6 := E_0.out.cell 6 _ rfl
  have x7 := E_0.out.cell 7 _ rfl
  go_wp2_with fail
  refine TT.out.mono ?_; intro r w1 hr
  obtain ⟨rfl, hb⟩ := hr.some_
  have S := Lib.hid hb; clear hb hr
  have E_1 := Lib.hid (E_0.out.below S.out)
  have B_2 := Lib.hid (then_ B_0.out S.out)
  clear E_0 B_0
  clear S
  have E_3 := Lib.hid (E_1.out.below (new1 w1 (.cells #[.string y.key, .string y.val, .int .i64 y.cre, .int .i64 y.mod, .int .i64 y.ver, .int .i64 y.lea] 36)))
  have B_4 := Lib.hid (then_ B_2.out (new1 w1 (.cells #[.string y.key, .string y.val, .int .i64 y.cre, .int .i64 y.mod, .int .i64 y.ver, .int .i64 y.lea] 36)))
  clear E_1 B_2
  have Y_5 := Lib.hid (own_new w1 #[.string y.key, .string y.val, .int .i64 y.cre, .int .i64 y.mod, .int .i64 y.ver, .int .i64 y.lea] 36)
  clear x0 x1 x2 x3 x4 x5 x6 x7
  have x0 := E_3.out.cell 0 _ rfl
  have x1 := E_3.out.cell 1 _ rfl
  have x2 := E_3.out.cell 2 _ rfl
  have x3 := E_3.out.cell 3 _ rfl
  have x4 := E_3.out.cell 4 _ rfl
  have x5 := E_3.out.cell 5 _ rfl
  have x6 := E_3.out.cell 6 _ rfl
  have x7 := E_3.out.cell 7 _ rfl
  have y0 := Y_5.out.cell 0 _ rfl
  have y1 := Y_5.out.cell 1 _ rfl
  have y2 := Y_5.out.cell 2 _ rfl
  have y3 := Y_5.out.cell 3 _ rfl
  have y4 := Y_5.out.cell 4 _ rfl
  have y5 := Y_5.out.cell 5 _ rfl
  go_wp2_with fail
  refine (one_any e.kv _ OK.out.kv).mono ?_; rintro e w2 ⟨rfl, hb⟩
  rw [HO.out]
  have S_6 := Lib.hid hb; clear hb
  have E_7 := Lib.hid (E_3.out.below S_6.out)
  have Y_8 := Lib.hid (Y_5.out.below S_6.out)
  have B_9 := Lib.hid (then_ B_4.out S_6.out)
  clear E_3 Y_5 B_4
  clear S_6
  clear x0 x1 x2 x3 x4 x5 x6 x7
  clear y0 y1 y2 y3 y4 y5
  have x0 := E_7.out.cell 0 _ rfl
  have x1 := E_7.out.cell 1 _ rfl
  have x2 := E_7.out.cell 2 _ rfl
  have x3 := E_7.out.cell 3 _ rfl
  have x4 := E_7.out.cell 4 _ rfl
  have x5 := E_7.out.cell 5 _ rfl
  have x6 := E_7.out.cell 6 _ rfl
  have x7 := E_7.out.cell 7 _ rfl
  have y0 := Y_8.out.cell 0 _ rfl
  have y1 := Y_8.out.cell 1 _ rfl
  have y2 := Y_8.out.cell 2 _ rfl
  have y3 := Y_8.out.cell 3 _ rfl
  have y4 := Y_8.out.cell 4 _ rfl
  have y5 := Y_8.out.cell 5 _ rfl
  go_wp2
  go_ret
  exact ⟨retB HR.out.symm, B_9.out⟩
theorem right_ref (A : Option Addr) (n c : Nat) (l : List KV) (e : Ev) (w : World) (h : KVs w A n c l) (ok : e.ok) (hn : n ≤ 800000) (hone : ∀ y ∈ l, oneB y = true) :
    Calls Try.prog 43 #[.slice A n c, e.agg] w fun r w' => r = .returned (.bool (rightB l e)) ∧ Below w.heap.size w w' := by
  cases hg : e.gone with
  | true =>
    cases hf : findL l e.kv.key with
    | none => exact right_r1 A n c l e w h ok hn hone hg hf
    | some y => exact right_r2 A n c l e w h ok hn hone hg y hf
  | false =>
    cases hf : findL l e.kv.key with
    | none =>
      cases ho : oneB e.kv with
      | false => exact right_n1 A n c l e w h ok hn hone hg hf ho
      | true =>
        by_cases hm : e.kv.mod = e.rev
        · by_cases hc : e.kv.cre = e.rev
          · by_cases hv : e.kv.ver = 1
            · exact right_n5 A n c l e w h ok hn hone hg hf ho hm hc hv
            · exact right_n4 A n c l e w h ok hn hone hg hf ho hm hc hv
          · exact right_n3 A n c l e w h ok hn hone hg hf ho hm hc
        · exact right_n2 A n c l e w h ok hn hone hg hf ho hm
    | some y =>
      cases ho : oneB e.kv with
      | false => exact right_s1 A n c l e w h ok hn hone hg y hf ho
      | true =>
        by_cases hm : e.kv.mod = e.rev
        · by_cases hc : e.kv.cre = y.cre
          · by_cases hv : e.kv.ver = y.ver + 1
            · exact right_s5 A n c l e w h ok hn hone hg y hf ho hm hc hv
            · exact right_s4 A n c l e w h ok hn hone hg y hf ho hm hc hv
          · exact right_s3 A n c l e w h ok hn hone hg y hf ho hm hc
        · exact right_s2 A n c l e w h ok hn hone hg y hf ho hm
end Go.Proofs.Ytkikfaeigoeogaa.P
