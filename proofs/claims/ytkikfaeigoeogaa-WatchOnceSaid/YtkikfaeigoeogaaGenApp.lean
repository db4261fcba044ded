/- Rows of whatever things: read, cut, appended to. -/
import Derived.Test.YtkikfaeigoeogaaGenRow
import Derived.Deep.RegionLaw
import Derived.Laws.OwnMore
import Derived.Conc.MuLone
namespace Go.Proofs.Ytkikfaeigoeogaa.P
open Go.RowKit Go.Sort
set_option linter.unusedVariables false
set_option maxHeartbeats 1000000

theorem new_drew (w : World) : Below w.heap.size w w.drew := Below.drew (Below.refl _ _)
theorem RowsOf.cells {α : Type} {cells : α → List Value} {q : Nat} (hq : ∀ x, (cells x).length = q) (q0 : 0 < q) {w : World} {a : Addr} {n c : Nat} {l : List α} (h : RowsOf cells q w (some a) n c l) : ∀ j u, (flatC cells l)[j]? = some u → w.cell? (a.add j) = some u := by
  intro j u hu
  have hj : j < (flatC cells l).length := (List.getElem?_eq_some_iff.1 hu).1
  rw [flat_len hq] at hj
  have hi : j / q < l.length := Nat.div_lt_of_lt_mul (by rw [Nat.mul_comm]; exact hj)
  have hr : j % q < q := Nat.mod_lt _ q0
  obtain ⟨a', e, _, hx⟩ := h.rd (by rw [← h.len]; exact Nat.lt_of_le_of_lt (Nat.zero_le _) hi)
  obtain rfl := Option.some.inj e
  have hc := hx (j / q) _ (List.getElem?_eq_getElem hi)
  have hd : j / q * q + j % q = j := by rw [Nat.mul_comm]; exact Nat.div_add_mod j q
  have hu' := flat_at hq l (j / q) (j % q) _ (List.getElem?_eq_getElem hi) hr
  rw [hd, hu] at hu'
  have := hc (j % q) u hu'.symm
  unfold subA at this
  split at this
  · rename_i h0
    rw [h0, Nat.add_zero] at hd
    rwa [hd] at this
  · rename_i h0
    rw [← add_more _ _ _ (by omega), hd] at this
    exact this

theorem flat_app {α : Type} {cells : α → List Value} (l m : List α) : flatC cells (l ++ m) = flatC cells l ++ flatC cells m := by simp [flatC]
theorem add_add' (a : Addr) (x y : Nat) : (a.add x).add y = a.add (x + y) := by
  by_cases hx : x = 0
  · subst hx; rw [Nat.zero_add]; congr 1
  · by_cases hy : y = 0
    · subst hy; unfold Addr.add; simp
    · unfold Addr.add
      rw [if_neg hx, if_neg hy, if_neg (by omega)]
      show (⟨a.block, a.off + x + y, none⟩ : Addr) = ⟨a.block, a.off + (x + y), none⟩
      rw [Nat.add_assoc]
theorem RowsOf.take {α : Type} {cells : α → List Value} {q : Nat} {w : World} {A : Option Addr} {n c i : Nat} {l : List α} (h : RowsOf cells q w A n c l) (hi : i ≤ n) : RowsOf cells q w A i c (l.take i) :=
  ⟨by rw [List.length_take, h.len]; omega, Nat.le_trans hi h.le, h.max, fun h0 => by
    obtain ⟨a, e, hlt, hx⟩ := h.rd (by omega)
    exact ⟨a, e, hlt, fun k x hk => hx k x (by
      rw [List.getElem?_take] at hk
      split at hk
      · exact hk
      · cases hk)⟩, h.nil⟩
theorem RowsOf.drop {α : Type} {cells : α → List Value} {q : Nat} {w : World} {a : Addr} {n c i : Nat} {l : List α} (h : RowsOf cells q w (some a) n c l) (hi : i ≤ n) : RowsOf cells q w (if c = i then some a else some (a.add (i * q))) (n - i) (c - i) (l.drop i) :=
  ⟨by rw [List.length_drop, h.len], by have := h.le; omega, by have := h.max; omega, fun h0 => by
    obtain ⟨a', e, hlt, hx⟩ := h.rd (by omega)
    obtain rfl := Option.some.inj e
    have hci : ¬ c = i := by have := h.le; omega
    rw [if_neg hci]
    refine ⟨_, rfl, by rw [block_add]; exact hlt, fun k x hk => ?_⟩
    rw [List.getElem?_drop] at hk
    rw [add_add', ← Nat.add_mul]
    exact hx _ x hk, fun h0 => by split at h0 <;> cases h0⟩
theorem enters {P : Program} {f : FuncId} {fn : Func} {c : Code} (hf : P.funcs[f]? = some fn) (hname : (fn.name == "runtime.NumGoroutine") = false) (hb : fn.body = some c) (args : Array Value) (w : World) :
    (callFunc f args).run P w = .ok (.enter f args) w := Go.MuLone.run_callFunc_enter hf hname hb args w
/-- A call of a Go function by its contract, as one step of a region that draws ('go_region_law'): of one argument, of two. -/
theorem step_call1 {P : Program} {ops : Array Oper} {o : Oper} {a : Act} {w : World} {K : Act → World → Prop} {Q : Exit → Act → World → Prop} {E : Prop} {Post : Ending → World → Prop}
    (hg : o.guard = none) (f : FuncId) (x : Operand) (ty : TypeId) (hop : o.op = .call { callee := .value (.func f), args := #[x], argTypes := #[ty] }) (u : Value) (hx : a.eval x = u)
    (hc : Calls P f #[u] w Post) (hf : ∀ w, (callFunc f #[u]).run P w = .ok (.enter f #[u]) w) (hK : ∀ e w', Post e w' → ∃ v, e = .returned v ∧ K (a.put o.dst v) w') :
    if Region.wanted o (yielded ops a.tmps) = true then Oper.wp P o a w K Q else E := by
  have hw : Region.wanted o (yielded ops a.tmps) = true := by simp [Region.wanted, hg]
  rw [if_pos hw]
  unfold Oper.wp execOp
  simp only [hop, resolve, invoke, Sem.run_bind, List.map_toArray, List.map_cons, List.map_nil, hx]
  simp only [Act.eval, Deferred.ofValue, Sem.run_pure, Result.andThen_ok, Array.empty_append, Array.append_empty, hf, Oper.upon_enter]
  refine hc.mono fun e w' h => ?_
  obtain ⟨v, rfl, hk⟩ := hK e w' h
  exact hk
theorem step_call2 {P : Program} {ops : Array Oper} {o : Oper} {a : Act} {w : World} {K : Act → World → Prop} {Q : Exit → Act → World → Prop} {E : Prop} {Post : Ending → World → Prop}
    (hg : o.guard = none) (f : FuncId) (x y : Operand) (ty tz : TypeId) (hop : o.op = .call { callee := .value (.func f), args := #[x, y], argTypes := #[ty, tz] }) (u v : Value) (hx : a.eval x = u) (hy : a.eval y = v)
    (hc : Calls P f #[u, v] w Post) (hf : ∀ w, (callFunc f #[u, v]).run P w = .ok (.enter f #[u, v]) w) (hK : ∀ e w', Post e w' → ∃ z, e = .returned z ∧ K (a.put o.dst z) w') :
    if Region.wanted o (yielded ops a.tmps) = true then Oper.wp P o a w K Q else E := by
  have hw : Region.wanted o (yielded ops a.tmps) = true := by simp [Region.wanted, hg]
  rw [if_pos hw]
  unfold Oper.wp execOp
  simp only [hop, resolve, invoke, Sem.run_bind, List.map_toArray, List.map_cons, List.map_nil, hx, hy]
  simp only [Act.eval, Deferred.ofValue, Sem.run_pure, Result.andThen_ok, Array.empty_append, Array.append_empty, hf, Oper.upon_enter]
  refine hc.mono fun e w' h => ?_
  obtain ⟨z, rfl, hk⟩ := hK e w' h
  exact hk
/-- A row of the call's own of whatever things. -/
abbrev ownG {α : Type} (cells : α → List Value) (q : Nat) (e : TypeId) (w : World) (base : Nat) (A : Option Addr) (n c : Nat) (l : List α) : Prop := w.ownsRow base e q (.slice A n c) n (flatC cells l)
theorem ownG_len {α : Type} {cells : α → List Value} {q : Nat} (hq : ∀ x, (cells x).length = q) (q0 : 0 < q) {e : TypeId} {w : World} {base n c : Nat} {A : Option Addr} {l : List α} (h : ownG cells q e w base A n c l) : l.length = n := by
  have := h.1; rw [flat_len hq] at this; exact Nat.eq_of_mul_eq_mul_right q0 this
theorem ownG_rows {α : Type} {cells : α → List Value} {q : Nat} (hq : ∀ x, (cells x).length = q) (q0 : 0 < q) {e : TypeId} {w : World} {base n c : Nat} {A : Option Addr} {l : List α} (h : ownG cells q e w base A n c l) : RowsOf cells q w A n c l := RowsOf.of_own hq (ownG_len hq q0 h) h
theorem ownG_keep {e : TypeId} {q : Nat} {w w' : World} {base n : Nat} {v : Value} {xs : List Value} (h : w.ownsRow base e q v n xs) (hb : Below w.heap.size w w') : w'.ownsRow base e q v n xs := by
  rcases h with ⟨h1, h2 | ⟨g, cap, cur, hv, hbg, hg, h3⟩⟩
  · exact ⟨h1, .inl h2⟩
  · have hlt : g < w.heap.size := by
      rcases Nat.lt_or_ge g w.heap.size with hlt | hge
      · exact hlt
      · rw [Array.getElem?_eq_none hge] at hg; cases hg
    exact ⟨h1, .inr ⟨g, cap, cur, hv, hbg, (hb.block g hlt).trans hg, h3⟩⟩
theorem ownG_fresh {e : TypeId} {q : Nat} {w : World} {base n m c : Nat} {A : Option Addr} {xs : List Value} (h : w.ownsRow base e q (.slice A n c) m xs) : ∀ a, A = some a → base ≤ a.block := by
  intro a ha
  subst ha
  rcases h.2 with ⟨hv, _⟩ | ⟨g, cap, cur, hv, hb, _⟩
  · injection hv with e1; cases e1
  · injection hv with e1
    injection e1 with e1
    subst e1
    exact hb
theorem ownG_nil {α : Type} (cells : α → List Value) (q : Nat) (e : TypeId) (w : World) (base : Nat) : ownG cells q e w base none 0 0 [] := ⟨by simp [flatC], .inl ⟨rfl, rfl⟩⟩
/-- A thing in a block of its own, as a row of one. -/
theorem rows_new {α : Type} {cells : α → List Value} {q : Nat} (hq : ∀ x, (cells x).length = q) {e : TypeId} (w : World) (x : α) (cs : Array Value) (hcs : cs.toList = cells x) : RowsOf cells q (w.alloc (.cells cs e)) (some ⟨w.heap.size, 0, none⟩) 1 1 [x] := by
  have h := World.ownsRow_lit (base := w.heap.size) (e := e) (size := q) w cs 1 (Nat.le_refl _) (by simp only [maxLen]; omega) (by rw [← Array.length_toList, hcs, hq, Nat.one_mul])
  have e : cs.toList = flatC cells [x] := by rw [flat_one, hcs]
  rw [e] at h
  exact RowsOf.of_own hq rfl h
/-- What 'append(out, l...)' comes to where out is a row of the call's own. -/
theorem app_rows {P : Program} {α : Type} {cells : α → List Value} {q : Nat} (hq : ∀ x, (cells x).length = q) (q0 : 0 < q) (h1 : ∀ x, ∀ v ∈ cells x, v.oneCell' = true) {t e : TypeId} {i0 : TypeInfo} {z : Value} {bytes : Nat}
    (ht : P.underlying t = some (.slice e)) (hi0 : P.info? e = some i0) (hz0 : i0.zero = some z) (hz1 : i0.size = q) (hz2 : i0.bytes = bytes) (hzs : z.cells.size = q) (hby : bytes ≤ 1000)
    (base : Nat) (B : Option Addr) (n d : Nat) (xs : List α) (w : World) (hown : ownG cells q e w base B n d xs) (A : Option Addr) (m c : Nat) (l : List α) (h : RowsOf cells q w A m c l) (hn : n + m ≤ 1000000) (hb : base ≤ w.heap.size) :
    ∃ B' d' w', (Builtin.append_ #[t, t] t #[.slice B n d, .slice A m c]).run P w = .ok (.slice B' (n + m) d') w' ∧ ownG cells q e w' base B' (n + m) d' (xs ++ l) ∧ Below base w w' ∧ w.grownBy w' (Value.slice B n d).ownBlock := by
  have hlen := h.len
  have hbb : (n + m) * bytes ≤ 140737488355328 := Nat.le_trans (Nat.mul_le_mul hn hby) (by omega)
  rcases A with _ | a
  · have h0 := h.nil rfl
    subst h0
    obtain rfl : m = 0 := by have := h.le; omega
    obtain rfl : l = [] := List.eq_nil_of_length_eq_zero hlen
    refine ⟨B, d, w, ?_, ?_, Below.refl _ _, ⟨rfl, rfl, rfl, Nat.le_refl _, fun _ _ _ => rfl⟩⟩
    · have := run_append_owned_none (P := P) (w := w) base t t e i0 q ht hi0 (.slice B n d) n _ hown
      rw [this]; rfl
    · rw [List.append_nil]; exact hown
  · obtain ⟨v', w', hr, h2, h3, h4, h5⟩ := run_append_own_at (P := P) w base t t e i0 z q bytes ht hi0 hz0 hz1 hz2 hzs q0 (.slice B n d) n _ hown a m c (flatC cells l) (by rw [flat_len hq, hlen]) (h.cells hq q0) (fun u hu => flat_mem h1 hu) (by unfold maxLen; omega) hbb hb
    have hsl : ∃ B' d', v' = .slice B' (n + m) d' := by
      rcases h2.2 with ⟨rfl, h0⟩ | ⟨g, cap, cur, rfl, _⟩
      · exact ⟨none, 0, by rw [h0]⟩
      · exact ⟨_, _, rfl⟩
    obtain ⟨B', d', rfl⟩ := hsl
    refine ⟨B', d', w', hr, ?_, (Below.refl _ _).grown h3 hb (fun k hk => (hown.lt k hk).1), h3⟩
    show w'.ownsRow _ _ _ _ _ _
    rw [flat_app]; exact h2
end Go.Proofs.Ytkikfaeigoeogaa.P
