/- The writer's small steps. -/
import Derived.Test.YtimbklggifbibaaGreatDoorWireRow
import Derived.Test.YtimbklggifbibaaGreatDoorShiftMath
import Derived.Lib.AppendStr
import Derived.Deep.RegionLaw
import Derived.Deep.RegionHeld3
import Derived.Conc.MuLone
namespace Go.Proofs.YtimbklggifbibaaGreatDoor.P
open Go.RowKit Go.Lib
set_option maxHeartbeats 400000
set_option linter.unusedVariables false
set_option maxRecDepth 100000

/-- append of a string's bytes to a row of the call's own, as one step of a region that draws. -/
theorem step_append_own_text {P : Program} {ops : Array Oper} {o : Oper} {a : Act} {w : World} {K : Act → World → Prop} {Q : Exit → Act → World → Prop} {E : Prop}
    (hg : o.guard = none) (sl x : Operand) (t u : TypeId) (hop : o.op = .call { callee := .builtin .append, args := #[sl, x], argTypes := #[t, u] })
    (base : Nat) (e : TypeId) (i : TypeInfo) (ht : P.underlying t = some (.slice e)) (hu : P.underlying u = some .string) (hi : P.info? e = some i) (hz : i.zero = some (.int .u8 0)) (hsize : i.size = 1) (hby : i.bytes = 1)
    (v : Value) (n : Nat) (xs : List Value) (hs : a.eval sl = v) (hown : w.ownsRow base e 1 v n xs) (s : ByteArray) (hx : a.eval x = .string s)
    (h63 : n + s.size ≤ maxLen) (hbytes : n + s.size ≤ 140737488355328) (hbase : base ≤ w.heap.size)
    (hK : ∀ v' w', w'.ownsRow base e 1 v' (n + s.size) (xs ++ strCells s) → w.grownBy w' v.ownBlock → K (a.put o.dst v') w') :
    if Region.wanted o (yielded ops a.tmps) = true then Oper.wp P o a w K Q else E := by
  have hw : Region.wanted o (yielded ops a.tmps) = true := by simp [Region.wanted, hg]
  rw [if_pos hw]
  obtain ⟨v', w', hr, h2, h3, h4⟩ := run_append_own_string (P := P) w base t u o.type e i ht hu hi hz hsize hby v n xs hown s h63 hbytes hbase
  unfold Oper.wp execOp
  simp only [hop, resolve, invoke, builtin, Sem.run_bind, Sem.run_pure, Result.andThen_ok, List.map_toArray, List.map_cons, List.map_nil, hs, hx, hr]
  exact hK _ _ h2 h3

theorem enters {P : Program} {f : FuncId} {fn : Func} {c : Code} (hf : P.funcs[f]? = some fn) (hname : (fn.name == "runtime.NumGoroutine") = false) (hb : fn.body = some c) (args : Array Value) (w : World) :
    (callFunc f args).run P w = .ok (.enter f args) w := Go.MuLone.run_callFunc_enter hf hname hb args w
/-- A call of a Go function by its contract, as one step of a region that draws ('go_region_law'). -/
theorem step_call_below {P : Program} {ops : Array Oper} {o : Oper} {a : Act} {w : World} {K : Act → World → Prop} {Q : Exit → Act → World → Prop} {E : Prop}
    (hg : o.guard = none) (f : FuncId) (x : Operand) (ty : TypeId) (hop : o.op = .call { callee := .value (.func f), args := #[x], argTypes := #[ty] }) (u : Value) (hx : a.eval x = u) (v : Value)
    (hc : Calls P f #[u] w fun e w' => e = .returned v ∧ Below w.heap.size w w') (hf : ∀ w, (callFunc f #[u]).run P w = .ok (.enter f #[u]) w) (hK : ∀ w', Below w.heap.size w w' → K (a.put o.dst v) w') :
    if Region.wanted o (yielded ops a.tmps) = true then Oper.wp P o a w K Q else E := by
  have hw : Region.wanted o (yielded ops a.tmps) = true := by simp [Region.wanted, hg]
  rw [if_pos hw]
  unfold Oper.wp execOp
  simp only [hop, resolve, invoke, Sem.run_bind, List.map_toArray, List.map_cons, List.map_nil, hx]
  simp only [Act.eval, Deferred.ofValue, Sem.run_pure, Result.andThen_ok, Array.empty_append, Array.append_empty, hf, Oper.upon_enter]
  refine hc.mono fun e w' ⟨he, hb⟩ => ?_
  subst he
  exact hK w' hb

/-- A writer lies in block b; l: what it has written. -/
structure Wr (w : World) (b : Nat) (l : List UInt8) : Prop where
  ex : ∃ v, w.cell? ⟨b, 0, none⟩ = some v ∧ w.ownsRow (b + 1) 5 1 v l.length (byteVals l)
  fr : w.frozen? ⟨b, 0, none⟩ = false
def noU8 (w : World) (k : Nat) : Prop := ∀ cur fz, w.heap[k]? ≠ some (.cells cur 5 fz)
/-- What a step of a writer leaves as it was: what lies below the writer; and what is no row of bytes. -/
structure WStep (w w' : World) (b : Nat) : Prop where
  os : w'.os = w.os
  tape : w'.tape = w.tape
  output : w'.output = w.output
  size : w.heap.size ≤ w'.heap.size
  block : ∀ k, k < w.heap.size → k ≠ b → (k < b ∨ noU8 w k) → w'.heap[k]? = w.heap[k]?
theorem WStep.refl (w : World) (b : Nat) : WStep w w b := ⟨rfl, rfl, rfl, Nat.le_refl _, fun _ _ _ _ => rfl⟩
theorem WStep.trans {w w1 w2 : World} {b : Nat} (h : WStep w w1 b) (k : WStep w1 w2 b) : WStep w w2 b :=
  ⟨k.os.trans h.os, k.tape.trans h.tape, k.output.trans h.output, Nat.le_trans h.size k.size, fun i hi hne hor => by
    have e := h.block i hi hne hor
    refine (k.block i (Nat.lt_of_lt_of_le hi h.size) hne ?_).trans e
    rcases hor with hlt | hno
    · exact .inl hlt
    · exact .inr (fun cur fz => by rw [e]; exact hno cur fz)⟩
theorem WStep.of_below {w w' : World} {b : Nat} (h : Below w.heap.size w w') : WStep w w' b := ⟨h.os, h.tape, h.output, h.size, fun k hk _ _ => h.block k hk⟩
theorem WStep.alloc (w : World) (o : Obj) (b : Nat) : WStep w (w.alloc o) b := .of_below (new1 w o)
theorem WStep.low {w w' : World} {b : Nat} (h : WStep w w' b) (hb : b ≤ w.heap.size) : Below b w w' := ⟨h.os, h.tape, h.output, h.size, fun k hk => h.block k (by omega) (by omega) (.inl hk)⟩
theorem Wr.lt {w : World} {b : Nat} {l : List UInt8} (h : Wr w b l) : b < w.heap.size := by
  obtain ⟨v, c, _⟩ := h.ex
  exact World.block_lt_of_cell? w ⟨b, 0, none⟩ c
theorem Wr.below {w w' : World} {b : Nat} {l : List UInt8} (h : Wr w b l) (hb : Below w.heap.size w w') : Wr w' b l := by
  have hlt := h.lt
  obtain ⟨v, c, o⟩ := h.ex
  refine ⟨⟨v, (hb.cell (p := ⟨b, 0, none⟩) hlt).trans c, o.kept (row := none) ⟨hb.os, hb.tape, hb.output, hb.size, fun k hk _ => hb.block k hk⟩ ?_⟩, (hb.frozen (p := ⟨b, 0, none⟩) hlt).trans h.fr⟩
  rcases hv : v.ownBlock with _ | y
  · exact .inl rfl
  · exact .inr (by simp)
theorem Own.step {w w' : World} {g b : Nat} {t : TypeId} {cs : Array Value} (h : Own w g t cs) (hs : WStep w w' b) (hne : g ≠ b) (ht : t ≠ 5) : Own w' g t cs :=
  ⟨(hs.block g h.lt hne (.inr (fun cur fz e => by have := h.ex; rw [this] at e; injection e with e; injection e with _ e2 _; exact ht e2))).trans h.ex⟩
theorem new_drew (w : World) : Below w.heap.size w w.drew := (Below.refl _ _).drew
/-- How a step of a writer ends. -/
def Writes (w : World) (b : Nat) (l : List UInt8) (e : Ending) (w' : World) : Prop := e = .returned (.tuple #[]) ∧ Wr w' b l ∧ WStep w w' b
theorem ownBlock_ne {w : World} {b : Nat} {v : Value} {n : Nat} {xs : List Value} (h : w.ownsRow (b + 1) 5 1 v n xs) : some b ≠ v.ownBlock := fun e => by have := (h.lt b e.symm).1; omega
/-- The end of an append that is stored in the writer. -/
theorem wr_end {w w1 w2 : World} {b : Nat} {v v' : Value} {l m : List UInt8} (H : Wr w b l) (hw : WStep w w1 b) (hf : w1.frozen? ⟨b, 0, none⟩ = false) (hc : w1.cell? ⟨b, 0, none⟩ = some v) (ho : w1.ownsRow (b + 1) 5 1 v l.length (byteVals l))
    (h1 : w2.ownsRow (b + 1) 5 1 v' (l.length + (ByteArray.mk m.toArray).size) (byteVals l ++ strCells ⟨m.toArray⟩)) (hg : w1.grownBy w2 v.ownBlock) :
    Wr (w2.setCell ⟨b, 0, none⟩ v') b (l ++ m) ∧ WStep w (w2.setCell ⟨b, 0, none⟩ v') b ∧ w2.cell? ⟨b, 0, none⟩ = some v ∧ w2.frozen? ⟨b, 0, none⟩ = false := by
  have hlt1 : b < w1.heap.size := World.block_lt_of_cell? w1 ⟨b, 0, none⟩ hc
  have e := hg.block b hlt1 (ownBlock_ne ho)
  have c2 : w2.cell? ⟨b, 0, none⟩ = some v := (World.cell?_of_block (a := ⟨b, 0, none⟩) e).trans hc
  have f2 : w2.frozen? ⟨b, 0, none⟩ = false := (World.frozen?_of_block (a := ⟨b, 0, none⟩) e).trans hf
  have e1 : byteVals l ++ strCells ⟨m.toArray⟩ = byteVals (l ++ m) := by simp [byteVals, strCells]
  have e2 : l.length + (ByteArray.mk m.toArray).size = (l ++ m).length := by rw [List.length_append]; rfl
  rw [e1, e2] at h1
  refine ⟨⟨⟨v', World.cell?_setCell_same _ _ _ c2, h1.kept (grownBy_setCell w2 b 0 v') (.inr (ownBlock_ne h1).symm)⟩, by rw [World.frozen?_setCell]; exact f2⟩, ?_, c2, f2⟩
  refine hw.trans ⟨hg.os, hg.tape, hg.output, by have := hg.size; simp only [World.setCell, Array.size_modify]; exact this, fun k hk hne hor => ?_⟩
  rw [Below.heap_setCell w2 ⟨b, 0, none⟩ v' k hne]
  refine hg.block k hk (fun hh => ?_)
  rcases hor with hlow | hno
  · have := (ho.lt k hh.symm).1; omega
  · rcases ho.2 with ⟨rfl, _⟩ | ⟨g, cap, cur, rfl, _, hgr, _⟩
    · simp [Value.ownBlock] at hh
    · simp [Value.ownBlock] at hh; subst hh; exact hno _ _ hgr

theorem wnum_any (b : Nat) (l : List UInt8) (n : Int) (w : World) (H : Wr w b l) (h0 : 0 ≤ n) (h1 : n ≤ 9223372036854775807) (hl : l.length ≤ 1000000) :
    Calls Tryz.prog 25 #[.pointer (some ⟨b, 0, none⟩), .int .i64 n] w (Writes w b (l ++ varL n.toNat)) := by
  obtain ⟨i0, hi0, hz0, hz1, hz2⟩ := info_parts Tryz.info5
  obtain ⟨v, c0, own⟩ := H.ex
  have f0 := H.fr
  have HH := Lib.hid H
  have HO := Lib.hid own
  have hvl := (varL_length n.toNat).2
  have hbs : (ByteArray.mk (varL n.toNat).toArray).size ≤ 10 := by simpa [ByteArray.size] using hvl
  have hlt : b < w.heap.size := HH.out.lt
  have hwr : IntKind.u64.wrap n = n := by simp [IntKind.wrap, IntKind.bits, IntKind.signed]; omega
  clear H own hvl
  go_enter Tryz.func25, Tryz.ntmps25
  have hcall := (var_any n w.drew h0 (by omega))
  go_region_law (first
    | (refine step_call_below rfl 47 (.tmp 10) 90 rfl (.int .u64 n) (by simp [Act.eval, Act.put]) (.string ⟨(varL n.toNat).toArray⟩) hcall (enters Tryz.func47 (by kernel_rfl) rfl _) ?_; intro w2 hb; have B2 := Lib.hid (then_ (new_drew w) hb); clear hb; have c2 := (B2.out.cell (p := ⟨b, 0, none⟩) hlt).trans c0; have f2 := (B2.out.frozen (p := ⟨b, 0, none⟩) hlt).trans f0; have O2 := Lib.hid (HO.out.kept (row := none) (Lib.grownBy_below (grown_refl _ _) B2.out) (by rcases hv : v.ownBlock with _ | y; exact .inl rfl; exact .inr (by simp))))
    | (refine step_append_own_text rfl (.tmp 8) (.tmp 11) 59 9 rfl (b + 1) 5 i0 Tryz.underlying59 Tryz.underlying9 hi0 hz0 hz1 hz2 v l.length (byteVals l) (by simp [Act.eval]) O2.out ⟨(varL n.toNat).toArray⟩ (by simp [Act.eval]) (by unfold maxLen; omega) (by omega) (by have := B2.out.size; omega) ?_; intro v' w3 hown hg; obtain ⟨A3, k3, rfl, _⟩ := own_shape hown; have X := Lib.hid (wr_end HH.out (.of_below B2.out) f2 c2 O2.out hown hg); clear hown hg; have c3 := X.out.2.2.1; have f3 := X.out.2.2.2))
  all_goals
    go_wp2
    go_end0
    exact ⟨rfl, X.out.1, X.out.2.1⟩

theorem wtext_any (b : Nat) (l : List UInt8) (s : ByteArray) (w : World) (H : Wr w b l) (hl : l.length ≤ 1000000) (hs : s.size ≤ 1000000) :
    Calls Tryz.prog 50 #[.pointer (some ⟨b, 0, none⟩), .string s] w (Writes w b (l ++ (varL s.size ++ s.data.toList))) := by
  obtain ⟨i0, hi0, hz0, hz1, hz2⟩ := info_parts Tryz.info5
  have t := wnum_any b l (s.size : Int) w H (by omega) (by omega) hl
  rw [Int.toNat_natCast] at t
  have hvl := (varL_length s.size).2
  go_enter Tryz.func50, Tryz.ntmps50
  go_wp2_with fail
  refine t.mono ?_; rintro e w1 ⟨rfl, h, g⟩
  obtain ⟨v, c0, own⟩ := h.ex
  have f0 := h.fr
  have HH := Lib.hid h; have HO := Lib.hid own; have G := Lib.hid g
  have hlt : b < w1.heap.size := h.lt
  have hlen : (l ++ varL s.size).length ≤ 1000010 := by rw [List.length_append]; omega
  clear t H h own g
  go_wp2_with (at_builtin; go_loud (refine wpList_append_own_string _ rfl (.tmp 12) (.tmp 13) 59 9 rfl (b + 1) 5 i0 Tryz.underlying59 Tryz.underlying9 hi0 hz0 hz1 hz2 v (l ++ varL s.size).length (byteVals (l ++ varL s.size)) rfl HO.out s rfl (by unfold maxLen; omega) (by omega) (by omega) ?_); intro v' w3 hown hg _; obtain ⟨A3, k3, rfl, _⟩ := own_shape hown; have X := Lib.hid (wr_end (m := s.data.toList) HH.out (.refl _ _) f0 c0 HO.out hown hg); clear hown hg; have c3 := X.out.2.2.1; have f3 := X.out.2.2.2)
  go_end0
  have Y := X.out
  rw [List.length_append] at Y
  refine ⟨rfl, ?_, G.out.trans Y.2.1⟩
  rw [← List.append_assoc]; exact Y.1

theorem wyes_any (b : Nat) (l : List UInt8) (y : Bool) (w : World) (H : Wr w b l) (hl : l.length ≤ 1000000) :
    Calls Tryz.prog 49 #[.pointer (some ⟨b, 0, none⟩), .bool y] w (Writes w b (l ++ [if y then 1 else 0])) := by
  have e1 : varL (1 : Int).toNat = [1] := by decide
  have e0 : varL (0 : Int).toNat = [0] := by decide
  cases y with
  | true =>
    have t := wnum_any b l 1 w H (by omega) (by omega) hl
    rw [e1] at t
    go_enter Tryz.func49, Tryz.ntmps49
    go_wp2_with fail
    refine t.mono ?_; rintro e w1 ⟨rfl, h, g⟩
    have X := Lib.hid h; have G := Lib.hid g
    clear t H h g
    go_wp2
    go_end0
    exact ⟨rfl, X.out, G.out⟩
  | false =>
    have t := wnum_any b l 0 w H (by omega) (by omega) hl
    rw [e0] at t
    go_enter Tryz.func49, Tryz.ntmps49
    go_wp2_with fail
    refine t.mono ?_; rintro e w1 ⟨rfl, h, g⟩
    have X := Lib.hid h; have G := Lib.hid g
    clear t H h g
    go_wp2
    go_end0
    exact ⟨rfl, X.out, G.out⟩

theorem told_any (b : Nat) (l : List UInt8) (w : World) (H : Wr w b l) (hl : 0 < l.length) :
    Calls Tryz.prog 27 #[.pointer (some ⟨b, 0, none⟩)] w fun e w' => e = .returned (.string ⟨l.toArray⟩) ∧ w = w' := by
  obtain ⟨v, c0, own⟩ := H.ex
  have hback := conv_back (P := Tryz.prog) (src := 59) (dst := 9) Tryz.underlying59 Tryz.underlying5 Tryz.underlying9 own hl
  obtain ⟨A, c, rfl, _⟩ := own_shape own
  clear own
  go_enter Tryz.func27, Tryz.ntmps27
  go_wp2
  go_ret
  exact ⟨rfl, rfl⟩

def varsL (ns : List Int) : List UInt8 := ns.flatMap fun n => varL n.toNat
theorem varsL_len (ns : List Int) : (varsL ns).length ≤ 10 * ns.length := by
  induction ns with
  | nil => simp [varsL]
  | cons n r ih =>
    have e : varsL (n :: r) = varL n.toNat ++ varsL r := rfl
    have := (varL_length n.toNat).2
    rw [e, List.length_append, List.length_cons]; omega
theorem varsL_take (ns : List Int) (k : Nat) (n : Int) (h : ns[k]? = some n) : varsL (ns.take (k + 1)) = varsL (ns.take k) ++ varL n.toNat := by
  rw [take_succ ns k n h]; simp [varsL]
abbrev intVals (ns : List Int) : Array Value := (ns.map fun n => Value.int .i64 n).toArray
theorem wnums_any (b : Nat) (l : List UInt8) (g : Nat) (ns : List Int) (w : World) (H : Wr w b l) (O : Own w g 3 (intVals ns)) (hne : g ≠ b) (hn : ∀ n ∈ ns, 0 ≤ n ∧ n ≤ 9223372036854775807) (hk : ns.length ≤ 100) (hl : l.length ≤ 900000) :
    Calls Tryz.prog 48 #[.pointer (some ⟨b, 0, none⟩), .slice (some ⟨g, 0, none⟩) ns.length ns.length] w (Writes w b (l ++ varsL ns)) := by
  have HH := Lib.hid H; have HO := Lib.hid O; have HN := Lib.hid hn
  clear H O hn
  go_enter Tryz.func48, Tryz.ntmps48
  go_wp2
  go_loopw [8] (fun i wr => ∃ j : Nat, j ≤ ns.length ∧ i = .int .i64 (j : Int) ∧ Wr wr b (l ++ varsL (ns.take j)) ∧ WStep w wr b) (fun i _ => ns.length - (intOf i).toNat)
  case atStart => exact ⟨0, Nat.zero_le _, rfl, by simpa [varsL] using HH.out, .refl _ _⟩
  case round =>
    obtain ⟨j, hj, rfl, hwr, hst⟩ := hrel
    have HW := Lib.hid hwr; have HS := Lib.hid hst
    clear hwr hst
    by_cases hlt : j < ns.length
    · obtain ⟨n, hx⟩ : ∃ n, ns[j]? = some n := ⟨ns[j], List.getElem?_eq_getElem hlt⟩
      have hc := (HO.out.step HS.out hne (by decide)).cell j (.int .i64 n) (by simp [intVals, hx])
      have hb := HN.out n (List.mem_of_getElem? hx)
      have HX := Lib.hid (varsL_take ns j n hx)
      have hln := varsL_len (ns.take j)
      have hln2 : (l ++ varsL (ns.take j)).length ≤ 1000000 := by
        rw [List.length_append]; rw [List.length_take] at hln; omega
      have t := wnum_any b _ n _ HW.out hb.1 hb.2 hln2
      clear hx hln hln2
      go_wp2_with fail
      refine t.mono ?_; rintro e w1 ⟨rfl, h, g1⟩
      have X := Lib.hid h; have G := Lib.hid (HS.out.trans g1)
      clear t h g1
      go_wp2
      go_roundw
      case rel => exact ⟨j + 1, by omega, by go_num, by rw [HX.out, ← List.append_assoc]; exact X.out, G.out⟩
      case measure => simp [intOf]; omega
    · have e : j = ns.length := by omega
      subst e
      go_wp2
      go_end0
      refine ⟨rfl, ?_, HS.out⟩
      have := HW.out
      rwa [List.take_length] at this
end Go.Proofs.YtimbklggifbibaaGreatDoor.P
