/- Layer 9: where each request has its first reply: a map whose keys are a struct of two numbers. -/
import Derived.Test.YtcbnfgehmeikgaaMeSq
import Derived.WideKeyPair
import Derived.DeepKeys4
import Derived.WideMake
import Derived.Maps.Own
namespace Go.Proofs.Ytcbnfgehmeikgaa.P
open Go.RowKit Go.Sort Go.WideMaps
set_option maxHeartbeats 2000000
set_option linter.unusedVariables false
set_option linter.unusedSimpArgs false
set_option maxRecDepth 100000
section
variable {P : Program} {w : World} {mty kt et : TypeId} {r clock : Nat} {es : Array MapEntry} {key : Value}
theorem pmap_put (K : KeyLaw P kt) (hm : P.underlying mty = some (.map kt et)) (hb : w.heap[r]? = some (.map es clock)) {l : Lit} (hk : keyOf P kt key = some l) (hes : ∀ e ∈ es.toList, ∃ l, keyOf P kt e.key = some l)
    (hne : ∀ e ∈ es.toList, e.key ≠ key) (val : Value) :
    (Instr.mapUpdate mty (.map (some r)) key val).run P w = .ok () { w with heap := w.heap.setIfInBounds r (.map (es.push { key := key, val := val, born := clock }) (clock + 1)) } := by
  have hc := K.check w false hk
  have hf : (Instr.findKey kt key es.toList).run P w = .ok none w := by
    rcases K.find w hk es.toList hes with ⟨h, _⟩ | ⟨j, e, _, he, hek⟩
    · exact h
    · exact absurd hek (hne e (List.mem_of_getElem? he))
  simp [Instr.mapUpdate, run_underlying hm, MapKept.run_getObj_map hb, hc, hf, MapKept.run_setObj_map _ hb, Result.andThen]
theorem pmap_none (K : KeyLaw P kt) (hm : P.underlying mty = some (.map kt et)) (hb : w.heap[r]? = some (.map es clock)) {l : Lit} (hk : keyOf P kt key = some l) (hes : ∀ e ∈ es.toList, ∃ l, keyOf P kt e.key = some l)
    (hne : ∀ e ∈ es.toList, e.key ≠ key) {z : Value} (hz : (zeroValue et).run P w = .ok z w) :
    (Instr.lookup mty (.map (some r)) key true).run P w = .ok (.tuple #[z, .bool false]) w := by
  have hc := K.check w es.isEmpty hk
  have hf : (Instr.findKey kt key es.toList).run P w = .ok none w := by
    rcases K.find w hk es.toList hes with ⟨h, _⟩ | ⟨j, e, _, he, hek⟩
    · exact h
    · exact absurd hek (hne e (List.mem_of_getElem? he))
  simp [Instr.lookup, run_underlying hm, MapKept.run_getObj_map hb, hc, hf, hz, Result.andThen]
theorem pmap_some (K : KeyLaw P kt) (hm : P.underlying mty = some (.map kt et)) (hb : w.heap[r]? = some (.map es clock)) {l : Lit} (hk : keyOf P kt key = some l) (hes : ∀ e ∈ es.toList, ∃ l, keyOf P kt e.key = some l)
    {e0 : MapEntry} (h0 : e0 ∈ es.toList) (h1 : e0.key = key) {v : Value} (hv : ∀ e ∈ es.toList, e.key = key → e.val = v) :
    (Instr.lookup mty (.map (some r)) key true).run P w = .ok (.tuple #[v, .bool true]) w ∧ (Instr.lookup mty (.map (some r)) key false).run P w = .ok v w := by
  have hc := K.check w es.isEmpty hk
  rcases K.find w hk es.toList hes with ⟨_, h⟩ | ⟨j, e, hf, he, hek⟩
  · exact absurd h1 (h e0 h0)
  · have := hv e (List.mem_of_getElem? he) hek
    subst this
    constructor <;> simp [Instr.lookup, run_underlying hm, MapKept.run_getObj_map hb, hc, hf, Result.andThen]
end
abbrev rqV (i j : Int) : Value := .agg #[.int .i64 i, .int .i64 j]
theorem rqV_inj {i j a b : Int} (h : rqV i j = rqV a b) : i = a ∧ j = b := by simpa [rqV] using h
theorem me_laid : laidOutB Try.prog = true := by kernel_rfl
theorem rq_law : KeyLaw Try.prog 64 := deep_law_laid me_laid (m := 2) (by omega) (of_decide_eq_true (by kernel_rfl)) (by kernel_rfl) (by rw [Try.underlying64])
theorem rq_key {i j : Int} (hi : inI i) (hj : inI j) : ∃ l, keyOf Try.prog 64 (rqV i j) = some l := by
  have wi := WalkArith.wf_i64 hi
  have wj := WalkArith.wf_i64 hj
  obtain ⟨m, hm⟩ : ∃ m, Try.prog.types.size = m + 1 := ⟨_, rfl⟩
  have hkt : Try.prog.keyType 64 = true := by kernel_rfl
  have c1 : Try.prog.cellsOf 64 = 2 := by kernel_rfl
  have c2 : Try.prog.cellsOf 3 = 1 := by kernel_rfl
  have hf : (rqV i j).formed Try.prog 64 = true := by simp [Value.formed, Try.underlying64, c1]
  unfold keyOf
  simp only [Try.underlying64]
  rw [if_pos (by rw [hkt, hf]; rfl), hm]
  unfold Program.keyLits
  simp only [Try.underlying64, Value.cells]
  rw [if_pos ⟨by rw [c1]; rfl, by decide +kernel⟩]
  simp only [List.mapM_cons, List.mapM_nil, c2]
  unfold Program.keyLits
  simp [Try.underlying3, wi, wj]
/-! The map: each request of the list's first ones, at its first place. -/
def fstAt (l : List Gr) (i j : Int) (k : Nat) : Prop := (∃ g, l[k]? = some g ∧ g.who = i ∧ g.seq = j) ∧ ∀ t g, t < k → l[t]? = some g → ¬ (g.who = i ∧ g.seq = j)
theorem fstAt.one {l : List Gr} {i j : Int} {k k' : Nat} (h : fstAt l i j k) (h' : fstAt l i j k') : k = k' := by
  obtain ⟨⟨g, hg, h1⟩, h2⟩ := h
  obtain ⟨⟨g', hg', h1'⟩, h2'⟩ := h'
  rcases Nat.lt_trichotomy k k' with h3 | h3 | h3
  · exact absurd h1 (h2' k g h3 hg)
  · exact h3
  · exact absurd h1' (h2 k' g' h3 hg')
def prs (l : List Gr) : List (Int × Int) := l.map fun g => (g.who, g.seq)
structure PlOf (es : Array MapEntry) (l : List Gr) (n : Nat) : Prop where
  is : ∀ e ∈ es.toList, ∃ i j k, inI i ∧ inI j ∧ k < n ∧ e.key = rqV i j ∧ e.val = .int .i64 (k : Int) ∧ fstAt l i j k
  all : ∀ k g, k < n → l[k]? = some g → ∃ e ∈ es.toList, e.key = rqV g.who g.seq
  le : es.size ≤ n
  eq : es.size = n ↔ (prs (l.take n)).Nodup
theorem PlOf.zero (l : List Gr) : PlOf #[] l 0 := ⟨fun e h => by simp at h, fun k g h => by omega, Nat.le_refl _, by simp [prs]⟩
theorem PlOf.keys {es : Array MapEntry} {l : List Gr} {n : Nat} (h : PlOf es l n) : ∀ e ∈ es.toList, ∃ l, keyOf Try.prog 64 e.key = some l := fun e he => by
  obtain ⟨i, j, k, hi, hj, _, hk, _⟩ := h.is e he
  rw [hk]; exact rq_key hi hj
theorem prs_snoc {l : List Gr} {n : Nat} {g : Gr} (hg : l[n]? = some g) : prs (l.take (n + 1)) = prs (l.take n) ++ [(g.who, g.seq)] := by
  rw [List.take_add_one, hg]; simp [prs]
theorem prs_mem {l : List Gr} {n : Nat} {i j : Int} : (i, j) ∈ prs (l.take n) ↔ ∃ k g, k < n ∧ l[k]? = some g ∧ g.who = i ∧ g.seq = j := by
  unfold prs
  rw [List.mem_map]
  constructor
  · rintro ⟨g, hg, he⟩
    injection he with h1 h2
    obtain ⟨k, hk⟩ := List.getElem?_of_mem hg
    have hlt : k < n := by
      rcases Nat.lt_or_ge k n with h | h
      · exact h
      · rw [List.getElem?_take, if_neg (by omega)] at hk; cases hk
    rw [List.getElem?_take_of_lt hlt] at hk
    exact ⟨k, g, hlt, hk, h1, h2⟩
  · rintro ⟨k, g, hk, hg, h1, h2⟩
    exact ⟨g, List.mem_of_getElem? (i := k) (by rw [List.getElem?_take_of_lt hk]; exact hg), by rw [h1, h2]⟩
theorem PlOf.again {es : Array MapEntry} {l : List Gr} {n : Nat} {g : Gr} (h : PlOf es l n) (hg : l[n]? = some g) (hin : (g.who, g.seq) ∈ prs (l.take n)) : PlOf es l (n + 1) := by
  obtain ⟨k, g', hk, hg', h1, h2⟩ := prs_mem.1 hin
  refine ⟨fun e he => ?_, fun t x ht hx => ?_, Nat.le_succ_of_le h.le, ?_⟩
  · obtain ⟨i, j, k, a, b, hlt, c⟩ := h.is e he
    exact ⟨i, j, k, a, b, by omega, c⟩
  · by_cases e : t = n
    · subst e
      rw [hg] at hx
      have := Option.some.inj hx
      subst this
      rw [← h1, ← h2]
      exact h.all k g' hk hg'
    · exact h.all t x (by omega) hx
  · have := h.le
    constructor
    · intro e; omega
    · intro hn
      rw [prs_snoc hg, List.nodup_append] at hn
      exact absurd rfl (hn.2.2 _ hin _ (List.mem_singleton.2 rfl))
theorem PlOf.more {es : Array MapEntry} {l : List Gr} {n c : Nat} {g : Gr} (h : PlOf es l n) (hg : l[n]? = some g) (hi : inI g.who) (hj : inI g.seq) (hno : (g.who, g.seq) ∉ prs (l.take n)) : PlOf (es.push { key := rqV g.who g.seq, val := .int .i64 (n : Int), born := c }) l (n + 1) := by
  refine ⟨fun e he => ?_, fun t x ht hx => ?_, by rw [Array.size_push]; have := h.le; omega, ?_⟩
  · rw [Array.toList_push, List.mem_append, List.mem_singleton] at he
    rcases he with he | rfl
    · obtain ⟨i, j, k, a, b, hlt, c⟩ := h.is e he
      exact ⟨i, j, k, a, b, by omega, c⟩
    · refine ⟨g.who, g.seq, n, hi, hj, by omega, rfl, rfl, ⟨g, hg, rfl, rfl⟩, fun t x ht hx he => hno (prs_mem.2 ⟨t, x, ht, hx, he.1, he.2⟩)⟩
  · rw [Array.toList_push]
    by_cases e : t = n
    · subst e
      rw [hg] at hx
      have := Option.some.inj hx
      subst this
      exact ⟨_, List.mem_append_right _ (List.mem_singleton.2 rfl), rfl⟩
    · obtain ⟨e, he, hk⟩ := h.all t x (by omega) hx
      exact ⟨e, List.mem_append_left _ he, hk⟩
  · rw [Array.size_push, prs_snoc hg, List.nodup_append]
    constructor
    · intro e
      refine ⟨h.eq.1 (by omega), by simp, fun a ha b hb => ?_⟩
      rw [List.mem_singleton] at hb
      subst hb
      rintro rfl
      exact hno ha
    · intro hn
      have := h.eq.2 hn.1
      omega
theorem PlOf.fresh {es : Array MapEntry} {l : List Gr} {n : Nat} {i j : Int} (h : PlOf es l n) (hno : (i, j) ∉ prs (l.take n)) : ∀ e ∈ es.toList, e.key ≠ rqV i j := fun e he hk => by
  obtain ⟨a, b, k, _, _, hlt, hka, _, ⟨g, hg, h1, h2⟩, _⟩ := h.is e he
  rw [hk] at hka
  obtain ⟨rfl, rfl⟩ := rqV_inj hka
  exact hno (prs_mem.2 ⟨k, g, hlt, hg, h1, h2⟩)
theorem PlOf.look_none {es : Array MapEntry} {l : List Gr} {n : Nat} {i j : Int} (h : PlOf es l n) {w : World} {r c : Nat} (hb : w.heap[r]? = some (.map es c)) (hi : inI i) (hj : inI j) (hno : (i, j) ∉ prs (l.take n)) :
    (Instr.lookup 61 (.map (some r)) (rqV i j) true).run Try.prog w = .ok (.tuple #[.int .i64 0, .bool false]) w := by
  obtain ⟨q, hq⟩ := rq_key hi hj
  exact pmap_none rq_law Try.underlying61 hb hq h.keys (h.fresh hno) (by kernel_rfl)
theorem PlOf.look_some {es : Array MapEntry} {l : List Gr} {n k : Nat} {i j : Int} (h : PlOf es l n) {w : World} {r c : Nat} (hb : w.heap[r]? = some (.map es c)) (hi : inI i) (hj : inI j) (hk : k < n) (hf : fstAt l i j k) :
    (Instr.lookup 61 (.map (some r)) (rqV i j) true).run Try.prog w = .ok (.tuple #[.int .i64 (k : Int), .bool true]) w ∧ (Instr.lookup 61 (.map (some r)) (rqV i j) false).run Try.prog w = .ok (.int .i64 (k : Int)) w := by
  obtain ⟨q, hq⟩ := rq_key hi hj
  obtain ⟨g, hg, h1, h2⟩ := hf.1
  obtain ⟨e0, he0, hk0⟩ := h.all k g hk hg
  refine pmap_some rq_law Try.underlying61 hb hq h.keys he0 (by rw [hk0, h1, h2]) fun e he hke => ?_
  obtain ⟨a, b, t, _, _, _, hka, hv, hft⟩ := h.is e he
  rw [hke] at hka
  obtain ⟨rfl, rfl⟩ := rqV_inj hka
  rw [hv, hft.one hf]
theorem PlOf.put {es : Array MapEntry} {l : List Gr} {n : Nat} {i j : Int} (h : PlOf es l n) {w : World} {r c : Nat} (hb : w.heap[r]? = some (.map es c)) (hi : inI i) (hj : inI j) (hno : (i, j) ∉ prs (l.take n)) (v : Value) :
    (Instr.mapUpdate 61 (.map (some r)) (rqV i j) v).run Try.prog w = .ok () { w with heap := w.heap.setIfInBounds r (.map (es.push { key := rqV i j, val := v, born := c }) (c + 1)) } := by
  obtain ⟨q, hq⟩ := rq_key hi hj
  exact pmap_put rq_law Try.underlying61 hb hq h.keys (h.fresh hno) v
theorem first_of {l : List Gr} {i j : Int} : ∀ n, (i, j) ∈ prs (l.take n) → ∃ k, k < n ∧ fstAt l i j k
  | 0, h => by simp [prs] at h
  | n + 1, h => by
    by_cases hp : (i, j) ∈ prs (l.take n)
    · obtain ⟨k, hk, hf⟩ := first_of n hp
      exact ⟨k, by omega, hf⟩
    · obtain ⟨k, g, hk, hg, h1, h2⟩ := prs_mem.1 h
      have : k = n := by
        rcases Nat.lt_or_ge k n with h3 | h3
        · exact absurd (prs_mem.2 ⟨k, g, h3, hg, h1, h2⟩) hp
        · omega
      subst this
      exact ⟨k, by omega, ⟨g, hg, h1, h2⟩, fun t x ht hx he => hp (prs_mem.2 ⟨t, x, ht, hx, he.1, he.2⟩)⟩
theorem below_map {B r : Nat} {w w' : World} (h : Below B w w') (hr : B ≤ r) (o : Obj) : Below B w { w' with heap := w'.heap.setIfInBounds r o } :=
  ⟨h.os, h.tape, h.output, by show _ ≤ (w'.heap.setIfInBounds r o).size; rw [Array.size_setIfInBounds]; exact h.size, fun k hk => by
    show (w'.heap.setIfInBounds r o)[k]? = _
    rw [Array.getElem?_setIfInBounds_ne (by omega)]; exact h.block k hk⟩
/-- A map that tells where the list's requests have their first replies. -/
def PlEnd (l : List Gr) (w : World) (e : Ending) (w' : World) : Prop := ∃ (es : Array MapEntry) (r c : Nat), e = .returned (.map (some r)) ∧ w'.heap[r]? = some (.map es c) ∧ PlOf es l l.length ∧ Below w.heap.size w w'
theorem places_any (A : Option Addr) (n c : Nat) (l : List Gr) (w : World) (h : Grs w A n c l) (hn : n ≤ 1000000) :
    Calls Try.prog 22 #[.slice A n c] w (PlEnd l w) := by
  have hmm := @run_makeMap Try.prog
  obtain ⟨W1, hW1⟩ : ∃ W1, W1 = w.alloc (.map #[] 0) := ⟨_, rfl⟩
  have b1 : Below w.heap.size w W1 := by rw [hW1]; exact new1 w _
  have M1 : Hid (W1.heap[w.heap.size]? = some (.map #[] 0)) := Lib.hid (by rw [hW1]; show (w.heap.push _)[_]? = _; rw [Array.getElem?_push, if_pos rfl])
  have B1 := Lib.hid b1
  have H := Lib.hid h
  have HL := Lib.hid h.row.len
  clear h b1
  go_enter Try.func22, Try.ntmps22
  go_wp2
  rw [← hW1]
  have hlt1 : w.heap.size < W1.heap.size := by rw [hW1]; simp
  clear hW1 hmm
  go_loopw [12] (fun i wr => ∃ (j : Nat) (es : Array MapEntry) (cl : Nat), j ≤ n ∧ i = .int .i64 j ∧ wr.heap[w.heap.size]? = some (.map es cl) ∧ PlOf es l j ∧ Below w.heap.size w wr ∧ W1.heap.size ≤ wr.heap.size) (fun i _ => n - (intOf i).toNat)
  case atStart => exact ⟨0, #[], 0, Nat.zero_le _, rfl, M1.out, PlOf.zero l, B1.out, Nat.le_refl _⟩
  case round =>
    obtain ⟨j, es, cl, hj, rfl, hm, hp, hbel, hsz⟩ := hrel
    have HM := Lib.hid hm; have HP := Lib.hid hp; have HB := Lib.hid hbel; have HG := Lib.hid (H.out.keep hbel); have HZ := Lib.hid hsz
    clear hm hp hbel hsz
    by_cases hlt : j < n
    · obtain ⟨a, x, rfl, hbl, hx, hok, hc⟩ := HG.out.at_ hlt
      obtain ⟨z0, z1, z2, z3, z4, z5, z6, z7, z8, z9, z10⟩ := hc
      have HX := Lib.hid hx
      have HK := Lib.hid hok
      clear hx hok hbl
      obtain ⟨V, hV⟩ : ∃ V, V = (wr.alloc (.cells x.arr 53)).alloc (.cells #[.int .i64 x.who, .int .i64 x.seq] 64) := ⟨_, rfl⟩
      have bV : Below wr.heap.size wr V := by rw [hV]; exact then_ (new1 wr _) (new1 _ _)
      have sV : V.heap.size = wr.heap.size + 1 + 1 := by rw [hV]; simp
      have hr0 : w.heap.size < wr.heap.size := by have := HZ.out; omega
      have OX := Lib.hid (own_new2 wr (.cells x.arr 53) #[.int .i64 x.who, .int .i64 x.seq] 64)
      have MV : Hid (V.heap[w.heap.size]? = some (.map es cl)) := Lib.hid ((bV.block _ hr0).trans HM.out)
      have BV := Lib.hid (HB.out.trans (bV.mono HB.out.size))
      by_cases hin : (x.who, x.seq) ∈ prs (l.take j)
      · obtain ⟨k, hk, hf⟩ := first_of j hin
        have hlk := (HP.out.look_some MV.out HK.out.who HK.out.seq hk hf).1
        have P2 := Lib.hid (HP.out.again HX.out hin)
        clear hin hf bV
        rw [hV] at hlk
        go_wp2
        rw [← hV]
        go_roundw
        case rel => exact ⟨j + 1, es, cl, by omega, by go_num, MV.out, P2.out, BV.out, by have := HZ.out; omega⟩
        case measure => simp [intOf]; omega
      · have hlk := HP.out.look_none MV.out HK.out.who HK.out.seq hin
        have P2 := Lib.hid (HP.out.more (c := cl) HX.out HK.out.who HK.out.seq hin)
        have hup := HP.out.put MV.out HK.out.who HK.out.seq hin (.int .i64 (j : Int))
        have bW := below_map (B := w.heap.size) (r := w.heap.size) BV.out (Nat.le_refl _) (.map (es.push { key := rqV x.who x.seq, val := .int .i64 (j : Int), born := cl }) (cl + 1))
        have gV := Lib.grownBy_trans (a := V) (w := V) (w' := { V with heap := V.heap.setIfInBounds w.heap.size (.map (es.push { key := rqV x.who x.seq, val := .int .i64 (j : Int), born := cl }) (cl + 1)) }) (row := some w.heap.size) ⟨rfl, rfl, rfl, Nat.le_refl _, fun _ _ _ => rfl⟩ ⟨rfl, rfl, rfl, by show _ ≤ (V.heap.setIfInBounds _ _).size; rw [Array.size_setIfInBounds]; exact Nat.le_refl _, fun k hk hne => by
          show (V.heap.setIfInBounds _ _)[k]? = _
          rw [Array.getElem?_setIfInBounds_ne (fun e => hne (by rw [e]))]⟩
        have hat : ({ V with heap := V.heap.setIfInBounds w.heap.size (.map (es.push { key := rqV x.who x.seq, val := .int .i64 (j : Int), born := cl }) (cl + 1)) } : World).heap[w.heap.size]? = some (.map (es.push { key := rqV x.who x.seq, val := .int .i64 (j : Int), born := cl }) (cl + 1)) := by
          show (V.heap.setIfInBounds _ _)[_]? = _
          rw [Array.getElem?_setIfInBounds_self, if_pos (by omega)]
        generalize hV3 : ({ V with heap := V.heap.setIfInBounds w.heap.size (.map (es.push { key := rqV x.who x.seq, val := .int .i64 (j : Int), born := cl }) (cl + 1)) } : World) = V3 at *
        clear hV3
        have M3 := Lib.hid hat
        have B3 := Lib.hid bW
        have hs3 : wr.heap.size ≤ V3.heap.size := by have := gV.size; omega
        clear hin bV hat bW gV
        rw [hV] at hlk hup
        go_wp2
        go_roundw
        case rel => exact ⟨j + 1, _, _, by omega, by go_num, M3.out, P2.out, B3.out, by have := HZ.out; omega⟩
        case measure => simp [intOf]; omega
    · obtain rfl : j = n := by omega
      have HPn : Hid (PlOf es l l.length) := Lib.hid (by rw [HL.out]; exact HP.out)
      go_wp2
      go_ret
      exact ⟨es, w.heap.size, cl, rfl, HM.out, HPn.out, HB.out⟩
end Go.Proofs.Ytcbnfgehmeikgaa.P
