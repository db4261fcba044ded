/- Slices of events, as lists; what becomes of a list by events: hist's way, and the document's. -/
import Derived.Test.YtkikfaeigoeogaaKvLayRef
import Derived.Test.YtkikfaeigoeogaaEvBase
namespace Go.Proofs.Ytkikfaeigoeogaa.P
open Go.RowKit Go.Sort
set_option maxHeartbeats 400000
set_option linter.unusedVariables false
set_option maxRecDepth 100000

theorem fold_take (l : List KV) (log : List Ev) (rev : Int) (j : Nat) (e : Ev) (h : log[j]? = some e) : foldL l (log.take (j + 1)) rev = stepL rev (foldL l (log.take j) rev) e := by
  rw [take_succ log j e h, foldL_snoc]
theorem fold_len_to (l : List KV) (log : List Ev) (rev : Int) (j : Nat) : (foldL l (log.take j) rev).length ≤ l.length + j :=
  Nat.le_trans (foldL_len _ _ _) (by have := List.length_take_le j log; omega)
theorem fold_ok {l : List KV} {log : List Ev} (rev : Int) (hl : ∀ x ∈ l, x.ok) (hg : ∀ e ∈ log, e.ok) (j : Nat) : ∀ x ∈ foldL l (log.take j) rev, x.ok := fun x hx => by
  rcases foldL_mem _ _ _ _ hx with h | ⟨e, he, rfl⟩
  · exact hl x h
  · exact (hg e (List.mem_of_mem_take he)).kv
theorem step_past {rev : Int} {o : List KV} {e : Ev} (h : rev < e.rev) : stepL rev o e = o := if_pos h
theorem step_gone {rev : Int} {o : List KV} {e : Ev} (h : e.rev ≤ rev) (hg : e.gone = true) : stepL rev o e = takeL o e.kv.key := by
  unfold stepL; rw [if_neg (by omega), hg]; rfl
theorem step_laid {rev : Int} {o : List KV} {e : Ev} (h : e.rev ≤ rev) (hg : e.gone = false) : stepL rev o e = layL o e.kv := by
  unfold stepL; rw [if_neg (by omega), hg]; rfl

theorem fold_fresh (A : Option Addr) (n c : Nat) (l : List KV) (B : Option Addr) (m d : Nat) (log : List Ev) (rev : Int) (w : World) (h : KVs w A n c l) (g : Evs w B m d log) (hn : n + m ≤ 900000) :
    Calls Try.prog 32 #[.slice A n c, .slice B m d, .int .i64 rev] w (FreshKVs w (foldL l log rev)) := by
  have H := Lib.hid h
  have G := Lib.hid g
  have HOK := Lib.hid h.ok
  have GOK := Lib.hid g.ok
  have HL := Lib.hid h.len
  have GL := Lib.hid g.len
  clear h g
  go_enter Try.func32, Try.ntmps32
  go_wp2_with fail
  refine (clone_any A n c l _ H.out (by omega)).mono ?_; rintro e w1 ⟨A1, c1, rfl, hown, hb⟩
  have HO1 := Lib.hid hown
  have HB1 := Lib.hid hb
  clear hown hb
  go_wp2
  go_loopw [0, 13] (fun v i wr => ∃ (j : Nat) (A' : Option Addr) (k' c' : Nat), j ≤ m ∧ i = .int .i64 j ∧ v = .slice A' k' c' ∧ Hid (k' = (foldL l (log.take j) rev).length) ∧
      wr.ownsRow w.heap.size 36 6 (.slice A' k' c') k' (cellsL (foldL l (log.take j) rev)) ∧ Below w.heap.size w wr) (fun _ i _ => m - (intOf i).toNat)
  case atStart => exact ⟨0, A1, l.length, c1, Nat.zero_le _, rfl, rfl, rfl, HO1.out, HB1.out⟩
  case round =>
    obtain ⟨j, A', k', c', hj, rfl, rfl, hk', hown, hbel⟩ := hrel
    have HO := Lib.hid hown
    have HB := Lib.hid hbel
    clear hown hbel
    by_cases hlt : j < m
    · obtain ⟨a, x, rfl, hbl, hx, hok, hc⟩ := (G.out.keep HB.out).at_ hlt
      obtain ⟨c0, c1, c2, c3, c4, c5, c6, c7⟩ := hc
      have HX := Lib.hid hx
      have HXO := Lib.hid hok
      have HS := Lib.hid (fold_take l log rev j x hx)
      clear hx hok hbl
      by_cases hr : rev < x.rev
      · have HE := Lib.hid (step_past (o := foldL l (log.take j) rev) hr)
        go_wp2
        go_roundw
        case rel => exact ⟨j + 1, A', k', c', by omega, by go_num, rfl, by show _ = _; rw [HS.out, HE.out]; exact hk', by rw [HS.out, HE.out]; exact HO.out.alloc _, HB.out.alloc HB.out.size _⟩
        case measure => simp [intOf]; omega
      · have hr' : x.rev ≤ rev := by omega
        have hln : Hid (k' ≤ 1000000) := Lib.hid (by have := fold_len_to l log rev j; rw [hk'.out]; rw [HL.out] at this; omega)
        have hok := Lib.hid (fold_ok rev HOK.out GOK.out j)
        cases hg : x.gone with
        | true =>
          have HE := Lib.hid (step_gone (o := foldL l (log.take j) rev) hr' hg)
          rw [hg] at c1
          have HT := Lib.hid (take_at w.heap.size A' k' c' (foldL l (log.take j) rev) x.kv.key (wr.alloc (x.obj 43)) hk'.out.symm (HO.out.alloc _) hok.out hln.out (by have := HB.out.size; simp; omega))
          have HBA := Lib.hid (HB.out.alloc HB.out.size (x.obj 43))
          have hgo : Hid (x.gone = true) := hg
          clear hg
          have hob : x.obj 43 = .cells #[.int .i64 x.rev, .bool true, .string x.kv.key, .string x.kv.val, .int .i64 x.kv.cre, .int .i64 x.kv.mod, .int .i64 x.kv.ver, .int .i64 x.kv.lea] 43 := by unfold Ev.obj; rw [hgo.out]
          rw [hob] at HT HBA
          clear hob
          go_wp2_with fail
          refine HT.out.mono ?_; rintro e w2 ⟨A2, c2, rfl, hown2, hb2⟩
          have HO2 := Lib.hid hown2
          have HB2 := Lib.hid hb2
          clear hown2 hb2
          go_wp2
          go_roundw
          case rel => exact ⟨j + 1, A2, _, c2, by omega, by go_num, rfl, by show _ = _; rw [HS.out, HE.out], by rw [HS.out, HE.out]; exact HO2.out, HBA.out.trans HB2.out⟩
          case measure => simp [intOf]; omega
        | false =>
          have HE := Lib.hid (step_laid (o := foldL l (log.take j) rev) hr' hg)
          rw [hg] at c1
          have HT := Lib.hid (lay_at w.heap.size A' k' c' (foldL l (log.take j) rev) x.kv (wr.alloc (x.obj 43)) hk'.out.symm (HO.out.alloc _) hok.out HXO.out.kv hln.out (by have := HB.out.size; simp; omega))
          have HBA := Lib.hid (HB.out.alloc HB.out.size (x.obj 43))
          have hgo : Hid (x.gone = false) := hg
          clear hg
          have hob : x.obj 43 = .cells #[.int .i64 x.rev, .bool false, .string x.kv.key, .string x.kv.val, .int .i64 x.kv.cre, .int .i64 x.kv.mod, .int .i64 x.kv.ver, .int .i64 x.kv.lea] 43 := by unfold Ev.obj; rw [hgo.out]
          rw [hob] at HT HBA
          clear hob
          go_wp2_with fail
          refine HT.out.mono ?_; rintro e w2 ⟨A2, c2, rfl, hown2, hb2⟩
          have HO2 := Lib.hid hown2
          have HB2 := Lib.hid hb2
          clear hown2 hb2
          go_wp2
          go_roundw
          case rel => exact ⟨j + 1, A2, _, c2, by omega, by go_num, rfl, by show _ = _; rw [HS.out, HE.out], by rw [HS.out, HE.out]; exact HO2.out, HBA.out.trans HB2.out⟩
          case measure => simp [intOf]; omega
    · have HF : Hid (foldL l (log.take j) rev = foldL l log rev) := Lib.hid (by rw [take_full log j (by rw [GL.out]; omega)])
      have hok := Lib.hid (fold_ok rev HOK.out GOK.out j)
      go_wp2
      go_ret
      refine ⟨A', k', c', rfl, ?_, HB.out, own_fresh HO.out⟩
      rw [← HF.out]
      exact own_kvs HO.out hok.out
theorem fold_any (A : Option Addr) (n c : Nat) (l : List KV) (B : Option Addr) (m d : Nat) (log : List Ev) (rev : Int) (w : World) (h : KVs w A n c l) (g : Evs w B m d log) (hn : n + m ≤ 900000) :
    Calls Try.prog 32 #[.slice A n c, .slice B m d, .int .i64 rev] w (SomeKVs w (foldL l log rev)) := (fold_fresh A n c l B m d log rev w h g hn).mono fun e w' h => h.some_

theorem fold_reff (A : Option Addr) (n c : Nat) (l : List KV) (B : Option Addr) (m d : Nat) (log : List Ev) (rev : Int) (w : World) (h : KVs w A n c l) (g : Evs w B m d log) (hn : n + m ≤ 900000) :
    Calls Try.prog 44 #[.slice A n c, .slice B m d, .int .i64 rev] w (OrKVs A n w (foldL l log rev)) := by
  have H := Lib.hid h
  have G := Lib.hid g
  have HL := Lib.hid h.len
  have GL := Lib.hid g.len
  clear h g
  go_enter Try.func44, Try.ntmps44
  go_wp2
  go_loopw [0, 7] (fun v i wr => ∃ (j : Nat) (A' : Option Addr) (k' c' : Nat), j ≤ m ∧ i = .int .i64 j ∧ v = .slice A' k' c' ∧ KVs wr A' k' c' (foldL l (log.take j) rev) ∧ Below w.heap.size w wr ∧ FromA A n w A' k') (fun _ i _ => m - (intOf i).toNat)
  case atStart => exact ⟨0, A, n, c, Nat.zero_le _, rfl, rfl, H.out, Below.refl _ _, .inl ⟨rfl, rfl⟩⟩
  case round =>
    obtain ⟨j, A', k', c', hj, rfl, rfl, hk, hbel, hfr⟩ := hrel
    have HFR := Lib.hid hfr
    clear hfr
    have HK := Lib.hid hk
    have HB := Lib.hid hbel
    clear hk hbel
    by_cases hlt : j < m
    · obtain ⟨a, x, rfl, hbl, hx, hok, hc⟩ := (G.out.keep HB.out).at_ hlt
      obtain ⟨c0, c1, c2, c3, c4, c5, c6, c7⟩ := hc
      have HX := Lib.hid hx
      have HXO := Lib.hid hok
      have HS := Lib.hid (fold_take l log rev j x hx)
      clear hx hok hbl
      by_cases hr : rev < x.rev
      · have HE := Lib.hid (step_past (o := foldL l (log.take j) rev) hr)
        go_wp2
        go_roundw
        case rel => exact ⟨j + 1, A', k', c', by omega, by go_num, rfl, by rw [HS.out, HE.out]; exact HK.out, HB.out, HFR.out⟩
        case measure => simp [intOf]; omega
      · have hr' : x.rev ≤ rev := by omega
        have hln : Hid (k' ≤ 1000000) := Lib.hid (by have := fold_len_to l log rev j; rw [HK.out.len, HL.out] at this; omega)
        cases hg : x.gone with
        | true =>
          have HE := Lib.hid (step_gone (o := foldL l (log.take j) rev) hr' hg)
          rw [hg] at c1
          clear hg
          go_wp2_with fail
          refine (take_reff A' k' c' _ x.kv.key _ HK.out hln.out).mono ?_; rintro e w2 ⟨A2, n2, c2, rfl, hk2, hb2, hf2⟩
          have HF2 : Hid (FromA A n w A2 n2) := Lib.hid (.inr (fun a ha => Nat.le_trans HB.out.size (hf2 a ha)))
          clear hf2
          have HK2 := Lib.hid hk2
          have HB2 := Lib.hid hb2
          clear hk2 hb2
          go_wp2
          go_roundw
          case rel => exact ⟨j + 1, A2, n2, c2, by omega, by go_num, rfl, by rw [HS.out, HE.out]; exact HK2.out, HB.out.trans (HB2.out.mono HB.out.size), HF2.out⟩
          case measure => simp [intOf]; omega
        | false =>
          have HE := Lib.hid (step_laid (o := foldL l (log.take j) rev) hr' hg)
          rw [hg] at c1
          clear hg
          go_wp2_with fail
          refine (lay_reff A' k' c' _ x.kv _ HK.out HXO.out.kv hln.out).mono ?_; rintro e w2 ⟨A2, n2, c2, rfl, hk2, hb2, hf2⟩
          have HF2 : Hid (FromA A n w A2 n2) := Lib.hid (.inr (fun a ha => Nat.le_trans HB.out.size (hf2 a ha)))
          clear hf2
          have HK2 := Lib.hid hk2
          have HB2 := Lib.hid hb2
          clear hk2 hb2
          go_wp2
          go_roundw
          case rel => exact ⟨j + 1, A2, n2, c2, by omega, by go_num, rfl, by rw [HS.out, HE.out]; exact HK2.out, HB.out.trans (HB2.out.mono HB.out.size), HF2.out⟩
          case measure => simp [intOf]; omega
    · have HF : Hid (foldL l (log.take j) rev = foldL l log rev) := Lib.hid (by rw [take_full log j (by rw [GL.out]; omega)])
      go_wp2
      go_ret
      exact ⟨A', k', c', rfl, by rw [← HF.out]; exact HK.out, HB.out, HFR.out⟩
theorem fold_ref (A : Option Addr) (n c : Nat) (l : List KV) (B : Option Addr) (m d : Nat) (log : List Ev) (rev : Int) (w : World) (h : KVs w A n c l) (g : Evs w B m d log) (hn : n + m ≤ 900000) :
    Calls Try.prog 44 #[.slice A n c, .slice B m d, .int .i64 rev] w (SomeKVs w (foldL l log rev)) := (fold_reff A n c l B m d log rev w h g hn).mono fun e w' h => by
  obtain ⟨A, n, c, he, hk, hb, _⟩ := h
  exact ⟨A, n, c, he, hk, hb⟩
end Go.Proofs.Ytkikfaeigoeogaa.P
