/- Layer 20: whether a resource may be, the program's way and the document's. -/
import Derived.Test.YtimbklggifbibaaGreatDoorFeWr
namespace Go.Proofs.YtimbklggifbibaaGreatDoor.P
open Go.RowKit Go.Sort
set_option maxHeartbeats 1000000
set_option linter.unusedVariables false
set_option linter.unusedSimpArgs false
set_option maxRecDepth 100000

theorem Own.set3 {w : World} {g : Nat} {t : TypeId} {a0 a1 a2 v0 v1 v2 : Value} (h : Own w g t #[a0, a1, a2]) : Own (((w.setCell ⟨g, 0, none⟩ v0).setCell ⟨g, 1, none⟩ v1).setCell ⟨g, 2, none⟩ v2) g t #[v0, v1, v2] := ((h.set 0 v0).set 1 v1).set 2 v2
theorem Own.far3 {w : World} {g k : Nat} {t : TypeId} {cs : Array Value} (h : Own w g t cs) (hne : g ≠ k) (v0 v1 v2 : Value) : Own (((w.setCell ⟨k, 0, none⟩ v0).setCell ⟨k, 1, none⟩ v1).setCell ⟨k, 2, none⟩ v2) g t cs := ((h.far hne 0 v0).far hne 1 v1).far hne 2 v2
theorem may_any (r : Rs) (A : Option Addr) (n c : Nat) (s : Nat → Addr) (w : World) (h : RsAt w r A n c) (hS : Sents w s) :
    Calls Tryz.prog 15 #[r.agg A n c] w fun e w' => e = .returned (.bool (mayR r)) ∧ Below w.heap.size w w' := by
  have b1 := new1 w (.cells (r.arr A n c) 24)
  have O1 := Lib.hid ((own_new w (r.arr A n c) 24).alloc (.cells zRs 24))
  have O2 := Lib.hid (own_nxt w (.cells (r.arr A n c) 24) zRs 24)
  have B2 := Lib.hid (then_ b1 (new1 (w.alloc (.cells (r.arr A n c) 24)) (.cells zRs 24)))
  have H := Lib.hid h
  have S := Lib.hid hS
  have HL := Lib.hid h.len
  have hmax := Nat.le_trans h.log.row.le h.log.row.max
  unfold maxLen at hmax
  have r2 := O1.out.cell 2 _ rfl
  clear h hS b1
  obtain ⟨hi, va, l⟩ := r
  have HLl : Hid (l.length = n) := HL
  go_enter Tryz.func15, Tryz.ntmps15
  go_wp2
  go_loopw [11] (fun i wr => ∃ (j : Nat) (st : Rs) (A2 : Option Addr) (n2 c2 : Nat), j ≤ n ∧ i = .int .i64 j ∧ GoTo l j st ∧ Own wr w.heap.size 24 #[.int .i64 hi, .string va, .slice A n c] ∧ Own wr (w.heap.size + 1) 24 (st.arr A2 n2 c2) ∧ RsAt wr st A2 n2 c2 ∧ Below w.heap.size w wr) (fun i _ => n - (intOf i).toNat)
  case atStart => exact ⟨0, zeroRs, none, 0, 0, Nat.zero_le _, rfl, GoTo.zero l, O1.out, O2.out, rz_at _, B2.out⟩
  case round =>
    obtain ⟨j, st, A2, n2, c2, hj, rfl, hgo, o1, o2, hat, hbel⟩ := hrel
    have G := Lib.hid hgo; have P1 := Lib.hid o1; have P2 := Lib.hid o2; have T := Lib.hid hat; have B := Lib.hid hbel
    clear hgo o1 o2 hat hbel
    by_cases hlt : j < n
    · obtain ⟨a, x, rfl, hbl, hx, hc⟩ := (H.out.log.keep B.out).at_ hlt
      obtain ⟨c0, c1, c3⟩ := hc
      have HX := Lib.hid hx
      clear hx hbl
      have BN := Lib.hid (new1 wr (.cells x.arr 46))
      have BW := Lib.hid (B.out.trans (BN.out.mono B.out.size))
      have cW := Lib.hid (write_any st A2 n2 c2 x s (wr.alloc (.cells x.arr 46)) (T.out.keep BN.out) (S.out.keep BW.out))
      have k0 := (P2.out.alloc (.cells x.arr 46)).cell 0 _ rfl
      have k1 := (P2.out.alloc (.cells x.arr 46)).cell 1 _ rfl
      have k2 := (P2.out.alloc (.cells x.arr 46)).cell 2 _ rfl
      by_cases he : wrE st x = 0
      · have HM := Lib.hid (G.out.more HX.out he)
        have HW := Lib.hid (wr_ok he)
        rw [he] at cW
        clear he
        generalize wrR st x = st2 at *
        go_wp2_with fail
        refine cW.out.mono ?_; rintro e w1 ⟨A3, n3, c4, rfl, hat, hb, hf, _⟩
        have T3 := Lib.hid hat
        have F3 := Lib.hid (hf rfl)
        have BB := Lib.hid (BW.out.trans (hb.mono BW.out.size))
        have Q1 := Lib.hid (((P1.out.alloc (.cells x.arr 46)).bel hb).alloc (.cells (st2.arr A3 n3 c4) 24))
        have Q2 := Lib.hid (((P2.out.alloc (.cells x.arr 46)).bel hb).alloc (.cells (st2.arr A3 n3 c4) 24))
        have HS := Lib.hid (P2.out.alloc (.cells x.arr 46)).lt
        clear hat hf k0 k1 k2 hb
        have f := Q2.out.frozen
        have k0 := Q2.out.cell 0 _ rfl
        have k1 := Q2.out.cell 1 _ rfl
        have k2 := Q2.out.cell 2 _ rfl
        go_wp2
        go_roundw
        case rel =>
          have hne : ∀ a, A3 = some a → a.block ≠ w.heap.size + 1 := fun a ha hh => by have h1 := F3.out a ha; have h2 := HS.out; omega
          have B5 := BB.out.trans ((new1 w1 (.cells (st2.arr A3 n3 c4) 24)).mono BB.out.size)
          exact ⟨j + 1, st2, A3, n3, c4, by omega, by go_num, HM.out, Q1.out.far3 (by omega) _ _ _, Q2.out.set3, ⟨T3.out.high, T3.out.val, (T3.out.log.keep (new1 w1 _)).other3 _ _ _ _ hne⟩, below_set3 B5 (Nat.le_succ _) _ _ _⟩
        case measure => simp [intOf]; omega
      · have HF := Lib.hid (G.out.bad HX.out he (r := ⟨hi, va, l⟩) rfl)
        generalize wrE st x = er at *
        go_wp2_with fail
        refine cW.out.mono ?_; rintro e w1 ⟨A3, n3, c4, rfl, hat, hb, hf, _⟩
        have BB := Lib.hid (BW.out.trans (hb.mono BW.out.size))
        clear hat hf k0 k1 k2 hb
        go_wp2
        go_ret
        exact ⟨retB' HF.out.symm, BB.out.trans ((new1 w1 _).mono BB.out.size)⟩
    · obtain rfl : j = n := by omega
      have HF := Lib.hid (GoTo.done (r := ⟨hi, va, l⟩) (s := st) (by rw [HLl.out]; exact G.out) rfl)
      have p0 := P1.out.cell 0 _ rfl
      have p1 := P1.out.cell 1 _ rfl
      have k0 := P2.out.cell 0 _ rfl
      have k1 := P2.out.cell 1 _ rfl
      obtain ⟨hs, vs, ls⟩ := st
      by_cases h1 : hi = hs
      · subst h1
        by_cases h2 : va = vs
        · subst h2
          have HV : Hid (mayR ⟨hi, va, l⟩ = true) := Lib.hid (by rw [HF.out]; simp)
          go_wp2
          go_ret
          exact ⟨retB' HV.out.symm, B.out⟩
        · have HV : Hid (mayR ⟨hi, va, l⟩ = false) := Lib.hid (by rw [HF.out]; simp [h2])
          have h3 : ¬ va.toList = vs.toList := fun e => h2 (bytes_ext e)
          have H3 := Lib.hid h3
          clear h2
          go_wp2
          go_ret
          exact ⟨retB' (by rw [HV.out]; exact beq_eq_false_iff_ne.2 H3.out), B.out⟩
      · have HV : Hid (mayR ⟨hi, va, l⟩ = false) := Lib.hid (by rw [HF.out]; simp [h1])
        go_wp2
        go_ret
        exact ⟨retB' HV.out.symm, B.out⟩
theorem UpTo.more {l : List Ac} {k : Nat} {x : Ac} (h : UpTo l k) (hx : l[k]? = some x) (h1 : oneB x = true) (h2 : ∀ i y, k = i + 1 → l[i]? = some y → y.tok ≤ x.tok) : UpTo l (k + 1) := by
  constructor
  · intro i y hi hy
    by_cases hik : i = k
    · subst hik; rw [hx] at hy; have := Option.some.inj hy; subst this; exact h1
    · exact h.one i y (by omega) hy
  · intro i y z hi hy hz
    by_cases hik : i + 1 = k
    · rw [hik, hx] at hz; have := Option.some.inj hz; subst this; exact h2 i y hik.symm hy
    · exact h.up i y z (by omega) hy hz
theorem AtA.low {w w' : World} {p : Addr} {x : Ac} {B : Nat} (h : AtA w p x) (hb : Below B w w') (hp : p.block < B) : AtA w' p x :=
  ⟨(hb.cell (p := p) hp).trans h.c0, (hb.cell (p := ⟨p.block, p.off + 1, none⟩) hp).trans h.c1, (hb.cell (p := ⟨p.block, p.off + 2, none⟩) hp).trans h.c2⟩
end Go.Proofs.YtimbklggifbibaaGreatDoor.P
