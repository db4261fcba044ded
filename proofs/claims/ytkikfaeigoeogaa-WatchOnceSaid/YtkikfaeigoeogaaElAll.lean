/- The document's watch: all events of a prefix from a revision on, gone on to the end. -/
import Derived.Test.YtkikfaeigoeogaaElSince
namespace Go.Proofs.Ytkikfaeigoeogaa.P
open Go.RowKit Go.Sort
set_option maxHeartbeats 4000000
set_option linter.unusedVariables false
set_option linter.unusedSimpArgs false
set_option maxRecDepth 100000

theorem while_sorted (nx : Int) : ∀ l : List Ev, l.Pairwise (fun x y => x.rev ≤ y.rev) → l = (l.takeWhile fun x => decide (x.rev < nx)) ++ l.filter fun x => decide (nx ≤ x.rev)
  | [], _ => rfl
  | a :: r, h => by
    rw [List.pairwise_cons] at h
    by_cases ha : a.rev < nx
    · rw [List.takeWhile_cons_of_pos (by simpa using ha), List.filter_cons_of_neg (by simp; omega), List.cons_append, ← while_sorted nx r h.2]
    · rw [List.takeWhile_cons_of_neg (by simpa using ha), List.nil_append, eq_comm, List.filter_eq_self]
      intro x hx
      rcases List.mem_cons.1 hx with rfl | hx
      · simp; omega
      · have := h.1 x hx
        simp; omega
theorem flt_end {s : St} (h : MaySt s) (p : ByteArray) {nx : Int} (hn : s.rev < nx) : fltS s p nx = [] := by
  unfold fltS
  rw [List.filter_eq_nil_iff]
  intro e he
  have := (mayLog_in _ _ _ h.log e he).2
  simp
  intro h1
  omega
theorem since_ok {s : St} (h : MaySt s) (p : ByteArray) {rev : Int} {most : Nat} {out : List Ev} {nx : Int} (hr : rev ≤ s.rev + 1) (hm : 1 ≤ most) (e : sinceR s p rev most = (out, nx, 0)) :
    (nx ≤ s.rev → rev < nx) ∧ nx ≤ s.rev + 1 ∧ fltS s p rev = out ++ fltS s p nx := by
  unfold sinceR at e
  split at e
  · cases e
  · unfold sinceV at e
    split at e
    · cases e
      exact ⟨fun h => by omega, by omega, by rw [flt_end h p (show s.rev < s.rev + 1 by omega), List.append_nil]⟩
    · rename_i hle
      have hpw : (fltS s p rev).Pairwise fun x y => x.rev ≤ y.rev := h.sorted.filter _
      have hin : ∀ x ∈ fltS s p rev, rev ≤ x.rev ∧ x.rev ≤ s.rev := fun x hx => by
        obtain ⟨h1, h2⟩ := List.mem_filter.1 hx
        rw [Bool.and_eq_true, decide_eq_true_eq] at h2
        exact ⟨h2.1, (mayLog_in _ _ _ h.log x h1).2⟩
      cases he : (fltS s p rev)[most]? with
      | none => rw [he] at e; cases e
      | some x =>
        cases hf : (fltS s p rev)[0]? with
        | none => rw [he, hf] at e; cases e
        | some f =>
          rw [he, hf] at e
          simp only at e
          split at e
          · cases e
          · rename_i hne
            cases e
            have hx := hin x (List.mem_of_getElem? he)
            have hff := hin f (List.mem_of_getElem? hf)
            have hfx : f.rev ≤ x.rev := by
              obtain ⟨g1, rfl⟩ := List.getElem?_eq_some_iff.1 he
              obtain ⟨g2, rfl⟩ := List.getElem?_eq_some_iff.1 hf
              exact List.pairwise_iff_getElem.1 hpw 0 most g2 g1 (by omega)
            refine ⟨fun _ => by omega, by omega, ?_⟩
            conv => lhs; rw [while_sorted x.rev _ hpw]
            congr 1
            unfold fltS
            rw [List.filter_filter]
            congr 1
            funext y
            by_cases h1 : x.rev ≤ y.rev
            · simp [h1, show rev ≤ y.rev by omega]
            · simp [h1]
def AllEnd (l : List Ev) (w : World) (e : Ending) (w' : World) : Prop := ∃ B d o er, e = .returned (.tuple #[.slice B (o : List Ev).length d, .int .i64 er]) ∧ Evs w' B o.length d o ∧ (er = 0 → o = l) ∧ Below w.heap.size w w'
theorem all_ref (s : St) (A : Option Addr) (n c : Nat) (B : Option Addr) (m d : Nat) (p : ByteArray) (rev : Int) (w : World) (h : StAt w s A n c B m d) (hs : MaySt s) (hp : p.size ≤ maxLen) (h1 : 1 ≤ rev) (h2 : rev ≤ s.rev + 1) :
    Calls Try.prog 16 #[s.agg A n c B m d, .string p, .int .i64 rev, .int .i64 30] w (AllEnd (fltS s p rev) w) := by
  have hlog := hs.len
  have hmax := hs.max
  have hm : m ≤ 60 := by rw [← h.ev.len]; exact hlog
  have OKE := Lib.hid h.ev.ok
  have HS := Lib.hid hs
  have HP := Lib.hid hp
  have HLN := Lib.hid h.ev.len
  have H0 := Lib.hid (h.keep (new1 w (.cells (stCells s A n c B m d) 25)))
  have O0 := Lib.hid (own_new w (stCells s A n c B m d) 25)
  have B0 := Lib.hid (new1 w (.cells (stCells s A n c B m d) 25))
  have G0 : Hid (w.heap.size ≤ w.heap.size ∧ w.heap.size < (w.alloc (.cells (stCells s A n c B m d) 25)).heap.size) := Lib.hid ⟨Nat.le_refl _, by simp⟩
  clear h hp hs hlog
  go_enter Try.func16, Try.ntmps16
  go_upto_region 1 with fail
  generalize w.alloc (.cells (stCells s A n c B m d) 25) = w0 at *
  go_wp2
  go_loopw [2, 10] (fun rvv ov wr => ∃ (rv : Int) (X : Option Addr) (dX : Nat) (o : List Ev), rvv = .int .i64 rv ∧ ov = .slice X o.length dX ∧ ownG Ev.cells 8 43 wr w0.heap.size X o.length dX o ∧ 1 ≤ rv ∧ rv ≤ s.rev + 1 ∧ Hid (o ++ fltS s p rv = fltS s p rev) ∧ Below w0.heap.size w0 wr) (fun rvv _ _ => (s.rev + 1 - intOf rvv).toNat)
  case atStart => exact ⟨rev, none, 0, [], rfl, rfl, ownG_nil _ _ _ _ _, h1, h2, Lib.hid rfl, Below.refl _ _⟩
  case round =>
    rename World => wr
    obtain ⟨rv, X, dX, o, rfl, rfl, hX, g1, g2, HO, hb⟩ := hrel
    have XO := Lib.hid hX
    have BR := Lib.hid hb
    have OR := Lib.hid (O0.out.below hb)
    have HR := Lib.hid (H0.out.keep hb)
    have hol : o.length ≤ 60 := by
      have h3 := congrArg List.length HO.out
      rw [List.length_append] at h3
      have h4 : (fltS s p rev).length ≤ s.log.length := List.length_filter_le _ _
      rw [HLN.out] at h4
      omega
    have q0 := OR.out.cell 0 (.int .i64 s.rev) rfl
    have q1 := OR.out.cell 1 (.int .i64 s.low) rfl
    have q2 := OR.out.cell 2 (.slice A n c) rfl
    have q3 := OR.out.cell 3 (.slice B m d) rfl
    have cs := since_any s A n c B m d p rv 30 wr HR.out (by omega) HP.out hmax g1 g2 (by omega) (by omega)
    have OKS := Lib.hid (fun (out : List Ev) (nx : Int) (e : sinceR s p rv 30 = (out, nx, 0)) => since_ok HS.out p g2 (by omega) e)
    clear hX hb
    rcases hq : sinceR s p rv 30 with ⟨out, nx, er⟩
    rw [hq] at cs OKS
    clear hq
    unfold SinceEnd at cs
    simp only at cs
    go_wp2_with fail
    refine cs.mono ?_; rintro e w2 ⟨S, dS, rfl, hr, hok, hb⟩
    have RS := Lib.hid hr
    have OKO := Lib.hid hok
    have X2 := Lib.hid (ownG_keep XO.out hb)
    have B2 := Lib.hid (BR.out.trans (hb.mono BR.out.size))
    clear hr hok hb cs q0 q1 q2 q3 XO BR OR HR
    by_cases her : er = 0
    · subst her
      obtain ⟨k1, k2, k3⟩ := OKS.out out nx rfl
      have HNX := Lib.hid k1
      have hout : out.length ≤ 60 := by
        have h3 := congrArg List.length k3
        rw [List.length_append] at h3
        have h4 : (fltS s p rv).length ≤ s.log.length := List.length_filter_le _ _
        rw [HLN.out] at h4
        omega
      have HO2 : Hid ((o ++ out) ++ fltS s p nx = fltS s p rev) := Lib.hid (by rw [List.append_assoc, ← k3]; exact HO.out)
      clear k1 k3 OKS
      obtain ⟨X', dX', w4, hr4, ho4, hb4, _⟩ := app_ev w0.heap.size X o.length dX o w2 X2.out S out.length dS out RS.out (by omega) B2.out.size
      have B4 := Lib.hid (B2.out.trans hb4)
      have O4 := Lib.hid ho4
      have q0 := (O0.out.low B4.out (by have := G0.out; omega)).cell 0 (.int .i64 s.rev) rfl
      clear hb4 ho4 X2 B2 RS
      by_cases hnx : s.rev < nx
      · have hn1 : decide (s.rev < nx) = true := decide_eq_true hnx
        have HE : Hid (o ++ out = fltS s p rev) := Lib.hid (by have h3 := HO2.out; rwa [flt_end HS.out p hnx, List.append_nil] at h3)
        have EOK := Lib.hid (show ∀ x ∈ o ++ out, x.ok from fun x hx => by rw [HE.out] at hx; exact OKE.out x (List.mem_filter.1 hx).1)
        have HLE : Hid (o.length + out.length = (o ++ out).length) := Lib.hid List.length_append.symm
        have RW := Lib.hid (ev_of_rows (ownG_rows Ev.cells_len8 (by omega) O4.out) EOK.out)
        clear hnx
        go_wp2_with (at_builtin; refine wpList_append_eq _ rfl (.tmp 26) (.tmp 27) _ _ rfl _ _ rfl rfl hr4 ?_)
        refine bodyPost_ret (v := .tuple #[.slice X' (o.length + out.length) dX', .int .i64 0]) (by simp [results, Try.results16, go_sem]) rfl ⟨X', dX', o ++ out, 0, by rw [HLE.out], by rw [← HLE.out]; exact RW.out, fun _ => HE.out, B0.out.trans (B4.out.mono (by have := G0.out; omega))⟩
      · have hn1 : decide (s.rev < nx) = false := decide_eq_false hnx
        have hrv := HNX.out (by omega)
        go_wp2_with (at_builtin; refine wpList_append_eq _ rfl (.tmp 26) (.tmp 27) _ _ rfl _ _ rfl rfl hr4 ?_)
        go_roundw
        case rel => exact ⟨nx, X', dX', o ++ out, rfl, by rw [List.length_append], by rw [List.length_append]; exact O4.out, by omega, k2, HO2.out, B4.out⟩
        case measure => simp [intOf]; omega
    · have hne : (er != 0) = true := by simp [her]
      have HER := Lib.hid her
      clear her
      go_wp2
      refine bodyPost_ret (v := .tuple #[.slice none 0 0, .int .i64 er]) (by simp [results, Try.results16, go_sem]) rfl ⟨none, 0, [], er, rfl, evs_bare _, fun h => absurd h HER.out, B0.out.trans (B2.out.mono (by have := G0.out; omega))⟩
end Go.Proofs.Ytkikfaeigoeogaa.P
