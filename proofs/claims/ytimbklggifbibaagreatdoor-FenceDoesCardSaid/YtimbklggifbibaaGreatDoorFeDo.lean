/- Layer 20: the write that bytes ask for, and what comes of it. -/
import Derived.Test.YtimbklggifbibaaGreatDoorFeWr
import Derived.Test.YtimbklggifbibaaGreatDoorWireAsked
import Derived.Laws.CopyOwn
import Derived.Lib.BufferOwn
namespace Go.Proofs.YtimbklggifbibaaGreatDoor.P
open Go.RowKit Go.Sort
set_option maxHeartbeats 1000000
set_option linter.unusedVariables false
set_option linter.unusedSimpArgs false
set_option maxRecDepth 100000

abbrev zeroAc : Ac := ⟨0, 0, ⟨#[]⟩⟩
/-- The write that bytes ask for. -/
def wofB (s : ByteArray) : Option Ac := if (askedV s).2 = true ∧ (askedV s).1.kind = 8 then some ⟨(askedV s).1.who, (askedV s).1.token, (askedV s).1.val⟩ else none
structure WofIs (s : ByteArray) (o : Option Ac) : Prop where
  eq : wofB s = o
structure AskIs (s : ByteArray) (y : Rq) (b : Bool) : Prop where
  eq : askedV s = (y, b)
structure WofBy (s : ByteArray) (y : Rq) (b : Bool) : Prop where
  yes : b = true ∧ y.kind = 8 → WofIs s (some ⟨y.who, y.token, y.val⟩)
  no : ¬ (b = true ∧ y.kind = 8) → WofIs s none
def doE (r : Rs) (s : ByteArray) : Int := match wofB s with | some x => wrE r x | none => 3
def doRs (r : Rs) (s : ByteArray) : Rs := match wofB s with | some x => wrR r x | none => r
structure DoIs (r : Rs) (s : ByteArray) (r2 : Rs) (er : Int) : Prop where
  st : doRs r s = r2
  no : doE r s = er
theorem do_some {r : Rs} {s : ByteArray} {x : Ac} (h : wofB s = some x) : doE r s = wrE r x ∧ doRs r s = wrR r x := by unfold doE doRs; rw [h]; exact ⟨rfl, rfl⟩
theorem do_none {r : Rs} {s : ByteArray} (h : wofB s = none) : doE r s = 3 ∧ doRs r s = r := by unfold doE doRs; rw [h]; exact ⟨rfl, rfl⟩
def WofEnd (t : Nat → Addr) (s : ByteArray) (w : World) (e : Ending) (w' : World) : Prop :=
  ((∃ x, wofB s = some x ∧ e = .returned (.tuple #[x.agg, .nilIface])) ∨ (wofB s = none ∧ ∃ of_, e = .returned (.tuple #[zeroAc.agg, faultV of_ (t 3)]))) ∧ Below w.heap.size w w'
theorem fe_row {w : World} {g : Nat} {t : TypeId} {cs : Array Value} (h : Own w g t cs) (new : Array Value) : Own (w.setRow g new) g t new := ⟨by
  have := h.ex; simp [World.setRow, Array.getElem?_modify, this]⟩
abbrev zRq : Array Value := #[.int .i64 0, .int .i64 0, .int .i64 0, .bool false, .string ⟨#[]⟩, .string ⟨#[]⟩, .int .i64 0, .int .i64 0, .int .i64 0, .int .i64 0, .slice none 0 0, .slice none 0 0, .slice none 0 0]
abbrev Rq.arr (y : Rq) (A0 : Option Addr) (n0 c0 : Nat) (A1 : Option Addr) (n1 c1 : Nat) (A2 : Option Addr) (n2 c2 : Nat) : Array Value := #[.int .i64 y.kind, .int .i64 y.who, .int .i64 y.seq, .bool y.once, .string y.key, .string y.val, .int .i64 y.lease, .int .i64 y.rev, .int .i64 y.ttl, .int .i64 y.token, .slice A0 n0 c0, .slice A1 n1 c1, .slice A2 n2 c2]
theorem writeOf_any (s : ByteArray) (t : Nat → Addr) (w : World) (hs : s.size ≤ 1000000) (hS : Sents w t) :
    Calls Tryz.prog 16 #[.string s] w (WofEnd t s w) := by
  have O := Lib.hid (own_new w #[.int .i64 0, .int .i64 0, .string ⟨#[]⟩] 46)
  have BN := Lib.hid (new1 w (.cells #[.int .i64 0, .int .i64 0, .string ⟨#[]⟩] 46))
  have S := Lib.hid hS
  have m3 : ¬ 0 = w.heap.size := by have := hS.lt; omega
  have m4 : ¬ w.heap.size = 0 := by have := hS.lt; omega
  have cA := Lib.hid (asked_any s (w.alloc (.cells #[.int .i64 0, .int .i64 0, .string ⟨#[]⟩] 46)) hs)
  clear hS
  obtain ⟨y, b, hv⟩ : ∃ y b, askedV s = (y, b) := ⟨(askedV s).1, (askedV s).2, (Prod.eta (askedV s)).symm⟩
  have HB : WofBy s y b := ⟨fun h => ⟨by unfold wofB; rw [hv]; exact if_pos h⟩, fun h => ⟨by unfold wofB; rw [hv]; exact if_neg h⟩⟩
  have cA : Hid (Calls Tryz.prog 28 #[.string s] (w.alloc (.cells #[.int .i64 0, .int .i64 0, .string ⟨#[]⟩] 46)) fun e w' => ∃ A0 n0 c0 A1 n1 c1 A2 n2 c2, e = .returned (.tuple #[y.agg A0 n0 c0 A1 n1 c1 A2 n2 c2, .bool b]) ∧ Below (w.alloc (.cells #[.int .i64 0, .int .i64 0, .string ⟨#[]⟩] 46)).heap.size (w.alloc (.cells #[.int .i64 0, .int .i64 0, .string ⟨#[]⟩] 46)) w') := Lib.hid (cA.out.mono fun e w' h => by
    obtain ⟨A0, n0, c0, A1, n1, c1, A2, n2, c2, he, ha, hb⟩ := h
    rw [hv] at he
    exact ⟨A0, n0, c0, A1, n1, c1, A2, n2, c2, he, hb⟩)
  clear hv
  obtain ⟨yk, yw, ysq, yo, ykey, yval, yl, yr, yt, ytok, yi, yth, ye⟩ := y
  cases b with
  | false =>
    have HF := HB.no (fun h => by simp at h)
    go_enter Tryz.func16, Tryz.ntmps16
    go_wp2_with fail
    refine cA.out.mono ?_
    rintro e w1 ⟨A0, n0, c0, A1, n1, c1, A2, n2, c2, rfl, hb⟩
    have B1 := Lib.hid (then_ BN.out hb)
    have bz := below_setRow (new1 w1 (.cells zRq 43)) (Nat.le_refl _) #[.int .i64 yk, .int .i64 yw, .int .i64 ysq, .bool yo, .string ykey, .string yval, .int .i64 yl, .int .i64 yr, .int .i64 yt, .int .i64 ytok, .slice A0 n0 c0, .slice A1 n1 c1, .slice A2 n2 c2]
    have N_ := Lib.hid (own_new w1 zRq 43)
    have B2 := Lib.hid (then_ B1.out bz)
    have O2 := Lib.hid ((O.out.bel hb).bel bz)
    have S2 := Lib.hid (S.out.keep B2.out)
    have Q2 := Lib.hid (fe_row N_.out #[.int .i64 yk, .int .i64 yw, .int .i64 ysq, .bool yo, .string ykey, .string yval, .int .i64 yl, .int .i64 yr, .int .i64 yt, .int .i64 ytok, .slice A0 n0 c0, .slice A1 n1 c1, .slice A2 n2 c2])
    clear hb bz
    have g3 := S2.out.g3
    have f := O2.out.frozen
    have r0 := O2.out.cell 0 _ rfl
    have r1 := O2.out.cell 1 _ rfl
    have r2 := O2.out.cell 2 _ rfl
    have hlt := O2.out.lt
    have q0 := Q2.out.cell 0 _ rfl
    have q1 := Q2.out.cell 1 _ rfl
    have q5 := Q2.out.cell 5 _ rfl
    have q9 := Q2.out.cell 9 _ rfl
    go_wp2_with (refine wpList_store_row rfl 43 _ _ rfl _ _ rfl rfl 43 _ N_.out.ex (by kernel_rfl) rfl (by simp [Value.oneCell']) ?_)
    clear N_
    generalize (w1.alloc (.cells zRq 43)).setRow w1.heap.size #[.int .i64 yk, .int .i64 yw, .int .i64 ysq, .bool yo, .string ykey, .string yval, .int .i64 yl, .int .i64 yr, .int .i64 yt, .int .i64 ytok, .slice A0 n0 c0, .slice A1 n1 c1, .slice A2 n2 c2] = W2 at *
    generalize w1.heap.size = g2 at *
    go_wp2
    go_region
    all_goals
      go_wp2
      exact bodyPost_ret (v := .tuple #[.agg #[.int .i64 0, .int .i64 0, .string ⟨#[]⟩], faultV ⟨#[98, 111, 100, 121]⟩ (t 3)]) (by simp [results, Tryz.results16, go_sem, hlt, r0, r1, r2]) rfl
        ⟨.inr ⟨HF.eq, _, rfl⟩, (below_set3 B2.out (Nat.le_refl _) _ _ _).drew⟩
  | true =>
    by_cases hk : yk = 8
    · subst hk
      have HF := HB.yes ⟨rfl, rfl⟩
      go_enter Tryz.func16, Tryz.ntmps16
      go_wp2_with fail
      refine cA.out.mono ?_
      rintro e w1 ⟨A0, n0, c0, A1, n1, c1, A2, n2, c2, rfl, hb⟩
      have B1 := Lib.hid (then_ BN.out hb)
      have bz := below_setRow (new1 w1 (.cells zRq 43)) (Nat.le_refl _) #[.int .i64 8, .int .i64 yw, .int .i64 ysq, .bool yo, .string ykey, .string yval, .int .i64 yl, .int .i64 yr, .int .i64 yt, .int .i64 ytok, .slice A0 n0 c0, .slice A1 n1 c1, .slice A2 n2 c2]
      have N_ := Lib.hid (own_new w1 zRq 43)
      have B2 := Lib.hid (then_ B1.out bz)
      have O2 := Lib.hid ((O.out.bel hb).bel bz)
      have S2 := Lib.hid (S.out.keep B2.out)
      have Q2 := Lib.hid (fe_row N_.out #[.int .i64 8, .int .i64 yw, .int .i64 ysq, .bool yo, .string ykey, .string yval, .int .i64 yl, .int .i64 yr, .int .i64 yt, .int .i64 ytok, .slice A0 n0 c0, .slice A1 n1 c1, .slice A2 n2 c2])
      clear hb bz
      have g3 := S2.out.g3
      have f := O2.out.frozen
      have r0 := O2.out.cell 0 _ rfl
      have r1 := O2.out.cell 1 _ rfl
      have r2 := O2.out.cell 2 _ rfl
      have hlt := O2.out.lt
      have q0 := Q2.out.cell 0 _ rfl
      have q1 := Q2.out.cell 1 _ rfl
      have q5 := Q2.out.cell 5 _ rfl
      have q9 := Q2.out.cell 9 _ rfl
      go_wp2_with (refine wpList_store_row rfl 43 _ _ rfl _ _ rfl rfl 43 _ N_.out.ex (by kernel_rfl) rfl (by simp [Value.oneCell']) ?_)
      clear N_
      generalize (w1.alloc (.cells zRq 43)).setRow w1.heap.size #[.int .i64 8, .int .i64 yw, .int .i64 ysq, .bool yo, .string ykey, .string yval, .int .i64 yl, .int .i64 yr, .int .i64 yt, .int .i64 ytok, .slice A0 n0 c0, .slice A1 n1 c1, .slice A2 n2 c2] = W2 at *
      generalize w1.heap.size = g2 at *
      clear q0
      go_wp2
      exact bodyPost_ret (v := .tuple #[.agg #[.int .i64 yw, .int .i64 ytok, .string yval], .nilIface]) (by simp [results, Tryz.results16, go_sem, hlt, r0, r1, r2]) rfl
        ⟨.inl ⟨⟨yw, ytok, yval⟩, HF.eq, rfl⟩, below_set3 B2.out (Nat.le_refl _) _ _ _⟩
    · have HF := HB.no (fun h => hk h.2)
      go_enter Tryz.func16, Tryz.ntmps16
      go_wp2_with fail
      refine cA.out.mono ?_
      rintro e w1 ⟨A0, n0, c0, A1, n1, c1, A2, n2, c2, rfl, hb⟩
      have B1 := Lib.hid (then_ BN.out hb)
      have bz := below_setRow (new1 w1 (.cells zRq 43)) (Nat.le_refl _) #[.int .i64 yk, .int .i64 yw, .int .i64 ysq, .bool yo, .string ykey, .string yval, .int .i64 yl, .int .i64 yr, .int .i64 yt, .int .i64 ytok, .slice A0 n0 c0, .slice A1 n1 c1, .slice A2 n2 c2]
      have N_ := Lib.hid (own_new w1 zRq 43)
      have B2 := Lib.hid (then_ B1.out bz)
      have O2 := Lib.hid ((O.out.bel hb).bel bz)
      have S2 := Lib.hid (S.out.keep B2.out)
      have Q2 := Lib.hid (fe_row N_.out #[.int .i64 yk, .int .i64 yw, .int .i64 ysq, .bool yo, .string ykey, .string yval, .int .i64 yl, .int .i64 yr, .int .i64 yt, .int .i64 ytok, .slice A0 n0 c0, .slice A1 n1 c1, .slice A2 n2 c2])
      clear hb bz
      have g3 := S2.out.g3
      have f := O2.out.frozen
      have r0 := O2.out.cell 0 _ rfl
      have r1 := O2.out.cell 1 _ rfl
      have r2 := O2.out.cell 2 _ rfl
      have hlt := O2.out.lt
      have q0 := Q2.out.cell 0 _ rfl
      have q1 := Q2.out.cell 1 _ rfl
      have q5 := Q2.out.cell 5 _ rfl
      have q9 := Q2.out.cell 9 _ rfl
      go_wp2_with (refine wpList_store_row rfl 43 _ _ rfl _ _ rfl rfl 43 _ N_.out.ex (by kernel_rfl) rfl (by simp [Value.oneCell']) ?_)
      clear N_
      generalize (w1.alloc (.cells zRq 43)).setRow w1.heap.size #[.int .i64 yk, .int .i64 yw, .int .i64 ysq, .bool yo, .string ykey, .string yval, .int .i64 yl, .int .i64 yr, .int .i64 yt, .int .i64 ytok, .slice A0 n0 c0, .slice A1 n1 c1, .slice A2 n2 c2] = W2 at *
      generalize w1.heap.size = g2 at *
      go_wp2
      go_region
      all_goals
      go_wp2
      exact bodyPost_ret (v := .tuple #[.agg #[.int .i64 0, .int .i64 0, .string ⟨#[]⟩], faultV ⟨#[98, 111, 100, 121]⟩ (t 3)]) (by simp [results, Tryz.results16, go_sem, hlt, r0, r1, r2]) rfl
        ⟨.inr ⟨HF.eq, _, rfl⟩, (below_set3 B2.out (Nat.le_refl _) _ _ _).drew⟩
theorem do_any (r : Rs) (A : Option Addr) (n c : Nat) (b : ByteArray) (s : Nat → Addr) (w : World) (h : RsAt w r A n c) (hS : Sents w s) (hb : b.size ≤ 1000000) :
    Calls Tryz.prog 5 #[r.agg A n c, .string b] w (RsEnd (doRs r b) (doE r b) A n c w) := by
  obtain ⟨W1, hW1⟩ : ∃ W1, W1 = w.alloc (.cells (r.arr A n c) 24) := ⟨_, rfl⟩
  obtain ⟨W2, hW2⟩ : ∃ W2, W2 = W1.alloc (.cells zRs 24) := ⟨_, rfl⟩
  have s1 : W1.heap.size = w.heap.size + 1 := by rw [hW1]; simp
  have s2 : W2.heap.size = w.heap.size + 2 := by rw [hW2]; simp [s1]
  have b1 : Below w.heap.size w W1 := by rw [hW1]; exact new1 w _
  have b2 : Below w.heap.size w W2 := by rw [hW2]; exact then_ b1 (new1 W1 _)
  have O4 : Own W2 w.heap.size 24 (r.arr A n c) := by rw [hW2, hW1]; exact (own_new w _ _).alloc _
  have O8 : Own W2 (w.heap.size + 1) 24 zRs := by rw [hW2]; have := own_new W1 zRs 24; rwa [s1] at this
  have cW := Lib.hid (writeOf_any b s W2 hb (hS.keep b2))
  have B2 := Lib.hid b2
  have P4 := Lib.hid O4; have P8 := Lib.hid O8
  have H := Lib.hid h
  have S := Lib.hid hS
  clear h hS O4 O8 b1 b2 s1 s2
  subst hW1
  go_enter Tryz.func5, Tryz.ntmps5
  go_wp2_with (rw [← hW2])
  clear hW2
  refine cW.out.mono ?_
  rintro e w1 ⟨⟨x, hx, rfl⟩ | ⟨hx, of_, rfl⟩, hb⟩
  · have HE : WofIs b (some x) := ⟨hx⟩
    have DI : DoIs r b (wrR r x) (wrE r x) := ⟨(do_some hx).2, (do_some hx).1⟩
    clear hx
    have BB := Lib.hid (B2.out.trans (hb.mono B2.out.size))
    have P4' := Lib.hid (P4.out.bel hb)
    have P8' := Lib.hid (P8.out.bel hb)
    have bN := new1 w1 (.cells x.arr 46)
    have BV := Lib.hid (BB.out.trans (bN.mono BB.out.size))
    have P4x := Lib.hid (P4'.out.bel bN)
    have P8x := Lib.hid (P8'.out.bel bN)
    have cX := Lib.hid (write_any r A n c x s (w1.alloc (.cells x.arr 46)) (H.out.keep BV.out) (S.out.keep BV.out))
    have q0 := P4x.out.cell 0 _ rfl
    have q1 := P4x.out.cell 1 _ rfl
    have q2 := P4x.out.cell 2 _ rfl
    clear hb bN
    go_wp2_with fail
    refine cX.out.mono ?_
    rintro e w2 ⟨A2, n2, c2, rfl, hat, hb, hf, ho⟩
    have OLD := Lib.hid ho
    have T := Lib.hid hat
    have F := Lib.hid hf
    have P8y := Lib.hid (P8x.out.bel hb)
    have BZ := Lib.hid (BV.out.trans (hb.mono BV.out.size))
    have hsz : Hid (w.heap.size + 1 < w1.heap.size) := Lib.hid P8'.out.lt
    have HV := Lib.hid (new1 w1 (.cells x.arr 46)).size
    have HR := Lib.hid (H.out.keep BZ.out)
    clear hat hf hb ho q0 q1 q2
    have f := P8y.out.frozen
    have r0 := P8y.out.cell 0 _ rfl
    have r1 := P8y.out.cell 1 _ rfl
    have r2 := P8y.out.cell 2 _ rfl
    have hlt := P8y.out.lt
    have ER : Hid (wrE r x ≠ 0 → wrR r x = r) := Lib.hid wr_err
    generalize wrR r x = r9 at *
    generalize wrE r x = er at *
    go_wp2
    have FR : er = 0 → ∀ a, A2 = some a → w.heap.size ≤ a.block ∧ a.block ≠ w.heap.size + 1 := fun h0 a ha => by
      have h1 := F.out h0 a ha
      have h2 := hsz.out
      have h3 := HV.out
      exact ⟨by omega, by omega⟩
    have BF := below_set3 BZ.out (Nat.le_succ _) (.int .i64 r9.high) (.string r9.val) (.slice A2 n2 c2)
    have AT : RsAt (((w2.setCell ⟨w.heap.size + 1, 0, none⟩ (.int .i64 r9.high)).setCell ⟨w.heap.size + 1, 1, none⟩ (.string r9.val)).setCell ⟨w.heap.size + 1, 2, none⟩ (.slice A2 n2 c2)) r9 A2 n2 c2 := by
      by_cases h0 : er = 0
      · exact ⟨T.out.high, T.out.val, T.out.log.other3 _ _ _ _ (fun a ha => (FR h0 a ha).2)⟩
      · obtain ⟨rfl, rfl, rfl⟩ := OLD.out h0
        have hr := ER.out h0
        rw [hr]
        exact H.out.keep (by rw [hr] at BF; exact BF)
    exact bodyPost_ret (v := .tuple #[r9.agg A2 n2 c2, .int .i64 er]) (by simp [results, Tryz.results5, go_sem, hlt, r0, r1, r2]) rfl
      (RsEnd.mk DI.st DI.no rfl AT BF (fun h0 a ha => (FR h0 a ha).1) (fun h0 => OLD.out h0))
  · have HE : WofIs b none := ⟨hx⟩
    have DI : DoIs r b r 3 := ⟨(do_none hx).2, (do_none hx).1⟩
    clear hx
    have BB := Lib.hid (B2.out.trans (hb.mono B2.out.size))
    have P4' := Lib.hid (P4.out.bel hb)
    have P8' := Lib.hid (P8.out.bel hb)
    have bN := new1 w1 (.cells zeroAc.arr 46)
    have BV := Lib.hid (BB.out.trans (bN.mono BB.out.size))
    have P4x := Lib.hid (P4'.out.bel bN)
    have P8x := Lib.hid (P8'.out.bel bN)
    have S1 := Lib.hid (S.out.keep BV.out)
    obtain ⟨V, hV⟩ : ∃ V, V = w1.alloc (.cells zeroAc.arr 46) := ⟨_, rfl⟩
    rw [← hV] at P4x P8x S1 BV
    have q0 := P4x.out.cell 0 _ rfl
    have q1 := P4x.out.cell 1 _ rfl
    have q2 := P4x.out.cell 2 _ rfl
    clear hb bN
    go_wp2
    rw [← hV]
    clear hV
    go_region_held3 (fun w' => w'.cell? ⟨w.heap.size, 0, none⟩ = some (.int .i64 r.high) ∧ w'.cell? ⟨w.heap.size, 1, none⟩ = some (.string r.val) ∧ w'.cell? ⟨w.heap.size, 2, none⟩ = some (.slice A n c)) (go_keep) (first
      | (go_at_call 17; (with_reducible refine (numberOf_any of_ 3 (by omega) s _ (S1.out.keep (new_drew V))).mono ?_); rintro e V1 ⟨rfl, hb⟩; have B5 := Lib.hid (then_ (new_drew V) hb); clear hb; have P4y := Lib.hid (P4x.out.bel B5.out); have P8y := Lib.hid (P8x.out.bel B5.out); have f := P8y.out.frozen; have r0 := P8y.out.cell 0 _ rfl; have r1 := P8y.out.cell 1 _ rfl; have r2 := P8y.out.cell 2 _ rfl; have hlt := P8y.out.lt; clear q0 q1 q2; have q0 := P4y.out.cell 0 _ rfl; have q1 := P4y.out.cell 1 _ rfl; have q2 := P4y.out.cell 2 _ rfl))
    go_wp2
    all_goals
      exact bodyPost_ret (v := .tuple #[r.agg A n c, .int .i64 (codeS 3)]) (by simp [results, Tryz.results5, go_sem, hlt, r0, r1, r2]) rfl
        (RsEnd.mk DI.st DI.no rfl (H.out.keep (below_set3 (BV.out.trans (B5.out.mono BV.out.size)) (Nat.le_succ _) _ _ _)) (below_set3 (BV.out.trans (B5.out.mono BV.out.size)) (Nat.le_succ _) _ _ _) (absurd_num (by decide)) (fun _ => ⟨rfl, rfl, rfl⟩))
end Go.Proofs.YtimbklggifbibaaGreatDoor.P
