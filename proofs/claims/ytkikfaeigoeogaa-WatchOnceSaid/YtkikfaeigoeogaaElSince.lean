/- The document's watch: the events of a prefix from a revision on, few at a time; all of them. -/
import Derived.Test.YtkikfaeigoeogaaMgMm
import Derived.Test.YtkikfaeigoeogaaKvRows
import Derived.Test.YtkikfaeigoeogaaWaPure
import Derived.Test.YtkikfaeigoeogaaKvFrom
import Derived.Deep.CutBlock
import Derived.Deep.DeepCutAuto
import Derived.Deep.CutRange
import Derived.Test.YtkikfaeigoeogaaGenApp
import Derived.BigQuiet
namespace Go.Proofs.Ytkikfaeigoeogaa.P
open Go.RowKit Go.Sort
set_option maxHeartbeats 4000000
set_option linter.unusedVariables false
set_option linter.unusedSimpArgs false
set_option maxRecDepth 100000

theorem beginsr_any (k p : ByteArray) (w : World) (hm : k.size ≤ maxLen) (hm2 : p.size ≤ maxLen) :
    Calls Try.prog 31 #[.string k, .string p] w fun e w' => e = .returned (.bool (begins p k)) ∧ w = w' := by
  unfold maxLen at hm hm2
  have hk1 : (k.size : Int) ≤ 9223372036854775807 := by omega
  have hp1 : (p.size : Int) ≤ 9223372036854775807 := by omega
  by_cases h : p.size ≤ k.size
  · have HB := Lib.hid (begins_fit p k)
    have h1 : decide ((p.size : Int) ≤ (k.size : Int)) = true := decide_eq_true (by omega)
    cases hb : begins p k with
    | true =>
      have he : ((k.extract 0 p.size).toList == p.toList) = true := by rw [← HB.out, hb]
      clear hb
      go_enter Try.func31, Try.ntmps31
      go_wp2
      go_ret
      exact ⟨rfl, rfl⟩
    | false =>
      have he : ((k.extract 0 p.size).toList == p.toList) = false := by rw [← HB.out, hb]
      clear hb
      go_enter Try.func31, Try.ntmps31
      go_wp2
      go_ret
      exact ⟨rfl, rfl⟩
  · rw [begins_long (by omega)]
    have h1 : decide ((p.size : Int) ≤ (k.size : Int)) = false := decide_eq_false (by omega)
    go_enter Try.func31, Try.ntmps31
    go_wp2
    go_ret
    exact ⟨rfl, rfl⟩
theorem Ev.cells_len8 (x : Ev) : x.cells.length = 8 := rfl
theorem ev_one {x : Ev} : ∀ v ∈ x.cells, v.oneCell' = true := fun v hv => by simp [Ev.cells] at hv; rcases hv with rfl | rfl | rfl | rfl | rfl | rfl | rfl | rfl <;> rfl
theorem ev_infoR : (Try.prog.info? 43).map (fun i => (i.zero, i.size, i.bytes)) = some (some (.agg #[.int .i64 0, .bool false, .string ⟨#[]⟩, .string ⟨#[]⟩, .int .i64 0, .int .i64 0, .int .i64 0, .int .i64 0]), 8, 80) := by kernel_rfl
theorem info_partsS {P : Program} {t : TypeId} {z : Value} {s b : Nat} (h : (P.info? t).map (fun i => (i.zero, i.size, i.bytes)) = some (some z, s, b)) : ∃ i0, P.info? t = some i0 ∧ i0.zero = some z ∧ i0.size = s ∧ i0.bytes = b := by
  cases hi : P.info? t with
  | none => rw [hi] at h; cases h
  | some i0 =>
    rw [hi] at h
    injection h with h
    injection h with h1 h2
    injection h2 with h2 h3
    exact ⟨i0, rfl, h1, h2, h3⟩
theorem app_ev (base : Nat) (B : Option Addr) (n d : Nat) (xs : List Ev) (w : World) (hown : ownG Ev.cells 8 43 w base B n d xs) (A : Option Addr) (m c : Nat) (l : List Ev) (h : RowsOf Ev.cells 8 w A m c l) (hn : n + m ≤ 1000000) (hb : base ≤ w.heap.size) :
    ∃ B' d' w', (Builtin.append_ #[23, 23] 23 #[.slice B n d, .slice A m c]).run Try.prog w = .ok (.slice B' (n + m) d') w' ∧ ownG Ev.cells 8 43 w' base B' (n + m) d' (xs ++ l) ∧ Below base w w' ∧ w.grownBy w' (Value.slice B n d).ownBlock := by
  obtain ⟨i0, hi0, hz0, hz1, hz2⟩ := info_partsS ev_infoR
  exact app_rows Ev.cells_len8 (by omega) (fun x v hv => ev_one v hv) Try.underlying23 hi0 hz0 hz1 hz2 rfl (by omega) base B n d xs w hown A m c l h hn hb
def SinceEnd (r : List Ev × Int × Int) (w : World) (e : Ending) (w' : World) : Prop := ∃ B d, e = .returned (.tuple #[.slice B r.1.length d, .int .i64 r.2.1, .int .i64 r.2.2]) ∧ RowsOf Ev.cells 8 w' B r.1.length d r.1 ∧ (∀ x ∈ r.1, x.ok) ∧ Below w.heap.size w w'
theorem SinceEnd.mk {r : List Ev × Int × Int} {l : List Ev} {a b : Int} {w : World} {e : Ending} {w' : World} {B : Option Addr} {d : Nat} (h : r = (l, a, b)) (he : e = .returned (.tuple #[.slice B l.length d, .int .i64 a, .int .i64 b])) (hr : RowsOf Ev.cells 8 w' B l.length d l) (ok : ∀ x ∈ l, x.ok) (hb : Below w.heap.size w w') : SinceEnd r w e w' := by
  subst h
  exact ⟨B, d, he, hr, ok, hb⟩
theorem since_any (s : St) (A : Option Addr) (n c : Nat) (B : Option Addr) (m d : Nat) (p : ByteArray) (rev : Int) (most : Nat) (w : World) (h : StAt w s A n c B m d) (hm : m ≤ 1000) (hp : p.size ≤ maxLen) (hs : s.rev ≤ 1099511627774) (h1 : 1 ≤ rev) (h2 : rev ≤ s.rev + 1) (hm1 : 1 ≤ most) (hm2 : most ≤ 30) :
    Calls Try.prog 12 #[s.agg A n c B m d, .string p, .int .i64 rev, .int .i64 most] w (SinceEnd (sinceR s p rev most) w) := by
  obtain ⟨r1, r2⟩ := h.rev
  obtain ⟨l1, l2⟩ := h.low
  have hn := h.ev.len
  have OKE := Lib.hid h.ev.ok
  have HP := Lib.hid hp
  have H0 := Lib.hid (h.keep (new1 w (.cells (stCells s A n c B m d) 25)))
  have O0 := Lib.hid (own_new w (stCells s A n c B m d) 25)
  have B0 := Lib.hid (new1 w (.cells (stCells s A n c B m d) 25))
  have G0 : Hid (w.heap.size ≤ w.heap.size ∧ w.heap.size < (w.alloc (.cells (stCells s A n c B m d) 25)).heap.size) := Lib.hid ⟨Nat.le_refl _, by simp⟩
  have d1 : decide ((most : Int) < 1) = false := decide_eq_false (by omega)
  have d2 : decide ((30 : Int) < (most : Int)) = false := decide_eq_false (by omega)
  have d3 : decide (rev < 1) = false := decide_eq_false (by omega)
  have d4 : decide (s.rev + 1 < rev) = false := decide_eq_false (by omega)
  have HN := Lib.hid hn
  clear h hp hn
  by_cases hlow : rev ≤ s.low
  · have hl1 : decide (rev ≤ s.low) = true := decide_eq_true hlow
    have HV := Lib.hid (show sinceR s p rev most = ([], 0, 9) by unfold sinceR; rw [if_pos hlow])
    have q0 := O0.out.cell 0 (.int .i64 s.rev) rfl
    have q1 := O0.out.cell 1 (.int .i64 s.low) rfl
    go_enter Try.func12, Try.ntmps12
    go_wp2
    exact bodyPost_ret (v := .tuple #[.slice none 0 0, .int .i64 0, .int .i64 9]) (by simp [results, Try.results12, go_sem]) rfl (SinceEnd.mk HV.out rfl (RowsOf.bare _) (fun x hx => by cases hx) B0.out)
  · have hl1 : decide (rev ≤ s.low) = false := decide_eq_false hlow
    have HV := Lib.hid (show sinceR s p rev most = sinceV s (fltTo s p rev m) most by
      unfold sinceR
      rw [if_neg hlow]
      unfold fltTo fltS
      rw [List.take_of_length_le (by rw [HN.out]; exact Nat.le_refl _)])
    clear hlow
    have q0 := O0.out.cell 0 (.int .i64 s.rev) rfl
    have q1 := O0.out.cell 1 (.int .i64 s.low) rfl
    go_enter Try.func12, Try.ntmps12
    go_upto_region 7 with fail
    clear q0 q1
    generalize w.alloc (.cells (stCells s A n c B m d) 25) = w0 at *
    go_wp2
    go_loopw [11, 12] (fun v iv wr => ∃ (j : Nat) (X : Option Addr) (dX : Nat), j ≤ m ∧ iv = .int .i64 j ∧ v = .slice X (fltTo s p rev j).length dX ∧ ownG Ev.cells 8 43 wr w0.heap.size X (fltTo s p rev j).length dX (fltTo s p rev j) ∧ Below w0.heap.size w0 wr) (fun _ iv _ => m - (intOf iv).toNat)
    case atStart => exact ⟨0, none, 0, Nat.zero_le _, rfl, rfl, ownG_nil _ _ _ _ _, Below.refl _ _⟩
    case round =>
      rename World => wr
      obtain ⟨j, X, dX, hj, rfl, rfl, hX, hb⟩ := hrel
      have XO := Lib.hid hX
      have BR := Lib.hid hb
      have OR := Lib.hid (O0.out.below hb)
      have HR := Lib.hid (H0.out.keep hb)
      have hfl := fltTo_len s p rev j
      clear hX hb
      have q3 := OR.out.cell 3 (.slice B m d) rfl
      by_cases hlt : j < m
      · obtain ⟨b, e, rfl, hbl, hx, hok, hc⟩ := HR.out.ev.at_ hlt
        have hlt1 : (j : Int) < m := by omega
        have YES := Lib.hid (fltTo_yes (p := p) (rev := rev) hx)
        have NO := Lib.hid (fltTo_no (p := p) (rev := rev) hx)
        have HX := Lib.hid hx
        have KOK := Lib.hid hok.kv.key
        obtain ⟨e0, e1, e2, e3, e4, e5, e6, e7⟩ := hc
        clear hx hok
        generalize fltTo s p rev j = o at *
        by_cases hr : rev ≤ e.rev
        · have hr1 : decide (rev ≤ e.rev) = true := decide_eq_true hr
          have cb := beginsr_any e.kv.key p wr KOK.out HP.out
          cases hbg : begins p e.kv.key with
          | true =>
            rw [hbg] at cb
            have HE := Lib.hid (YES.out hr hbg)
            clear YES NO hr hbg
            obtain ⟨X', dX', w4, hr4, ho4, hb4, _⟩ := app_ev w0.heap.size X o.length dX o _ (ownG_keep XO.out (new1 wr (e.obj 43))) (some ⟨wr.heap.size, 0, none⟩) 1 1 [e] (rows_new Ev.cells_len8 wr e _ rfl) (by omega) (Nat.le_trans BR.out.size (new1 wr (e.obj 43)).size)
            have B4 := Lib.hid ((BR.out.trans ((new1 wr (e.obj 43)).mono BR.out.size)).trans hb4)
            have O4 := Lib.hid ho4
            clear hb4 ho4
            go_wp2_with fail
            refine cb.mono ?_; rintro _ w' ⟨rfl, rfl⟩
            go_wp2_with (at_builtin; refine wpList_append_eq _ rfl (.tmp 61) (.tmp 67) _ _ rfl _ _ rfl rfl hr4 ?_)
            go_roundw
            case rel => exact ⟨j + 1, X', dX', by omega, by go_num, by rw [HE.out, List.length_append]; rfl, by rw [HE.out, List.length_append]; exact O4.out, B4.out⟩
            case measure => simp [intOf]; omega
          | false =>
            rw [hbg] at cb
            have HE := Lib.hid (NO.out (fun h => by rw [hbg] at h; cases h.2))
            clear YES NO hr hbg
            go_wp2_with fail
            refine cb.mono ?_; rintro _ w' ⟨rfl, rfl⟩
            go_wp2
            go_roundw
            case rel => exact ⟨j + 1, X, dX, by omega, by go_num, by rw [HE.out], by rw [HE.out]; exact XO.out, BR.out⟩
            case measure => simp [intOf]; omega
        · have hr1 : decide (rev ≤ e.rev) = false := decide_eq_false hr
          have HE := Lib.hid (NO.out (fun h => hr h.1))
          clear YES NO hr
          go_wp2
          go_roundw
          case rel => exact ⟨j + 1, X, dX, by omega, by go_num, by rw [HE.out], by rw [HE.out]; exact XO.out, BR.out⟩
          case measure => simp [intOf]; omega
      · have hjm : m = j := by omega
        subst hjm
        have ALOK := Lib.hid (show ∀ x ∈ fltTo s p rev m, x.ok from fun x hx => OKE.out x (fltTo_mem hx))
        have q0 := OR.out.cell 0 (.int .i64 s.rev) rfl
        generalize fltTo s p rev m = al at *
        have RW := Lib.hid (ownG_rows Ev.cells_len8 (by omega) XO.out)
        have BF := Lib.hid (B0.out.trans (BR.out.mono (by have := G0.out; omega)))
        by_cases hle : al.length ≤ most
        · have hle1 : decide ((al.length : Int) ≤ (most : Int)) = true := decide_eq_true (by omega)
          have hle2 : (al.length : Int) ≤ (most : Int) := by omega
          have HV2 := Lib.hid (HV.out.trans (show sinceV s al most = (al, s.rev + 1, 0) by unfold sinceV; rw [if_pos hle]))
          clear hle
          go_wp2
          go_quiet (fail)
          go_wp2
          refine bodyPost_ret (v := .tuple #[.slice X al.length dX, .int .i64 (s.rev + 1), .int .i64 0]) (by simp [results, Try.results12, go_sem]) rfl (SinceEnd.mk HV2.out rfl (RW.out.below (below_drewN (Below.refl _ _) _)) ALOK.out (below_drewN BF.out _))
        · have hle1 : decide ((al.length : Int) ≤ (most : Int)) = false := decide_eq_false (by omega)
          have hle2 : ¬ ((al.length : Int) ≤ (most : Int)) := by omega
          have hmo : most < al.length := by omega
          have hmo1 : (most : Int) < (al.length : Int) := by omega
          have hal0 : 0 < al.length := by omega
          have hal1 : (0 : Int) < (al.length : Int) := by omega
          have EV := Lib.hid (ev_of_rows RW.out ALOK.out)
          obtain ⟨b, ee, hXb, hbl, hee, _, hce⟩ := EV.out.at_ hmo
          obtain ⟨b', ef, eb, _, hef, _, hcf⟩ := EV.out.at_ hal0
          rw [hXb] at eb
          obtain rfl := Option.some.inj eb
          subst hXb
          rw [Nat.zero_mul, Addr.add_zero'] at hcf
          have ee0 := hce.c0
          have ef0 := hcf.c0
          clear hce hcf eb
          by_cases hsame : ee.rev = ef.rev
          · have hs1 : (ee.rev == ef.rev) = true := by simp [hsame]
            have HV2 := Lib.hid (HV.out.trans (show sinceV s al most = ([], 0, 4) by unfold sinceV; rw [if_neg hle, hee, hef]; simp only; rw [if_pos hsame]))
            clear hle hsame hee hef
            go_wp2
            exact bodyPost_ret (v := .tuple #[.slice none 0 0, .int .i64 0, .int .i64 4]) (by simp [results, Try.results12, go_sem]) rfl (SinceEnd.mk HV2.out rfl (RowsOf.bare _) (fun x hx => by cases hx) BF.out)
          · have hs1 : (ee.rev == ef.rev) = false := by simp [hsame]
            have HV2 := Lib.hid (HV.out.trans (show sinceV s al most = (al.takeWhile (fun x => decide (x.rev < ee.rev)), ee.rev, 0) by unfold sinceV; rw [if_neg hle, hee, hef]; simp only; rw [if_neg hsame]))
            have NXE : Hid (∀ y, al[most]? = some y → ¬ y.rev < ee.rev) := Lib.hid (fun y hy => by rw [hee] at hy; obtain rfl := Option.some.inj hy; omega)
            clear hle hsame hee hef HV
            generalize ee.rev = nx at *
            go_wp2
            go_loopw [14, 15] (fun v iv wq => ∃ (k : Nat) (Y : Option Addr) (dY : Nat), k ≤ most ∧ iv = .int .i64 k ∧ v = .slice Y k dY ∧ ownG Ev.cells 8 43 wq wr.heap.size Y k dY (al.take k) ∧ (∀ i x, i < k → al[i]? = some x → x.rev < nx) ∧ Below wr.heap.size wr wq) (fun _ iv _ => most - (intOf iv).toNat)
            case atStart => exact ⟨0, none, 0, Nat.zero_le _, rfl, rfl, ownG_nil _ _ _ _ _, fun i x hi => by omega, Below.refl _ _⟩
            case round =>
              rename World => wq
              obtain ⟨k, Y, dY, hk, rfl, rfl, hY, hall, hb⟩ := hrel
              have YO := Lib.hid hY
              have BQ := Lib.hid hb
              have ALL := Lib.hid hall
              have EVq := Lib.hid (EV.out.keep hb)
              clear hY hb hall
              have hkl : k < al.length := by omega
              have hkl1 : (k : Int) < (al.length : Int) := by omega
              have hkb : decide (k < al.length) = true := decide_eq_true hkl
              have hkb1 : decide ((k : Int) < (al.length : Int)) = true := decide_eq_true hkl1
              obtain ⟨b', x, eb, _, hx, _, hc⟩ := EVq.out.at_ hkl
              obtain rfl := Option.some.inj eb
              obtain ⟨x0, x1, x2, x3, x4, x5, x6, x7⟩ := hc
              have HX := Lib.hid hx
              clear eb hx
              by_cases hxn : x.rev < nx
              · have hx1 : decide (x.rev < nx) = true := decide_eq_true hxn
                have HNX := Lib.hid hxn
                have hkm : k < most := by
                  rcases Nat.lt_or_eq_of_le hk with h | h
                  · exact h
                  · exfalso
                    have hq := NXE.out x (by rw [← h]; exact HX.out)
                    omega
                have TK := Lib.hid (take_succ al k x HX.out)
                clear hxn
                obtain ⟨Y', dY', w4, hr4, ho4, hb4, _⟩ := app_ev wr.heap.size Y k dY (al.take k) _ (ownG_keep YO.out (new1 wq (x.obj 43))) (some ⟨wq.heap.size, 0, none⟩) 1 1 [x] (rows_new Ev.cells_len8 wq x _ rfl) (by omega) (Nat.le_trans BQ.out.size (new1 wq (x.obj 43)).size)
                have B4 := Lib.hid ((BQ.out.trans ((new1 wq (x.obj 43)).mono BQ.out.size)).trans hb4)
                have O4 := Lib.hid ho4
                clear hb4 ho4
                go_wp2_with (at_builtin; refine wpList_append_eq _ rfl (.tmp 103) (.tmp 108) _ _ rfl _ _ rfl rfl hr4 ?_)
                go_roundw
                case rel => exact ⟨k + 1, Y', dY', by omega, by go_num, rfl, by rw [TK.out]; exact O4.out, (fun i y hi hy => by
                  by_cases e : i = k
                  · subst e; rw [HX.out] at hy; obtain rfl := Option.some.inj hy; exact HNX.out
                  · exact ALL.out i y (by omega) hy), B4.out⟩
                case measure => simp [intOf]; omega
              · have hx1 : decide (x.rev < nx) = false := decide_eq_false hxn
                have HW := Lib.hid (while_is ALL.out HX.out hxn)
                clear hxn
                have HLT : Hid ((al.take k).length = k) := Lib.hid (by rw [List.length_take]; omega)
                have RQ := Lib.hid (ownG_rows Ev.cells_len8 (by omega) YO.out)
                go_wp2
                refine bodyPost_ret (v := .tuple #[.slice Y k dY, .int .i64 nx, .int .i64 0]) (by simp [results, Try.results12, go_sem]) rfl (SinceEnd.mk (l := al.take k) (a := nx) (b := 0) (B := Y) (d := dY) (by rw [HV2.out, HW.out]) (by rw [HLT.out]) (by rw [HLT.out]; exact RQ.out) (fun x hx => ALOK.out x (List.mem_of_mem_take hx)) (BF.out.trans (BQ.out.mono BF.out.size)))
end Go.Proofs.Ytkikfaeigoeogaa.P
