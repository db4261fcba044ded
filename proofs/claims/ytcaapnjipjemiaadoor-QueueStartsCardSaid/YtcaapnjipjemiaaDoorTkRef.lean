/- Tickets: the document's order. -/
import Derived.Test.YtcaapnjipjemiaaDoorTkOrd
namespace Go.Proofs.YtcaapnjipjemiaaDoor.P
open Go.RowKit Go.Sort
set_option maxHeartbeats 2000000
set_option linter.unusedVariables false
set_option linter.unusedSimpArgs false
set_option maxRecDepth 100000

theorem before_any (x y : KV) (w : World) :
    Calls Tryd.prog 47 #[x.agg, y.agg] w fun e w' => e = .returned (.bool (befB x y)) ∧ Below w.heap.size w w' := by
  have NB := Lib.hid (then_ (new1 w (x.obj 49)) (new1 _ (y.obj 49)))
  have HT : Hid (Op.bytesLess x.key.toList y.key.toList = tlt x.key y.key) := Lib.hid rfl
  by_cases h1 : x.cre < y.cre
  · have HV : Hid (befB x y = true) := Lib.hid (by unfold befB; simp [h1])
    go_enter Tryd.func47, Tryd.ntmps47
    go_wp2
    exact bodyPost_ret (v := .bool true) (by simp [results, Tryd.results47, go_sem]) rfl ⟨by rw [HV.out], NB.out⟩
  · by_cases h2 : x.cre = y.cre
    · have HV : Hid (befB x y = tlt x.key y.key) := Lib.hid (by unfold befB; simp [h1, h2])
      have hb : (x.cre == y.cre) = true := by simp [h2]
      have hn : decide (x.cre < y.cre) = false := decide_eq_false h1
      clear h2
      go_enter Tryd.func47, Tryd.ntmps47
      go_wp2
      exact bodyPost_ret (v := .bool (tlt x.key y.key)) (by simp [results, Tryd.results47, go_sem]; rfl) rfl ⟨by rw [HV.out], NB.out⟩
    · have HV : Hid (befB x y = false) := Lib.hid (by unfold befB; simp [h1, h2])
      have hb : (x.cre == y.cre) = false := by simp [h2]
      have hn : decide (x.cre < y.cre) = false := decide_eq_false h1
      clear h2
      go_enter Tryd.func47, Tryd.ntmps47
      go_wp2
      exact bodyPost_ret (v := .bool false) (by simp [results, Tryd.results47, go_sem]) rfl ⟨by rw [HV.out], NB.out⟩
theorem ins_place (x : KV) : ∀ o : List KV, ∃ p, p ≤ o.length ∧ (∀ z ∈ o.take p, befB x z = false) ∧ (∀ y, o[p]? = some y → befB x y = true) ∧ insL befB x o = o.take p ++ x :: o.drop p
  | [] => ⟨0, Nat.le_refl _, fun z hz => by simp at hz, fun y hy => by simp at hy, rfl⟩
  | z :: r => by
    cases h : befB x z with
    | true => exact ⟨0, Nat.zero_le _, fun z hz => by simp at hz, fun y hy => by simp at hy; subst hy; exact h, by simp [insL, h]⟩
    | false =>
      obtain ⟨p, hp, h1, h2, h3⟩ := ins_place x r
      refine ⟨p + 1, by simp; omega, fun y hy => ?_, fun y hy => h2 y (by simpa using hy), by simp [insL, h, h3]⟩
      rw [List.take_succ_cons] at hy
      rcases List.mem_cons.1 hy with rfl | hy
      · exact h
      · exact h1 y hy
theorem ordL_next (l : List KV) (j : Nat) (x : KV) (hx : l[j]? = some x) : ordL befB (l.take (j + 1)) = insL befB x (ordL befB (l.take j)) := by
  rw [take_succ l j x hx]; unfold ordL; rw [List.foldl_append]; rfl
theorem kv_infoR : (Tryd.prog.info? 49).map (fun i => (i.zero, i.size, i.bytes)) = some (some (.agg #[.string ⟨#[]⟩, .string ⟨#[]⟩, .int .i64 0, .int .i64 0, .int .i64 0, .int .i64 0]), 6, 64) := by kernel_rfl
theorem app_kv (base : Nat) (B : Option Addr) (n d : Nat) (xs : List KV) (w : World) (hown : ownG KV.cells 6 49 w base B n d xs) (A : Option Addr) (m c : Nat) (l : List KV) (h : RowsOf KV.cells 6 w A m c l) (hn : n + m ≤ 1000000) (hb : base ≤ w.heap.size) :
    ∃ B' d' w', (Builtin.append_ #[40, 40] 40 #[.slice B n d, .slice A m c]).run Tryd.prog w = .ok (.slice B' (n + m) d') w' ∧ ownG KV.cells 6 49 w' base B' (n + m) d' (xs ++ l) ∧ Below base w w' ∧ w.grownBy w' (Value.slice B n d).ownBlock := by
  obtain ⟨i0, hi0, hz0, hz1, hz2⟩ := info_partsT kv_infoR
  exact app_rows KV.cells_len (by omega) (fun x v hv => cells_one hv) Tryd.underlying40 hi0 hz0 hz1 hz2 rfl (by omega) base B n d xs w hown A m c l h hn hb
theorem kvs_own {w : World} {base n d : Nat} {B : Option Addr} {o : List KV} (h : ownG KV.cells 6 49 w base B n d o) (ok : ∀ x ∈ o, x.ok) : KVs w B n d o := by
  obtain ⟨A', c', e, hk⟩ := KVs.of_own h ok
  injection e with e1 e2 e3
  subst e1 e3
  exact hk
theorem own_cases {w : World} {base n d : Nat} {B : Option Addr} {o : List KV} (h : ownG KV.cells 6 49 w base B n d o) : (B = none ∧ n = 0 ∧ d = 0) ∨ ∃ g : Addr, B = some g := by
  rcases h.2 with ⟨hv, h0⟩ | ⟨g, cap, cur, hv, hb, _⟩
  · injection hv with e1 e2 e3; exact .inl ⟨e1, e2, e3⟩
  · injection hv with e1 e2 e3; exact .inr ⟨_, e1⟩
theorem own_base {w : World} {base base' n : Nat} {e : TypeId} {q : Nat} {v : Value} {xs : List Value} (h : w.ownsRow base' e q v n xs) (hb : base ≤ base') : w.ownsRow base e q v n xs := by
  rcases h with ⟨h1, h2 | ⟨g, cap, cur, hv, hbg, h3⟩⟩
  · exact ⟨h1, .inl h2⟩
  · exact ⟨h1, .inr ⟨g, cap, cur, hv, Nat.le_trans hb hbg, h3⟩⟩
theorem orderR_any (A : Option Addr) (n c : Nat) (l : List KV) (w : World) (h : KVs w A n c l) (hn : n ≤ 100000) :
    Calls Tryd.prog 29 #[.slice A n c] w (SomeKVs w (ordL befB l)) := by
  have H := Lib.hid h
  have HL := Lib.hid h.len
  have HM := Lib.hid h.ok
  clear h
  go_enter Tryd.func29, Tryd.ntmps29
  go_wp2
  go_loopw [3, 4] (fun v i wr => ∃ (j : Nat) (B : Option Addr) (d : Nat), j ≤ n ∧ i = .int .i64 j ∧ v = .slice B j d ∧ ownG KV.cells 6 49 wr w.heap.size B j d (ordL befB (l.take j)) ∧ Below w.heap.size w wr) (fun _ i _ => n - (intOf i).toNat)
  case atStart => exact ⟨0, none, 0, Nat.zero_le _, rfl, rfl, ownG_nil _ _ _ _ _, Below.refl _ _⟩
  case round =>
    rename World => wr
    obtain ⟨j, B, d, hj, rfl, rfl, hO, hB⟩ := hrel
    have O := Lib.hid hO
    have BB := Lib.hid hB
    clear hO hB
    by_cases hlt : j < n
    · obtain ⟨a, x, rfl, hbl, hx, hok, hc⟩ := (H.out.keep BB.out).at_ hlt
      have HN := Lib.hid (ordL_next l j x hx)
      have OK : Hid (∀ z ∈ ordL befB (l.take j), z.ok) := Lib.hid (fun z hz => HM.out z (List.mem_of_mem_take (ordL_mem _ hz)))
      have OL : Hid ((ordL befB (l.take j)).length = j) := Lib.hid (by rw [ordL_len, List.length_take, HL.out]; omega)
      have KA := Lib.hid (H.out.keep BB.out)
      have HJ := Lib.hid hx
      have XOK := Lib.hid hok
      generalize ordL befB (l.take j) = o at *
      obtain ⟨p, hp, h1, h2, h3⟩ := ins_place x o
      rw [OL.out] at hp
      have P1 := Lib.hid h1
      have P2 := Lib.hid h2
      have P3 := Lib.hid h3
      have KO := Lib.hid (kvs_own O.out OK.out)
      clear h1 h2 h3 hx hok hc
      go_wp2
      go_loopw [5] (fun i wq => ∃ q : Nat, q ≤ p ∧ i = .int .i64 q ∧ Below wr.heap.size wr wq) (fun i _ => p - (intOf i).toNat)
      case atStart => exact ⟨0, Nat.zero_le _, rfl, Below.refl _ _⟩
      case round =>
        rename World => wq
        obtain ⟨q, hq, rfl, hbq⟩ := hrel
        have BQ := Lib.hid hbq
        clear hbq
        obtain ⟨a', x', ea, hbl1, hx1, hok1, hc1⟩ := (KA.out.keep BQ.out).at_ hlt
        obtain rfl := Option.some.inj ea
        obtain rfl := Option.some.inj (HJ.out.symm.trans hx1)
        have XA := Lib.hid hc1
        obtain ⟨c0, c1, c2, c3, c4, c5⟩ := hc1
        clear ea hx1 hok1
        have hab : (a.add (j * 6)).block < wq.heap.size := by rw [block_add]; exact hbl1
        have hlt1 : (j : Int) < n := by omega
        by_cases hqp : q < p
        · obtain ⟨g, y, rfl, hbl2, hy, hok2, hc2⟩ := (KO.out.keep BQ.out).at_ (show q < j by omega)
          have YA := Lib.hid hc2
          obtain ⟨d0, d1, d2, d3, d4, d5⟩ := hc2
          have hqj : (q : Int) < j := by omega
          have cb := fun w => before_any x y w
          have hv : befB x y = false := P1.out y (List.mem_of_getElem? (i := q) (by rw [List.getElem?_take_of_lt hqp]; exact hy))
          rw [hv] at cb
          clear hok2 hy hv
          go_wp2
          go_region_held3 (fun w' => w'.cell? (a.add (j * 6)) = some (.string x.key) ∧ w'.cell? ⟨(a.add (j * 6)).block, (a.add (j * 6)).off + 1, none⟩ = some (.string x.val) ∧ w'.cell? ⟨(a.add (j * 6)).block, (a.add (j * 6)).off + 2, none⟩ = some (.int .i64 x.cre) ∧ w'.cell? ⟨(a.add (j * 6)).block, (a.add (j * 6)).off + 3, none⟩ = some (.int .i64 x.mod) ∧ w'.cell? ⟨(a.add (j * 6)).block, (a.add (j * 6)).off + 4, none⟩ = some (.int .i64 x.ver) ∧ w'.cell? ⟨(a.add (j * 6)).block, (a.add (j * 6)).off + 5, none⟩ = some (.int .i64 x.lea) ∧ w'.cell? (g.add (q * 6)) = some (.string y.key) ∧ w'.cell? ⟨(g.add (q * 6)).block, (g.add (q * 6)).off + 1, none⟩ = some (.string y.val) ∧ w'.cell? ⟨(g.add (q * 6)).block, (g.add (q * 6)).off + 2, none⟩ = some (.int .i64 y.cre) ∧ w'.cell? ⟨(g.add (q * 6)).block, (g.add (q * 6)).off + 3, none⟩ = some (.int .i64 y.mod) ∧ w'.cell? ⟨(g.add (q * 6)).block, (g.add (q * 6)).off + 4, none⟩ = some (.int .i64 y.ver) ∧ w'.cell? ⟨(g.add (q * 6)).block, (g.add (q * 6)).off + 5, none⟩ = some (.int .i64 y.lea)) (go_keep) (first
            | (go_at_call 47; refine (cb _).mono ?_; rintro e w5 ⟨rfl, hb5⟩; have HB5 : Hid (Below wq.heap.size wq w5) := Lib.hid (then_ (Below.drew (Below.refl _ _)) hb5); clear hb5; obtain ⟨e0, e1, e2, e3, e4, e5⟩ := XA.out.on HB5.out; obtain ⟨f0, f1, f2, f3, f4, f5⟩ := YA.out.on HB5.out))
          go_wp2
          go_roundw
          case rel => exact ⟨q + 1, by omega, by go_num, then_ BQ.out HB5.out⟩
          case measure => simp [intOf]; omega
        · have e : q = p := by omega
          subst e
          by_cases hqj0 : q < j
          · obtain ⟨g, y, rfl, hbl2, hy, hok2, hc2⟩ := (KO.out.keep BQ.out).at_ hqj0
            have YA := Lib.hid hc2
            obtain ⟨d0, d1, d2, d3, d4, d5⟩ := hc2
            have hqj : (q : Int) < j := by omega
            have cb := fun w => before_any x y w
            have hv : befB x y = true := P2.out y hy
            rw [hv] at cb
            have hjd : j ≤ d := KO.out.le
            have hqd : (q : Int) ≤ d := by omega
            have hqd2 : q ≤ d := by omega
            have hqj2 : (q : Int) ≤ j := by omega
            have hqj3 : q ≤ j := by omega
            have hdq : ¬ (d = q) := by omega
            clear hok2 hy hv
            go_wp2
            go_region_held3 (fun w' => w'.cell? (a.add (j * 6)) = some (.string x.key) ∧ w'.cell? ⟨(a.add (j * 6)).block, (a.add (j * 6)).off + 1, none⟩ = some (.string x.val) ∧ w'.cell? ⟨(a.add (j * 6)).block, (a.add (j * 6)).off + 2, none⟩ = some (.int .i64 x.cre) ∧ w'.cell? ⟨(a.add (j * 6)).block, (a.add (j * 6)).off + 3, none⟩ = some (.int .i64 x.mod) ∧ w'.cell? ⟨(a.add (j * 6)).block, (a.add (j * 6)).off + 4, none⟩ = some (.int .i64 x.ver) ∧ w'.cell? ⟨(a.add (j * 6)).block, (a.add (j * 6)).off + 5, none⟩ = some (.int .i64 x.lea) ∧ w'.cell? (g.add (q * 6)) = some (.string y.key) ∧ w'.cell? ⟨(g.add (q * 6)).block, (g.add (q * 6)).off + 1, none⟩ = some (.string y.val) ∧ w'.cell? ⟨(g.add (q * 6)).block, (g.add (q * 6)).off + 2, none⟩ = some (.int .i64 y.cre) ∧ w'.cell? ⟨(g.add (q * 6)).block, (g.add (q * 6)).off + 3, none⟩ = some (.int .i64 y.mod) ∧ w'.cell? ⟨(g.add (q * 6)).block, (g.add (q * 6)).off + 4, none⟩ = some (.int .i64 y.ver) ∧ w'.cell? ⟨(g.add (q * 6)).block, (g.add (q * 6)).off + 5, none⟩ = some (.int .i64 y.lea)) (go_keep) (first
              | (go_at_call 47; refine (cb _).mono ?_; rintro e w5 ⟨rfl, hb5⟩; have HB5 : Hid (Below wq.heap.size wq w5) := Lib.hid (then_ (Below.drew (Below.refl _ _)) hb5); clear hb5; obtain ⟨e0, e1, e2, e3, e4, e5⟩ := XA.out.on HB5.out; obtain ⟨f0, f1, f2, f3, f4, f5⟩ := YA.out.on HB5.out))
            have BW := Lib.hid (then_ BQ.out HB5.out)
            clear c0 c1 c2 c3 c4 c5 d0 d1 d2 d3 d4 d5 e0 e1 e2 e3 e4 e5 f0 f1 f2 f3 f4 f5 cb
            have OW := Lib.hid (ownG_keep O.out (BW.out.mono (Nat.le_refl _)))
            have RW := Lib.hid (ownG_rows KV.cells_len (by omega) OW.out)
            have own0 : ownG KV.cells 6 49 (w5.alloc (.cells #[] 49)) wr.heap.size (some ⟨w5.heap.size, 0, none⟩) 0 0 ([] : List KV) := World.ownsRow_made w5 #[] 0 BW.out.size (Nat.zero_le _) rfl
            have B0 := Lib.hid (BW.out.trans ((new1 w5 (.cells #[] 49)).mono BW.out.size))
            obtain ⟨B1, d1, w1, hr1, ho1, hb1, -⟩ := app_kv wr.heap.size _ 0 0 [] _ own0 _ q d (o.take q) ((RW.out.below (new1 w5 _)).take (by omega)) (by omega) B0.out.size
            rw [Nat.zero_add] at hr1 ho1
            rw [List.nil_append] at ho1
            have B1' := Lib.hid (B0.out.trans hb1)
            have X1 := Lib.hid ((KA.out.keep B1'.out).at_ hlt)
            obtain ⟨ax, xx, ea, hbx, hxx, hokx, hcx⟩ := X1.out
            obtain rfl := Option.some.inj ea
            obtain rfl := Option.some.inj (HJ.out.symm.trans hxx)
            obtain ⟨v0, v1, v2, v3, v4, v5⟩ := hcx
            have B2' := Lib.hid (B1'.out.trans ((new1 w1 (x.obj 49)).mono B1'.out.size))
            obtain ⟨B2, d2, w2, hr2, ho2, hb2, -⟩ := app_kv wr.heap.size _ q d1 (o.take q) _ (ownG_keep ho1 (new1 w1 (x.obj 49))) (some ⟨w1.heap.size, 0, none⟩) 1 1 [x] (rows_new KV.cells_len w1 x _ rfl) (by omega) B2'.out.size
            have B3' := Lib.hid (B2'.out.trans hb2)
            have R2 := Lib.hid (ownG_rows KV.cells_len (by omega) (ownG_keep O.out B3'.out))
            have hsrc := R2.out.drop (i := q) (by omega)
            rw [if_neg hdq] at hsrc
            obtain ⟨B3, d3, w3, hr3, ho3, hb3, -⟩ := app_kv wr.heap.size _ (q + 1) d2 (o.take q ++ [x]) w2 ho2 _ _ _ (o.drop q) hsrc (by omega) B3'.out.size
            rw [show q + 1 + (j - q) = j + 1 by omega] at hr3 ho3
            have B4' := Lib.hid (B3'.out.trans hb3)
            have hres : o.take q ++ [x] ++ o.drop q = insL befB x o := by rw [P3.out]; simp
            rw [hres, ← HN.out] at ho3
            have O3 := Lib.hid (own_base ho3 BB.out.size)
            clear own0 ho1 hb1 ea hbx hxx hokx hb2 ho2 hsrc hb3 ho3 hres X1 OW RW R2 O KO KA
            go_wp2_with (first | (at_builtin; refine wpList_append_eq _ rfl (.tmp 31) (.tmp 34) _ _ rfl _ _ rfl rfl hr1 ?_) | (at_builtin; refine wpList_append_eq _ rfl (.tmp 36) (.tmp 41) _ _ rfl _ _ rfl rfl hr2 ?_) | (at_builtin; refine wpList_append_eq _ rfl (.tmp 43) (.tmp 46) _ _ rfl _ _ rfl rfl hr3 ?_))
            go_roundw
            case rel => exact ⟨j + 1, B3, d3, by omega, by go_num, rfl, O3.out, BB.out.trans (B4'.out.mono BB.out.size)⟩
            case measure => simp [intOf]; omega
          · obtain rfl : q = j := by omega
            have hqj : decide ((q : Int) < q) = false := by simp
            have hjd : q ≤ d := KO.out.le
            have hqd : (q : Int) ≤ d := by omega
            have hqj2 : (q : Int) ≤ q := by omega
            clear c0 c1 c2 c3 c4 c5
            rcases own_cases O.out with ⟨rfl, h0, rfl⟩ | ⟨g, rfl⟩
            · subst h0
              have hz : (0 : Int) ≤ 0 := by omega
              go_wp2
              go_quiet (fail)
              have BW := Lib.hid (below_drewN BQ.out nq)
              generalize wq.drewN nq = W at *
              have OW := Lib.hid (ownG_keep O.out (BW.out.mono (Nat.le_refl _)))
              have RW := Lib.hid (ownG_rows KV.cells_len (by omega) OW.out)
              have own0 : ownG KV.cells 6 49 (W.alloc (.cells #[] 49)) wr.heap.size (some ⟨W.heap.size, 0, none⟩) 0 0 ([] : List KV) := World.ownsRow_made W #[] 0 BW.out.size (Nat.zero_le _) rfl
              have B0 := Lib.hid (BW.out.trans ((new1 W (.cells #[] 49)).mono BW.out.size))
              obtain ⟨B1, d1, w1, hr1, ho1, hb1, -⟩ := app_kv wr.heap.size _ 0 0 [] _ own0 _ 0 0 (o.take 0) ((RW.out.below (new1 W _)).take (by omega)) (by omega) B0.out.size
              rw [Nat.zero_add] at hr1 ho1
              rw [List.nil_append] at ho1
              have B1' := Lib.hid (B0.out.trans hb1)
              have X1 := Lib.hid ((KA.out.keep B1'.out).at_ hlt)
              obtain ⟨ax, xx, ea, hbx, hxx, hokx, hcx⟩ := X1.out
              obtain rfl := Option.some.inj ea
              obtain rfl := Option.some.inj (HJ.out.symm.trans hxx)
              rw [show a.add (0 * 6) = a by unfold Addr.add; simp] at hcx
              obtain ⟨v0, v1, v2, v3, v4, v5⟩ := hcx
              have B2' := Lib.hid (B1'.out.trans ((new1 w1 (x.obj 49)).mono B1'.out.size))
              obtain ⟨B2, d2, w2, hr2, ho2, hb2, -⟩ := app_kv wr.heap.size _ 0 d1 (o.take 0) _ (ownG_keep ho1 (new1 w1 (x.obj 49))) (some ⟨w1.heap.size, 0, none⟩) 1 1 [x] (rows_new KV.cells_len w1 x _ rfl) (by omega) B2'.out.size
              have B3' := Lib.hid (B2'.out.trans hb2)
              have R2 := Lib.hid (ownG_rows KV.cells_len (by omega) (ownG_keep O.out B3'.out))
              have hsrc : RowsOf KV.cells 6 w2 none 0 0 (o.drop 0) := by rw [List.eq_nil_of_length_eq_zero (show o.length = 0 from OL.out)]; exact RowsOf.bare w2
              obtain ⟨B3, d3, w3, hr3, ho3, hb3, -⟩ := app_kv wr.heap.size _ (0 + 1) d2 (o.take 0 ++ [x]) w2 ho2 _ _ _ (o.drop 0) hsrc (by omega) B3'.out.size
              rw [Nat.add_zero] at hr3 ho3
              have B4' := Lib.hid (B3'.out.trans hb3)
              have hres : o.take 0 ++ [x] ++ o.drop 0 = insL befB x o := by rw [P3.out]; simp
              rw [hres, ← HN.out] at ho3
              have O3 := Lib.hid (own_base ho3 BB.out.size)
              clear own0 ho1 hb1 ea hbx hxx hokx hb2 ho2 hsrc hb3 ho3 hres X1 OW RW R2 O KO KA
              go_wp2_with (first | (at_builtin; refine wpList_append_eq _ rfl (.tmp 31) (.tmp 34) _ _ rfl _ _ rfl rfl hr1 ?_) | (at_builtin; refine wpList_append_eq _ rfl (.tmp 36) (.tmp 41) _ _ rfl _ _ rfl rfl hr2 ?_) | (at_builtin; refine wpList_append_eq _ rfl (.tmp 43) (.tmp 46) _ _ rfl _ _ rfl rfl hr3 ?_))
              go_roundw
              case rel => exact ⟨0 + 1, B3, d3, by omega, by go_num, rfl, O3.out, BB.out.trans (B4'.out.mono BB.out.size)⟩
              case measure => simp [intOf]; omega
            · by_cases hdq : d = q
              · subst hdq
                go_wp2
                go_quiet (fail)
                have BW := Lib.hid (below_drewN BQ.out nq)
                generalize wq.drewN nq = W at *
                have OW := Lib.hid (ownG_keep O.out (BW.out.mono (Nat.le_refl _)))
                have RW := Lib.hid (ownG_rows KV.cells_len (by omega) OW.out)
                have own0 : ownG KV.cells 6 49 (W.alloc (.cells #[] 49)) wr.heap.size (some ⟨W.heap.size, 0, none⟩) 0 0 ([] : List KV) := World.ownsRow_made W #[] 0 BW.out.size (Nat.zero_le _) rfl
                have B0 := Lib.hid (BW.out.trans ((new1 W (.cells #[] 49)).mono BW.out.size))
                obtain ⟨B1, d1, w1, hr1, ho1, hb1, -⟩ := app_kv wr.heap.size _ 0 0 [] _ own0 _ d d (o.take d) ((RW.out.below (new1 W _)).take (by omega)) (by omega) B0.out.size
                rw [Nat.zero_add] at hr1 ho1
                rw [List.nil_append] at ho1
                have B1' := Lib.hid (B0.out.trans hb1)
                have X1 := Lib.hid ((KA.out.keep B1'.out).at_ hlt)
                obtain ⟨ax, xx, ea, hbx, hxx, hokx, hcx⟩ := X1.out
                obtain rfl := Option.some.inj ea
                obtain rfl := Option.some.inj (HJ.out.symm.trans hxx)
                obtain ⟨v0, v1, v2, v3, v4, v5⟩ := hcx
                have B2' := Lib.hid (B1'.out.trans ((new1 w1 (x.obj 49)).mono B1'.out.size))
                obtain ⟨B2, d2, w2, hr2, ho2, hb2, -⟩ := app_kv wr.heap.size _ d d1 (o.take d) _ (ownG_keep ho1 (new1 w1 (x.obj 49))) (some ⟨w1.heap.size, 0, none⟩) 1 1 [x] (rows_new KV.cells_len w1 x _ rfl) (by omega) B2'.out.size
                have B3' := Lib.hid (B2'.out.trans hb2)
                have R2 := Lib.hid (ownG_rows KV.cells_len (by omega) (ownG_keep O.out B3'.out))
                have hsrc := R2.out.drop (i := d) (by omega)
                rw [if_pos rfl, Nat.sub_self] at hsrc
                obtain ⟨B3, d3, w3, hr3, ho3, hb3, -⟩ := app_kv wr.heap.size _ (d + 1) d2 (o.take d ++ [x]) w2 ho2 _ _ _ (o.drop d) hsrc (by omega) B3'.out.size
                rw [Nat.add_zero] at hr3 ho3
                have B4' := Lib.hid (B3'.out.trans hb3)
                have hres : o.take d ++ [x] ++ o.drop d = insL befB x o := by rw [P3.out]; simp
                rw [hres, ← HN.out] at ho3
                have O3 := Lib.hid (own_base ho3 BB.out.size)
                clear own0 ho1 hb1 ea hbx hxx hokx hb2 ho2 hsrc hb3 ho3 hres X1 OW RW R2 O KO KA
                go_wp2_with (first | (at_builtin; refine wpList_append_eq _ rfl (.tmp 31) (.tmp 34) _ _ rfl _ _ rfl rfl hr1 ?_) | (at_builtin; refine wpList_append_eq _ rfl (.tmp 36) (.tmp 41) _ _ rfl _ _ rfl rfl hr2 ?_) | (at_builtin; refine wpList_append_eq _ rfl (.tmp 43) (.tmp 46) _ _ rfl _ _ rfl rfl hr3 ?_))
                go_roundw
                case rel => exact ⟨d + 1, B3, d3, by omega, by go_num, rfl, O3.out, BB.out.trans (B4'.out.mono BB.out.size)⟩
                case measure => simp [intOf]; omega
              · go_wp2
                go_quiet (fail)
                have BW := Lib.hid (below_drewN BQ.out nq)
                generalize wq.drewN nq = W at *
                have OW := Lib.hid (ownG_keep O.out (BW.out.mono (Nat.le_refl _)))
                have RW := Lib.hid (ownG_rows KV.cells_len (by omega) OW.out)
                have own0 : ownG KV.cells 6 49 (W.alloc (.cells #[] 49)) wr.heap.size (some ⟨W.heap.size, 0, none⟩) 0 0 ([] : List KV) := World.ownsRow_made W #[] 0 BW.out.size (Nat.zero_le _) rfl
                have B0 := Lib.hid (BW.out.trans ((new1 W (.cells #[] 49)).mono BW.out.size))
                obtain ⟨B1, d1, w1, hr1, ho1, hb1, -⟩ := app_kv wr.heap.size _ 0 0 [] _ own0 _ q d (o.take q) ((RW.out.below (new1 W _)).take (by omega)) (by omega) B0.out.size
                rw [Nat.zero_add] at hr1 ho1
                rw [List.nil_append] at ho1
                have B1' := Lib.hid (B0.out.trans hb1)
                have X1 := Lib.hid ((KA.out.keep B1'.out).at_ hlt)
                obtain ⟨ax, xx, ea, hbx, hxx, hokx, hcx⟩ := X1.out
                obtain rfl := Option.some.inj ea
                obtain rfl := Option.some.inj (HJ.out.symm.trans hxx)
                obtain ⟨v0, v1, v2, v3, v4, v5⟩ := hcx
                have B2' := Lib.hid (B1'.out.trans ((new1 w1 (x.obj 49)).mono B1'.out.size))
                obtain ⟨B2, d2, w2, hr2, ho2, hb2, -⟩ := app_kv wr.heap.size _ q d1 (o.take q) _ (ownG_keep ho1 (new1 w1 (x.obj 49))) (some ⟨w1.heap.size, 0, none⟩) 1 1 [x] (rows_new KV.cells_len w1 x _ rfl) (by omega) B2'.out.size
                have B3' := Lib.hid (B2'.out.trans hb2)
                have R2 := Lib.hid (ownG_rows KV.cells_len (by omega) (ownG_keep O.out B3'.out))
                have hsrc := R2.out.drop (i := q) (by omega)
                rw [if_neg hdq, Nat.sub_self] at hsrc
                obtain ⟨B3, d3, w3, hr3, ho3, hb3, -⟩ := app_kv wr.heap.size _ (q + 1) d2 (o.take q ++ [x]) w2 ho2 _ _ _ (o.drop q) hsrc (by omega) B3'.out.size
                rw [Nat.add_zero] at hr3 ho3
                have B4' := Lib.hid (B3'.out.trans hb3)
                have hres : o.take q ++ [x] ++ o.drop q = insL befB x o := by rw [P3.out]; simp
                rw [hres, ← HN.out] at ho3
                have O3 := Lib.hid (own_base ho3 BB.out.size)
                clear own0 ho1 hb1 ea hbx hxx hokx hb2 ho2 hsrc hb3 ho3 hres X1 OW RW R2 O KO KA
                go_wp2_with (first | (at_builtin; refine wpList_append_eq _ rfl (.tmp 31) (.tmp 34) _ _ rfl _ _ rfl rfl hr1 ?_) | (at_builtin; refine wpList_append_eq _ rfl (.tmp 36) (.tmp 41) _ _ rfl _ _ rfl rfl hr2 ?_) | (at_builtin; refine wpList_append_eq _ rfl (.tmp 43) (.tmp 46) _ _ rfl _ _ rfl rfl hr3 ?_))
                go_roundw
                case rel => exact ⟨q + 1, B3, d3, by omega, by go_num, rfl, O3.out, BB.out.trans (B4'.out.mono BB.out.size)⟩
                case measure => simp [intOf]; omega
    · obtain rfl : j = n := by omega
      go_wp2
      go_ret
      have e : l.take j = l := by rw [List.take_of_length_le]; rw [HL.out]; omega
      rw [e] at O
      exact ⟨B, _, d, rfl, kvs_own O.out (fun z hz => HM.out z (ordL_mem _ hz)), BB.out⟩
end Go.Proofs.YtcaapnjipjemiaaDoor.P
