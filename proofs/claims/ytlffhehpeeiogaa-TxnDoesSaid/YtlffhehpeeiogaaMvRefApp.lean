/- What is done at one revision: the document's answer. -/
import Derived.Test.YtlffhehpeeiogaaMvRefShr
import Derived.Test.YtlffhehpeeiogaaMvEx
import Derived.Deep.Cut
namespace Go.Proofs.Ytlffhehpeeiogaa.P
open Go.RowKit Go.Sort
set_option maxHeartbeats 4000000
set_option linter.unusedVariables false
set_option linter.unusedSimpArgs false
set_option maxRecDepth 100000

theorem app_evs2 (base : Nat) (v : Value) (n : Nat) (xs : List Ev) (w : World) (hown : w.ownsRow base 79 8 v n (cellsE xs)) (A : Option Addr) (m c : Nat) (l : List Ev) (h : Evs w A m c l) (hn : n + m ≤ 1000000) (hb : base ≤ w.heap.size) (ty : TypeId) :
    ∃ v' w', (Builtin.append_ #[23, 23] ty #[v, .slice A m c]).run Try.prog w = .ok v' w' ∧ w'.ownsRow base 79 8 v' (n + m) (cellsE (xs ++ l)) ∧ Below base w w' ∧ w.grownBy w' v.ownBlock ∧ (v'.ownBlock = v.ownBlock ∨ v'.ownBlock = some w.heap.size) := by
  obtain ⟨i0, hi0, hz0, hz1, hz2⟩ := info_parts info_ev
  have hlen := h.len
  rcases A with _ | a
  · have h0 := h.nil rfl
    subst h0
    obtain rfl : m = 0 := by have := h.le; omega
    obtain rfl : l = [] := List.eq_nil_of_length_eq_zero hlen
    refine ⟨v, w, run_append_owned_none (P := Try.prog) (w := w) base 23 ty 79 i0 8 Try.underlying23 hi0 v n _ hown, ?_, Below.refl _ _, grown_refl _ _, .inl rfl⟩
    rw [List.append_nil, Nat.add_zero]; exact hown
  · obtain ⟨v', w', hr, h2, h3, h4, h5⟩ := run_append_own_at (P := Try.prog) w base 23 ty 79 i0 zeroEvA 8 80 Try.underlying23 hi0 hz0 hz1 hz2 rfl (by omega) v n _ hown a m c (cellsE l) (by rw [cellsE_len, hlen]) h.cells (fun u hu => cellsE_one' hu) (by unfold maxLen; omega) (by omega) hb
    refine ⟨v', w', hr, by rw [cellsE_app]; exact h2, (Below.refl _ _).grown h3 hb (fun k hk => (hown.lt k hk).1), h3, h5⟩
theorem came {s : St} {ms : List Mu} {es : List Ev} {L : List KV} {f : Bool} (h : comeL (s.rev + 1) (nowL s) ms = (es, L, f)) : eventsOf s ms = es ∧ (comeL (s.rev + 1) (nowL s) ms).2.2 = f := by
  unfold eventsOf; rw [h]; exact ⟨rfl, rfl⟩
theorem came_none {s : St} {ms : List Mu} {L : List KV} {f : Bool} (hd : mayDoB ms = true) (h : comeL (s.rev + 1) (nowL s) ms = ([], L, f)) : applyE s ms = 0 ∧ applyS s ms = s ∧ applyEv s ms = [] := apply_nil hd h
theorem came_full {s : St} {ms : List Mu} {es : List Ev} {L : List KV} {f : Bool} (hd : mayDoB ms = true) (h : comeL (s.rev + 1) (nowL s) ms = (es, L, f)) (he : es ≠ []) (hn : f = false ∨ s.rev = 1099511627774 ∨ 60 < s.log.length + es.length) : applyE s ms = 4 ∧ applyS s ms = s ∧ applyEv s ms = [] := by
  obtain ⟨h1, h2⟩ := came h
  have hE : applyE s ms = 4 := by
    unfold applyE
    rw [if_neg (by rw [hd]; simp), h1, if_neg he, h2, if_pos hn]
  have ha : ¬ applied s ms := fun k => by have := k.1; rw [hE] at this; cases this
  exact ⟨hE, (apply_not ha).1, (apply_not ha).2⟩
theorem came_done {s : St} {ms : List Mu} {es : List Ev} {L : List KV} (hd : mayDoB ms = true) (h : comeL (s.rev + 1) (nowL s) ms = (es, L, true)) (he : es ≠ []) (h1 : s.rev ≠ 1099511627774) (h2 : s.log.length + es.length ≤ 60) :
    applyE s ms = 0 ∧ applyS s ms = ⟨s.rev + 1, s.low, s.base, s.log ++ es⟩ ∧ applyEv s ms = es := apply_eq hd h he h1 h2
theorem ap_end {s : St} {ms : List Mu} {w : World} {e : Ending} {w' : World} {s' : St} {es : List Ev} {x : Int} (h : applyE s ms = x ∧ applyS s ms = s' ∧ applyEv s ms = es) {A : Option Addr} {n c : Nat} {B : Option Addr} {m d : Nat} {E : Option Addr} {en ec : Nat}
    (he : e = .returned (.tuple #[s'.agg A n c B m d, .slice E en ec, .int .i64 x])) (hs : StAt w' s' A n c B m d) (hv : Evs w' E en ec es) (hb : Below w.heap.size w w') : ApplyEnd s ms w e w' := ApplyEnd.mk h.2.1 h.2.2 h.1 he hs hv hb

theorem apply_rno (s : St) (A : Option Addr) (n c : Nat) (B : Option Addr) (m d : Nat) (M : Option Addr) (mn mc : Nat) (ms : List Mu) (w : World) (h : StAt w s A n c B m d) (hM : Mus w M mn mc ms) (hs : MaySt s) (hd : mayDoB ms = false) :
    Calls Try.prog 26 #[s.agg A n c B m d, .slice M mn mc] w (ApplyEnd s ms w) := by
  have hb0 := then_ (new1 w (.cells (stCells s A n c B m d) 25)) (new1 _ (.cells zSt 25))
  have HH := Lib.hid h
  have M0 := Lib.hid (hM.keep hb0)
  have B0 := Lib.hid hb0
  have O0 := Lib.hid ((own_new w (stCells s A n c B m d) 25).alloc (.cells zSt 25))
  have R0 := Lib.hid (own_new2 w (.cells (stCells s A n c B m d) 25) zSt 25)
  have T := Lib.hid (muts_ref M mn mc ms ((w.alloc (.cells (stCells s A n c B m d) 25)).alloc (.cells zSt 25)) M0.out)
  have AB := Lib.hid (apply_bad (s := s) hd)
  have HD := Lib.hid hd
  clear h hM hb0 hs hd
  go_enter Try.func26, Try.ntmps26
  go_wp2_with fail
  refine T.out.mono ?_; rintro e w1 ⟨rfl, hb⟩
  rw [HD.out]
  have B1 := Lib.hid (then_ B0.out hb)
  have O1 := Lib.hid (O0.out.below hb)
  have R1 := Lib.hid (R0.out.below hb)
  have M1 := Lib.hid (M0.out.keep hb)
  clear hb
  have q0 := O1.out.cell 0 _ rfl
  have q1 := O1.out.cell 1 _ rfl
  have q2 := O1.out.cell 2 _ rfl
  have q3 := O1.out.cell 3 _ rfl
  have f := R1.out.frozen
  have o0 := R1.out.cell 0 _ rfl
  have o1 := R1.out.cell 1 _ rfl
  have o2 := R1.out.cell 2 _ rfl
  have o3 := R1.out.cell 3 _ rfl
  go_wp2
  refine bodyPost_ret (v := .tuple #[s.agg A n c B m d, .slice none 0 0, .int .i64 1]) (by simp [results, Try.results26, go_sem, o0, o1, o2, o3]) rfl (ap_end AB.out rfl (HH.out.keep (below_set4 B1.out (Nat.le_succ _) _ _ _ _)) (evs_bare _) (below_set4 B1.out (Nat.le_succ _) _ _ _ _))
theorem apply_rgo (s : St) (A : Option Addr) (n c : Nat) (B : Option Addr) (m d : Nat) (M : Option Addr) (mn mc : Nat) (ms : List Mu) (w : World) (h : StAt w s A n c B m d) (hM : Mus w M mn mc ms) (hs : MaySt s) (hd : mayDoB ms = true) :
    Calls Try.prog 26 #[s.agg A n c B m d, .slice M mn mc] w (ApplyEnd s ms w) := by
  have hb0 := then_ (new1 w (.cells (stCells s A n c B m d) 25)) (new1 _ (.cells zSt 25))
  have HH := Lib.hid h
  have M0 := Lib.hid (hM.keep hb0)
  have B0 := Lib.hid hb0
  have O0 := Lib.hid ((own_new w (stCells s A n c B m d) 25).alloc (.cells zSt 25))
  have R0 := Lib.hid (own_new2 w (.cells (stCells s A n c B m d) 25) zSt 25)
  have T := Lib.hid (muts_ref M mn mc ms ((w.alloc (.cells (stCells s A n c B m d) 25)).alloc (.cells zSt 25)) M0.out)
  obtain ⟨hmn, hdo⟩ := may_do hd
  have hmlen := hM.len
  have hnn : n ≤ 30 := by rw [← h.kv.len]; exact hs.good.len
  have hmm : m ≤ 60 := by rw [← h.ev.len]; exact hs.len
  have r0 := hs.low; have r1 := hs.le; have r2 := hs.max
  have hm30 : mn ≤ 30 := by omega
  have HS := Lib.hid hs; have HD := Lib.hid hd; have HDO := Lib.hid hdo; have HML := Lib.hid hmlen; have HLE := Lib.hid h.ev.len
  clear h hM hb0 hs hd hdo hmn hmlen
  go_enter Try.func26, Try.ntmps26
  go_wp2_with fail
  refine T.out.mono ?_; rintro e w1 ⟨rfl, hb⟩
  rw [HD.out]
  have B1 := Lib.hid (then_ B0.out hb)
  have O1 := Lib.hid (O0.out.below hb)
  have R1 := Lib.hid (R0.out.below hb)
  have M1 := Lib.hid (M0.out.keep hb)
  clear hb
  have q0 := O1.out.cell 0 _ rfl
  have q1 := O1.out.cell 1 _ rfl
  have q2 := O1.out.cell 2 _ rfl
  have q3 := O1.out.cell 3 _ rfl
  go_wp2_with fail
  refine (now_ref s A n c B m d _ (HH.out.keep B1.out) (by omega)).mono ?_; rintro e w2 ⟨A1, n1, c1, rfl, hk, hb⟩
  have K2 := Lib.hid hk
  have B2 := Lib.hid (then_ B1.out hb)
  have O2 := Lib.hid (O1.out.below hb)
  have R2 := Lib.hid (R1.out.below hb)
  have M2 := Lib.hid (M1.out.keep hb)
  clear hk hb q0 q1 q2 q3
  have q0 := O2.out.cell 0 _ rfl
  go_wp2
  go_loopw [7, 9, 10, 11] (fun nw ev fl i wr => ∃ (k : Nat) (E : Option Addr) (en ec : Nat) (es : List Ev) (A' : Option Addr) (n' c' : Nat) (L : List KV) (b : Bool), k ≤ mn ∧ i = .int .i64 k ∧ ev = .slice E en ec ∧ nw = .slice A' n' c' ∧ fl = .bool b ∧
      wr.ownsRow w2.heap.size 79 8 (.slice E en ec) en (cellsE es) ∧ KVs wr A' n' c' L ∧ ComeTo (s.rev + 1) (nowL s) ms k es L (!b) ∧ (∀ a g, 0 < n' → A' = some a → (Value.slice E en ec).ownBlock = some g → a.block ≠ g) ∧ Below w2.heap.size w2 wr) (fun _ _ _ i _ => mn - (intOf i).toNat)
  case atStart => exact ⟨0, none, 0, 0, [], A1, n1, c1, nowL s, false, Nat.zero_le _, rfl, rfl, rfl, rfl, World.ownsRow_nil _ _ _ _, K2.out, ⟨rfl, come_zero _ HS.out.now.may, fun e he => by simp at he⟩, (fun a g _ _ hg => by cases hg), Below.refl _ _⟩
  case round =>
    obtain ⟨k, E, en, ec, es, A', n', c', L, b, hk, rfl, rfl, rfl, rfl, hown, hkv, hct, hsep, hbel⟩ := hrel
    have HO := Lib.hid hown; have HK := Lib.hid hkv; have HC := Lib.hid hct; have HSEP := Lib.hid hsep; have HB := Lib.hid hbel
    have O3 := Lib.hid (O2.out.below hbel)
    have R3 := Lib.hid (R2.out.below hbel)
    have BW := Lib.hid (then_ B2.out hbel)
    have hO3 := O3.out.lt
    have hL60 : n' ≤ 60 := by
      rw [← hkv.len]
      exact hct.inv.lens HS.out.now.len (by have := List.length_take_le k ms; rw [List.length_take]; rw [HML.out]; omega)
    have VERS := Lib.hid hct.inv.vers
    have hes : en ≤ 30 := by
      have h1 := hown.1; rw [cellsE_len] at h1
      have h2 := hct.inv.len; simp only [List.length_take] at h2
      omega
    have hwr2 := hbel.size
    clear hown hkv hct hsep hbel q0
    have q0 := O3.out.cell 0 _ rfl
    have q3 := O3.out.cell 3 _ rfl
    by_cases hlt : k < mn
    · obtain ⟨a, x, rfl, hbl, hx, hok, hc⟩ := (M2.out.keep HB.out).at_ hlt
      obtain ⟨c0, c1, c2, c3⟩ := hc
      have HX := Lib.hid hx; have OK := Lib.hid hok
      have CI := Lib.hid (HS.out.come_to HDO.out (k + 1))
      have t := find_ref A' n' c' L x.key wr HK.out (by omega)
      clear hx hok
      cases hf : findL L x.key with
      | none =>
        rw [hf] at t
        have TT := Lib.hid t; clear t
        cases hg : x.gone with
        | true => 
          have HN := Lib.hid (HC.out.skip HX.out CI.out (by unfold evOf; rw [hg, hf]; rfl))
          clear hf
          rw [hg] at c0
          go_wp2_with fail
          refine TT.out.mono ?_; intro e w3 hr3
          obtain ⟨rfl, hb⟩ := hr3.none_
          have B3 := Lib.hid hb
          have CELL := Lib.hid (fun (p : Addr) (hp : p.block < wr.heap.size) => hb.cell hp)
          have hw3 := hb.size
          clear hb hr3
          have g0 : w3.cell? (a.add (k * 4)) = some (.bool true) := (CELL.out _ (by rw [block_add]; exact hbl)).trans c0
          have g1 := (CELL.out ⟨(a.add (k * 4)).block, (a.add (k * 4)).off + 1, none⟩ (by show (a.add (k * 4)).block < _; rw [block_add]; exact hbl)).trans c1
          have g2 := (CELL.out ⟨(a.add (k * 4)).block, (a.add (k * 4)).off + 2, none⟩ (by show (a.add (k * 4)).block < _; rw [block_add]; exact hbl)).trans c2
          have g3 := (CELL.out ⟨(a.add (k * 4)).block, (a.add (k * 4)).off + 3, none⟩ (by show (a.add (k * 4)).block < _; rw [block_add]; exact hbl)).trans c3
          have hab : (a.add (k * 4)).block < w3.heap.size := by rw [block_add]; omega
          have hab2 : ¬ (a.add (k * 4)).block = w3.heap.size := by omega
          have hab3 : ¬ w3.heap.size = (a.add (k * 4)).block := by omega
          clear c0 c1 c2 c3
          go_wp2
          obtain ⟨W4, hW4⟩ : ∃ W4, W4 = w3.alloc (.cells #[.string ⟨#[]⟩, .string ⟨#[]⟩, .int .i64 0, .int .i64 0, .int .i64 0, .int .i64 0] 45) := ⟨_, rfl⟩
          have X4 : Hid (Own W4 w3.heap.size 45 #[.string ⟨#[]⟩, .string ⟨#[]⟩, .int .i64 0, .int .i64 0, .int .i64 0, .int .i64 0]) := Lib.hid (by rw [hW4]; exact own_new _ _ _)
          have B4 : Hid (Below wr.heap.size wr W4) := Lib.hid (by rw [hW4]; exact then_ B3.out (new1 _ _))
          have S4 : Hid (Below w3.heap.size w3 W4) := Lib.hid (by rw [hW4]; exact new1 _ _)
          rw [← hW4]
          clear hW4
          have hw4 := X4.out.lt
          have g0 : W4.cell? (a.add (k * 4)) = some (.bool true) := (S4.out.cell hab).trans g0
          have g1 : W4.cell? ⟨(a.add (k * 4)).block, (a.add (k * 4)).off + 1, none⟩ = some (.string x.key) := (S4.out.cell (p := ⟨(a.add (k * 4)).block, (a.add (k * 4)).off + 1, none⟩) hab).trans g1
          have g2 : W4.cell? ⟨(a.add (k * 4)).block, (a.add (k * 4)).off + 2, none⟩ = some (.string x.val) := (S4.out.cell (p := ⟨(a.add (k * 4)).block, (a.add (k * 4)).off + 2, none⟩) hab).trans g2
          have g3 : W4.cell? ⟨(a.add (k * 4)).block, (a.add (k * 4)).off + 3, none⟩ = some (.int .i64 x.lea) := (S4.out.cell (p := ⟨(a.add (k * 4)).block, (a.add (k * 4)).off + 3, none⟩) hab).trans g3
          have z0 := X4.out.cell 0 _ rfl
          have z1 := X4.out.cell 1 _ rfl
          have z2 := X4.out.cell 2 _ rfl
          have z3 := X4.out.cell 3 _ rfl
          have z4 := X4.out.cell 4 _ rfl
          have z5 := X4.out.cell 5 _ rfl
          have hab4 : ¬ (a.add (k * 4)).block = W4.heap.size := by omega
          have hab5 : ¬ W4.heap.size = (a.add (k * 4)).block := by omega
          have hab6 : ¬ w3.heap.size = W4.heap.size := by omega
          have hab7 : ¬ W4.heap.size = w3.heap.size := by omega
          clear hab2 hab3
          go_region_held3 (fun w' => w'.cell? (a.add (k * 4)) = some (.bool true) ∧ w'.cell? ⟨w3.heap.size, 0, none⟩ = some (.string ⟨#[]⟩) ∧ w'.cell? ⟨w3.heap.size, 1, none⟩ = some (.string ⟨#[]⟩) ∧ w'.cell? ⟨w3.heap.size, 2, none⟩ = some (.int .i64 0) ∧ w'.cell? ⟨w3.heap.size, 3, none⟩ = some (.int .i64 0) ∧ w'.cell? ⟨w3.heap.size, 4, none⟩ = some (.int .i64 0) ∧ w'.cell? ⟨w3.heap.size, 5, none⟩ = some (.int .i64 0)) (go_keep) (fail)
          have BX := Lib.hid (then_ B4.out (then_ (new1 W4 (.cells #[.int .i64 (s.rev + 1), .bool true, .string ⟨#[]⟩, .string ⟨#[]⟩, .int .i64 0, .int .i64 0, .int .i64 0, .int .i64 0] 79)) (new_drew _)))
          go_wp2
          go_roundw
          case rel => exact ⟨k + 1, E, en, ec, es, A', n', c', L, b, by omega, by go_num, rfl, rfl, rfl, ownE_kept HO.out BX.out, HK.out.keep BX.out, HN.out, HSEP.out, then_ HB.out BX.out⟩
          case measure => simp [intOf]; omega
        | false =>
          have hev : evOf L x (s.rev + 1) = some (⟨s.rev + 1, false, ⟨x.key, x.val, s.rev + 1, s.rev + 1, 1, x.lea⟩⟩ : Ev) := by unfold evOf; rw [hg]; simp only [Bool.false_eq_true, if_false]; rw [laid_none hf]
          have oky := evOf_ok hev HK.out.ok OK.out (by omega) (by omega) VERS.out
          have OKY : Hid (Ev.ok (⟨s.rev + 1, false, ⟨x.key, x.val, s.rev + 1, s.rev + 1, 1, x.lea⟩⟩ : Ev)) := Lib.hid oky
          have HN := Lib.hid (HC.out.more HX.out CI.out hev oky)
          clear hev oky hf
          rw [hg] at c0
          go_wp2_with fail
          refine TT.out.mono ?_; intro e w3 hr3
          obtain ⟨rfl, hb⟩ := hr3.none_
          have B3 := Lib.hid hb
          have CELL := Lib.hid (fun (p : Addr) (hp : p.block < wr.heap.size) => hb.cell hp)
          have hw3 := hb.size
          clear hb hr3
          have g0 : w3.cell? (a.add (k * 4)) = some (.bool false) := (CELL.out _ (by rw [block_add]; exact hbl)).trans c0
          have g1 := (CELL.out ⟨(a.add (k * 4)).block, (a.add (k * 4)).off + 1, none⟩ (by show (a.add (k * 4)).block < _; rw [block_add]; exact hbl)).trans c1
          have g2 := (CELL.out ⟨(a.add (k * 4)).block, (a.add (k * 4)).off + 2, none⟩ (by show (a.add (k * 4)).block < _; rw [block_add]; exact hbl)).trans c2
          have g3 := (CELL.out ⟨(a.add (k * 4)).block, (a.add (k * 4)).off + 3, none⟩ (by show (a.add (k * 4)).block < _; rw [block_add]; exact hbl)).trans c3
          have hab : (a.add (k * 4)).block < w3.heap.size := by rw [block_add]; omega
          have hab2 : ¬ (a.add (k * 4)).block = w3.heap.size := by omega
          have hab3 : ¬ w3.heap.size = (a.add (k * 4)).block := by omega
          clear c0 c1 c2 c3
          go_wp2
          obtain ⟨W4, hW4⟩ : ∃ W4, W4 = w3.alloc (.cells #[.string ⟨#[]⟩, .string ⟨#[]⟩, .int .i64 0, .int .i64 0, .int .i64 0, .int .i64 0] 45) := ⟨_, rfl⟩
          have X4 : Hid (Own W4 w3.heap.size 45 #[.string ⟨#[]⟩, .string ⟨#[]⟩, .int .i64 0, .int .i64 0, .int .i64 0, .int .i64 0]) := Lib.hid (by rw [hW4]; exact own_new _ _ _)
          have B4 : Hid (Below wr.heap.size wr W4) := Lib.hid (by rw [hW4]; exact then_ B3.out (new1 _ _))
          have S4 : Hid (Below w3.heap.size w3 W4) := Lib.hid (by rw [hW4]; exact new1 _ _)
          rw [← hW4]
          clear hW4
          have hw4 := X4.out.lt
          have g0 : W4.cell? (a.add (k * 4)) = some (.bool false) := (S4.out.cell hab).trans g0
          have g1 : W4.cell? ⟨(a.add (k * 4)).block, (a.add (k * 4)).off + 1, none⟩ = some (.string x.key) := (S4.out.cell (p := ⟨(a.add (k * 4)).block, (a.add (k * 4)).off + 1, none⟩) hab).trans g1
          have g2 : W4.cell? ⟨(a.add (k * 4)).block, (a.add (k * 4)).off + 2, none⟩ = some (.string x.val) := (S4.out.cell (p := ⟨(a.add (k * 4)).block, (a.add (k * 4)).off + 2, none⟩) hab).trans g2
          have g3 : W4.cell? ⟨(a.add (k * 4)).block, (a.add (k * 4)).off + 3, none⟩ = some (.int .i64 x.lea) := (S4.out.cell (p := ⟨(a.add (k * 4)).block, (a.add (k * 4)).off + 3, none⟩) hab).trans g3
          have z0 := X4.out.cell 0 _ rfl
          have z1 := X4.out.cell 1 _ rfl
          have z2 := X4.out.cell 2 _ rfl
          have z3 := X4.out.cell 3 _ rfl
          have z4 := X4.out.cell 4 _ rfl
          have z5 := X4.out.cell 5 _ rfl
          have hab4 : ¬ (a.add (k * 4)).block = W4.heap.size := by omega
          have hab5 : ¬ W4.heap.size = (a.add (k * 4)).block := by omega
          have hab6 : ¬ w3.heap.size = W4.heap.size := by omega
          have hab7 : ¬ W4.heap.size = w3.heap.size := by omega
          clear hab2 hab3
          go_region_held3 (fun w' => w'.cell? (a.add (k * 4)) = some (.bool false) ∧ w'.cell? ⟨w3.heap.size, 0, none⟩ = some (.string ⟨#[]⟩) ∧ w'.cell? ⟨w3.heap.size, 1, none⟩ = some (.string ⟨#[]⟩) ∧ w'.cell? ⟨w3.heap.size, 2, none⟩ = some (.int .i64 0) ∧ w'.cell? ⟨w3.heap.size, 3, none⟩ = some (.int .i64 0) ∧ w'.cell? ⟨w3.heap.size, 4, none⟩ = some (.int .i64 0) ∧ w'.cell? ⟨w3.heap.size, 5, none⟩ = some (.int .i64 0)) (go_keep) (fail)
          obtain ⟨W5, hW5⟩ : ∃ W5, W5 = (W4.alloc (.cells #[.int .i64 (s.rev + 1), .bool false, .string ⟨#[]⟩, .string ⟨#[]⟩, .int .i64 0, .int .i64 0, .int .i64 0, .int .i64 0] 79)).drew := ⟨_, rfl⟩
          obtain ⟨G, hG⟩ : ∃ G, G = W4.heap.size := ⟨_, rfl⟩
          have E5 : Hid (Own W5 G 79 #[.int .i64 (s.rev + 1), .bool false, .string ⟨#[]⟩, .string ⟨#[]⟩, .int .i64 0, .int .i64 0, .int .i64 0, .int .i64 0]) := Lib.hid (by rw [hW5, hG]; exact (own_new W4 _ _).below (new_drew _))
          have S5 : Hid (Below W4.heap.size W4 W5) := Lib.hid (by rw [hW5]; exact then_ (new1 W4 _) (new_drew _))
          have B5 := Lib.hid (then_ B4.out S5.out)
          rw [← hW5, ← hG]
          have hGg : wr.heap.size < G := by have := B3.out.size; omega
          have hGx : w3.heap.size < G := by omega
          clear hW5 hG z0 z1 z2 z3 z4 z5 hab5 hab6 hab7
          have X5 := Lib.hid (X4.out.below S5.out)
          have hab8 : (a.add (k * 4)).block < W4.heap.size := by omega
          have g0 : W5.cell? (a.add (k * 4)) = some (.bool false) := (S5.out.cell hab8).trans g0
          have g1 : W5.cell? ⟨(a.add (k * 4)).block, (a.add (k * 4)).off + 1, none⟩ = some (.string x.key) := (S5.out.cell (p := ⟨(a.add (k * 4)).block, (a.add (k * 4)).off + 1, none⟩) hab8).trans g1
          have g2 : W5.cell? ⟨(a.add (k * 4)).block, (a.add (k * 4)).off + 2, none⟩ = some (.string x.val) := (S5.out.cell (p := ⟨(a.add (k * 4)).block, (a.add (k * 4)).off + 2, none⟩) hab8).trans g2
          have g3 : W5.cell? ⟨(a.add (k * 4)).block, (a.add (k * 4)).off + 3, none⟩ = some (.int .i64 x.lea) := (S5.out.cell (p := ⟨(a.add (k * 4)).block, (a.add (k * 4)).off + 3, none⟩) hab8).trans g3
          have hab9 : ¬ (a.add (k * 4)).block = G := by omega
          have hab10 : ¬ G = (a.add (k * 4)).block := by omega
          have hgx1 : ¬ w3.heap.size = G := by omega
          have hgx2 : ¬ G = w3.heap.size := by omega
          have hGW := E5.out.lt
          have e0 := E5.out.cell 0 _ rfl
          have e1 := E5.out.cell 1 _ rfl
          have e2 := E5.out.cell 2 _ rfl
          have e3 := E5.out.cell 3 _ rfl
          have e4 := E5.out.cell 4 _ rfl
          have e5 := E5.out.cell 5 _ rfl
          have e6 := E5.out.cell 6 _ rfl
          have e7 := E5.out.cell 7 _ rfl
          have ef := E5.out.frozen
          go_wp2
          go_region_held3 (fun w' => w'.cell? ⟨(a.add (k * 4)).block, (a.add (k * 4)).off + 1, none⟩ = some (.string x.key) ∧ w'.cell? ⟨(a.add (k * 4)).block, (a.add (k * 4)).off + 2, none⟩ = some (.string x.val) ∧ w'.cell? ⟨(a.add (k * 4)).block, (a.add (k * 4)).off + 3, none⟩ = some (.int .i64 x.lea)) (go_keep) (fail)
          obtain ⟨W6, hW6⟩ : ∃ W6, W6 = ((((((W5.setCell ⟨G, 2, none⟩ (.string x.key)).setCell ⟨G, 3, none⟩ (.string x.val)).setCell ⟨G, 4, none⟩ (.int .i64 (s.rev + 1))).setCell ⟨G, 5, none⟩ (.int .i64 (s.rev + 1))).setCell ⟨G, 6, none⟩ (.int .i64 1)).setCell ⟨G, 7, none⟩ (.int .i64 x.lea)).drew := ⟨_, rfl⟩
          have E6 : Hid (Own W6 G 79 #[.int .i64 (s.rev + 1), .bool false, .string x.key, .string x.val, .int .i64 (s.rev + 1), .int .i64 (s.rev + 1), .int .i64 1, .int .i64 x.lea]) := Lib.hid (by rw [hW6]; exact (((((((E5.out.set 2 (.string x.key)).set 3 (.string x.val)).set 4 (.int .i64 (s.rev + 1))).set 5 (.int .i64 (s.rev + 1))).set 6 (.int .i64 1)).set 7 (.int .i64 x.lea))).below (new_drew _))
          have B6 : Hid (Below wr.heap.size wr W6) := Lib.hid (by rw [hW6]; exact (((((((B5.out.setCell (p := ⟨G, 2, none⟩) (Nat.le_of_lt hGg) (.string x.key)).setCell (p := ⟨G, 3, none⟩) (Nat.le_of_lt hGg) (.string x.val)).setCell (p := ⟨G, 4, none⟩) (Nat.le_of_lt hGg) (.int .i64 (s.rev + 1))).setCell (p := ⟨G, 5, none⟩) (Nat.le_of_lt hGg) (.int .i64 (s.rev + 1))).setCell (p := ⟨G, 6, none⟩) (Nat.le_of_lt hGg) (.int .i64 1)).setCell (p := ⟨G, 7, none⟩) (Nat.le_of_lt hGg) (.int .i64 x.lea))).drew)
          rw [← hW6]
          clear hW6 e0 e1 e2 e3 e4 e5 e6 e7 ef
          have EF : Hid (Own W6 G 79 #[.int .i64 (s.rev + 1), .bool false, .string x.key, .string x.val, .int .i64 (s.rev + 1), .int .i64 (s.rev + 1), .int .i64 1, .int .i64 x.lea]) := E6
          obtain ⟨v8, w8, hr8, hown8, hb8, hg8, hat8⟩ := app_evs2 w2.heap.size (.slice E en ec) en es (W6.alloc (Ev.obj (⟨s.rev + 1, false, ⟨x.key, x.val, s.rev + 1, s.rev + 1, 1, x.lea⟩⟩ : Ev) 79)) ((ownE_kept HO.out B6.out).alloc _) (some ⟨W6.heap.size, 0, none⟩) 1 1 [(⟨s.rev + 1, false, ⟨x.key, x.val, s.rev + 1, s.rev + 1, 1, x.lea⟩⟩ : Ev)] (evs_one W6 (⟨s.rev + 1, false, ⟨x.key, x.val, s.rev + 1, s.rev + 1, 1, x.lea⟩⟩ : Ev) OKY.out) (by omega) (by have := (B6.out).size; simp; omega) 23
          obtain ⟨E8, ec8, rfl⟩ := ownE_shape hown8
          have HO8 := Lib.hid hown8
          have hold : Hid (∀ g, (Value.slice E en ec).ownBlock = some g → g < wr.heap.size) := Lib.hid (fun g hg => (ownBlock_lt HO.out hg).2)
          have E8b := Lib.hid ((EF.out.alloc (Ev.obj (⟨s.rev + 1, false, ⟨x.key, x.val, s.rev + 1, s.rev + 1, 1, x.lea⟩⟩ : Ev) 79)).kept hg8 (fun hh => by have := hold.out G hh.symm; omega))
          have K8 := Lib.hid (((HK.out.keep B6.out).keep (new1 W6 (Ev.obj (⟨s.rev + 1, false, ⟨x.key, x.val, s.rev + 1, s.rev + 1, 1, x.lea⟩⟩ : Ev) 79))).kept' hg8 (fun h0 a ha hh => HSEP.out a a.block h0 ha hh.symm rfl))
          have B8 : Hid (Below w2.heap.size w2 w8) := Lib.hid ((then_ (then_ HB.out B6.out) (new1 W6 (Ev.obj (⟨s.rev + 1, false, ⟨x.key, x.val, s.rev + 1, s.rev + 1, 1, x.lea⟩⟩ : Ev) 79))).grown hg8 (by have := (B6.out).size; simp; omega) (fun g hg => (ownBlock_lt HO.out hg).1))
          have hsz8 := hb8.size
          have SEPO : Hid (0 < n' → ∀ a g, A' = some a → (Value.slice E8 (en + 1) ec8).ownBlock = some g → a.block ≠ g) := Lib.hid (fun h0 a g ha hg => by
            rcases hat8 with h | h
            · exact HSEP.out a g h0 ha (by rw [← h]; exact hg)
            · rw [h] at hg
              injection hg with hg
              obtain ⟨a', e', hlt', _⟩ := HK.out.rd h0
              rw [ha] at e'; injection e' with e'; subst e'
              have h1 := (B6.out).size
              simp at hg
              omega)
          have e0 := EF.out.cell 0 _ rfl
          have e1 := EF.out.cell 1 _ rfl
          have e2 := EF.out.cell 2 _ rfl
          have e3 := EF.out.cell 3 _ rfl
          have e4 := EF.out.cell 4 _ rfl
          have e5 := EF.out.cell 5 _ rfl
          have e6 := EF.out.cell 6 _ rfl
          have e7 := EF.out.cell 7 _ rfl
          have i0 := E8b.out.cell 0 _ rfl
          have i1 := E8b.out.cell 1 _ rfl
          have i2 := E8b.out.cell 2 _ rfl
          have i3 := E8b.out.cell 3 _ rfl
          have i4 := E8b.out.cell 4 _ rfl
          have i5 := E8b.out.cell 5 _ rfl
          have i6 := E8b.out.cell 6 _ rfl
          have i7 := E8b.out.cell 7 _ rfl
          clear hown8 hb8 hg8 hat8
          go_wp2_with (at_builtin; refine wpList_append_eq _ rfl (.tmp 93) (.tmp 95) _ _ rfl _ _ rfl rfl hr8 ?_)
          clear hr8 e0 e1 e2 e3 e4 e5 e6 e7
          refine (fold_reff A' n' c' L (some ⟨w8.heap.size, 0, none⟩) 1 1 [(⟨s.rev + 1, false, ⟨x.key, x.val, s.rev + 1, s.rev + 1, 1, x.lea⟩⟩ : Ev)] (s.rev + 1) (w8.alloc (Ev.obj (⟨s.rev + 1, false, ⟨x.key, x.val, s.rev + 1, s.rev + 1, 1, x.lea⟩⟩ : Ev) 79)) (K8.out.keep (new1 w8 _)) (evs_one w8 (⟨s.rev + 1, false, ⟨x.key, x.val, s.rev + 1, s.rev + 1, 1, x.lea⟩⟩ : Ev) OKY.out) (by omega)).mono ?_; rintro e w9 ⟨A9, n9, c9, rfl, h9, hb9, hf9⟩
          have HF9 := Lib.hid (show foldL L [(⟨s.rev + 1, false, ⟨x.key, x.val, s.rev + 1, s.rev + 1, 1, x.lea⟩⟩ : Ev)] (s.rev + 1) = afterE L (⟨s.rev + 1, false, ⟨x.key, x.val, s.rev + 1, s.rev + 1, 1, x.lea⟩⟩ : Ev) from after_fold L (⟨s.rev + 1, false, ⟨x.key, x.val, s.rev + 1, s.rev + 1, 1, x.lea⟩⟩ : Ev))
          rw [HF9.out] at h9
          have K9 := Lib.hid h9
          have B9 := Lib.hid (then_ (then_ B8.out (new1 w8 (Ev.obj (⟨s.rev + 1, false, ⟨x.key, x.val, s.rev + 1, s.rev + 1, 1, x.lea⟩⟩ : Ev) 79))) hb9)
          have HO9 := Lib.hid (ownE_kept (ownE_kept HO8.out (new1 w8 (Ev.obj (⟨s.rev + 1, false, ⟨x.key, x.val, s.rev + 1, s.rev + 1, 1, x.lea⟩⟩ : Ev) 79))) hb9)
          have HL9 := Lib.hid h9.len
          have SEP9 : Hid (∀ a g, 0 < n9 → A9 = some a → (Value.slice E8 (en + 1) ec8).ownBlock = some g → a.block ≠ g) := Lib.hid (fun a g h0 ha hg => by
            rcases hf9 with ⟨h1, h2⟩ | h1
            · subst h1 h2
              exact SEPO.out h0 a g ha hg
            · have h2 := h1 a ha
              have h3 := (ownBlock_lt HO8.out hg).2
              simp at h2
              omega)
          clear h9 hb9 hf9 i0 i1 i2 i3 i4 i5 i6 i7
          cases b with
          | true =>
            have HN3 : Hid (ComeTo (s.rev + 1) (nowL s) ms (k + 1) (es ++ [(⟨s.rev + 1, false, ⟨x.key, x.val, s.rev + 1, s.rev + 1, 1, x.lea⟩⟩ : Ev)]) (afterE L (⟨s.rev + 1, false, ⟨x.key, x.val, s.rev + 1, s.rev + 1, 1, x.lea⟩⟩ : Ev)) (!true)) := Lib.hid (by have h := HN.out; simpa using h)
            go_wp2
            go_roundw
            case rel => exact ⟨k + 1, E8, en + 1, ec8, es ++ [(⟨s.rev + 1, false, ⟨x.key, x.val, s.rev + 1, s.rev + 1, 1, x.lea⟩⟩ : Ev)], A9, n9, c9, _, true, by omega, by go_num, rfl, rfl, rfl, HO9.out, K9.out, HN3.out, SEP9.out, B9.out⟩
            case measure => simp [intOf]; omega
          | false =>
            by_cases h30 : n9 ≤ 30
            · have HN3 : Hid (ComeTo (s.rev + 1) (nowL s) ms (k + 1) (es ++ [(⟨s.rev + 1, false, ⟨x.key, x.val, s.rev + 1, s.rev + 1, 1, x.lea⟩⟩ : Ev)]) (afterE L (⟨s.rev + 1, false, ⟨x.key, x.val, s.rev + 1, s.rev + 1, 1, x.lea⟩⟩ : Ev)) (!false)) := Lib.hid (by have h := HN.out; rw [HL9.out, decide_eq_true h30] at h; simpa using h)
              go_wp2
              go_roundw
              case rel => exact ⟨k + 1, E8, en + 1, ec8, es ++ [(⟨s.rev + 1, false, ⟨x.key, x.val, s.rev + 1, s.rev + 1, 1, x.lea⟩⟩ : Ev)], A9, n9, c9, _, false, by omega, by go_num, rfl, rfl, by simp; omega, HO9.out, K9.out, HN3.out, SEP9.out, B9.out⟩
              case measure => simp [intOf]; omega
            · have HN3 : Hid (ComeTo (s.rev + 1) (nowL s) ms (k + 1) (es ++ [(⟨s.rev + 1, false, ⟨x.key, x.val, s.rev + 1, s.rev + 1, 1, x.lea⟩⟩ : Ev)]) (afterE L (⟨s.rev + 1, false, ⟨x.key, x.val, s.rev + 1, s.rev + 1, 1, x.lea⟩⟩ : Ev)) (!true)) := Lib.hid (by have h := HN.out; rw [HL9.out, decide_eq_false h30] at h; simpa using h)
              go_wp2
              go_roundw
              case rel => exact ⟨k + 1, E8, en + 1, ec8, es ++ [(⟨s.rev + 1, false, ⟨x.key, x.val, s.rev + 1, s.rev + 1, 1, x.lea⟩⟩ : Ev)], A9, n9, c9, _, true, by omega, by go_num, rfl, rfl, by simp; omega, HO9.out, K9.out, HN3.out, SEP9.out, B9.out⟩
              case measure => simp [intOf]; omega
      | some y =>
        rw [hf] at t
        have TT := Lib.hid t; clear t
        have hvy := VERS.out y (findL_mem _ _ _ hf).1
        cases hg : x.gone with
        | true =>
          have hev : evOf L x (s.rev + 1) = some (⟨s.rev + 1, true, y⟩ : Ev) := by unfold evOf; rw [hg, hf]; rfl
          have oky := evOf_ok hev HK.out.ok OK.out (by omega) (by omega) VERS.out
          have OKY : Hid (Ev.ok (⟨s.rev + 1, true, y⟩ : Ev)) := Lib.hid oky
          have HN := Lib.hid (HC.out.more HX.out CI.out hev oky)
          clear hev oky hf
          rw [hg] at c0
          go_wp2_with fail
          refine TT.out.mono ?_; intro e w3 hr3
          obtain ⟨rfl, hb⟩ := hr3.some_
          have B3 := Lib.hid hb
          have CELL := Lib.hid (fun (p : Addr) (hp : p.block < wr.heap.size) => hb.cell hp)
          have hw3 := hb.size
          clear hb hr3
          have g0 : w3.cell? (a.add (k * 4)) = some (.bool true) := (CELL.out _ (by rw [block_add]; exact hbl)).trans c0
          have g1 := (CELL.out ⟨(a.add (k * 4)).block, (a.add (k * 4)).off + 1, none⟩ (by show (a.add (k * 4)).block < _; rw [block_add]; exact hbl)).trans c1
          have g2 := (CELL.out ⟨(a.add (k * 4)).block, (a.add (k * 4)).off + 2, none⟩ (by show (a.add (k * 4)).block < _; rw [block_add]; exact hbl)).trans c2
          have g3 := (CELL.out ⟨(a.add (k * 4)).block, (a.add (k * 4)).off + 3, none⟩ (by show (a.add (k * 4)).block < _; rw [block_add]; exact hbl)).trans c3
          have hab : (a.add (k * 4)).block < w3.heap.size := by rw [block_add]; omega
          have hab2 : ¬ (a.add (k * 4)).block = w3.heap.size := by omega
          have hab3 : ¬ w3.heap.size = (a.add (k * 4)).block := by omega
          clear c0 c1 c2 c3
          go_wp2
          obtain ⟨W4, hW4⟩ : ∃ W4, W4 = w3.alloc (.cells #[.string y.key, .string y.val, .int .i64 y.cre, .int .i64 y.mod, .int .i64 y.ver, .int .i64 y.lea] 45) := ⟨_, rfl⟩
          have X4 : Hid (Own W4 w3.heap.size 45 #[.string y.key, .string y.val, .int .i64 y.cre, .int .i64 y.mod, .int .i64 y.ver, .int .i64 y.lea]) := Lib.hid (by rw [hW4]; exact own_new _ _ _)
          have B4 : Hid (Below wr.heap.size wr W4) := Lib.hid (by rw [hW4]; exact then_ B3.out (new1 _ _))
          have S4 : Hid (Below w3.heap.size w3 W4) := Lib.hid (by rw [hW4]; exact new1 _ _)
          rw [← hW4]
          clear hW4
          have hw4 := X4.out.lt
          have g0 : W4.cell? (a.add (k * 4)) = some (.bool true) := (S4.out.cell hab).trans g0
          have g1 : W4.cell? ⟨(a.add (k * 4)).block, (a.add (k * 4)).off + 1, none⟩ = some (.string x.key) := (S4.out.cell (p := ⟨(a.add (k * 4)).block, (a.add (k * 4)).off + 1, none⟩) hab).trans g1
          have g2 : W4.cell? ⟨(a.add (k * 4)).block, (a.add (k * 4)).off + 2, none⟩ = some (.string x.val) := (S4.out.cell (p := ⟨(a.add (k * 4)).block, (a.add (k * 4)).off + 2, none⟩) hab).trans g2
          have g3 : W4.cell? ⟨(a.add (k * 4)).block, (a.add (k * 4)).off + 3, none⟩ = some (.int .i64 x.lea) := (S4.out.cell (p := ⟨(a.add (k * 4)).block, (a.add (k * 4)).off + 3, none⟩) hab).trans g3
          have z0 := X4.out.cell 0 _ rfl
          have z1 := X4.out.cell 1 _ rfl
          have z2 := X4.out.cell 2 _ rfl
          have z3 := X4.out.cell 3 _ rfl
          have z4 := X4.out.cell 4 _ rfl
          have z5 := X4.out.cell 5 _ rfl
          have hab4 : ¬ (a.add (k * 4)).block = W4.heap.size := by omega
          have hab5 : ¬ W4.heap.size = (a.add (k * 4)).block := by omega
          have hab6 : ¬ w3.heap.size = W4.heap.size := by omega
          have hab7 : ¬ W4.heap.size = w3.heap.size := by omega
          clear hab2 hab3
          go_region_held3 (fun w' => w'.cell? (a.add (k * 4)) = some (.bool true) ∧ w'.cell? ⟨w3.heap.size, 0, none⟩ = some (.string y.key) ∧ w'.cell? ⟨w3.heap.size, 1, none⟩ = some (.string y.val) ∧ w'.cell? ⟨w3.heap.size, 2, none⟩ = some (.int .i64 y.cre) ∧ w'.cell? ⟨w3.heap.size, 3, none⟩ = some (.int .i64 y.mod) ∧ w'.cell? ⟨w3.heap.size, 4, none⟩ = some (.int .i64 y.ver) ∧ w'.cell? ⟨w3.heap.size, 5, none⟩ = some (.int .i64 y.lea)) (go_keep) (fail)
          obtain ⟨W5, hW5⟩ : ∃ W5, W5 = (W4.alloc (.cells #[.int .i64 (s.rev + 1), .bool true, .string y.key, .string y.val, .int .i64 y.cre, .int .i64 y.mod, .int .i64 y.ver, .int .i64 y.lea] 79)).drew := ⟨_, rfl⟩
          obtain ⟨G, hG⟩ : ∃ G, G = W4.heap.size := ⟨_, rfl⟩
          have E5 : Hid (Own W5 G 79 #[.int .i64 (s.rev + 1), .bool true, .string y.key, .string y.val, .int .i64 y.cre, .int .i64 y.mod, .int .i64 y.ver, .int .i64 y.lea]) := Lib.hid (by rw [hW5, hG]; exact (own_new W4 _ _).below (new_drew _))
          have S5 : Hid (Below W4.heap.size W4 W5) := Lib.hid (by rw [hW5]; exact then_ (new1 W4 _) (new_drew _))
          have B5 := Lib.hid (then_ B4.out S5.out)
          rw [← hW5, ← hG]
          have hGg : wr.heap.size < G := by have := B3.out.size; omega
          have hGx : w3.heap.size < G := by omega
          clear hW5 hG z0 z1 z2 z3 z4 z5 hab5 hab6 hab7
          have X5 := Lib.hid (X4.out.below S5.out)
          have hab8 : (a.add (k * 4)).block < W4.heap.size := by omega
          have g0 : W5.cell? (a.add (k * 4)) = some (.bool true) := (S5.out.cell hab8).trans g0
          have g1 : W5.cell? ⟨(a.add (k * 4)).block, (a.add (k * 4)).off + 1, none⟩ = some (.string x.key) := (S5.out.cell (p := ⟨(a.add (k * 4)).block, (a.add (k * 4)).off + 1, none⟩) hab8).trans g1
          have g2 : W5.cell? ⟨(a.add (k * 4)).block, (a.add (k * 4)).off + 2, none⟩ = some (.string x.val) := (S5.out.cell (p := ⟨(a.add (k * 4)).block, (a.add (k * 4)).off + 2, none⟩) hab8).trans g2
          have g3 : W5.cell? ⟨(a.add (k * 4)).block, (a.add (k * 4)).off + 3, none⟩ = some (.int .i64 x.lea) := (S5.out.cell (p := ⟨(a.add (k * 4)).block, (a.add (k * 4)).off + 3, none⟩) hab8).trans g3
          have hab9 : ¬ (a.add (k * 4)).block = G := by omega
          have hab10 : ¬ G = (a.add (k * 4)).block := by omega
          have hgx1 : ¬ w3.heap.size = G := by omega
          have hgx2 : ¬ G = w3.heap.size := by omega
          have hGW := E5.out.lt
          have EF : Hid (Own W5 G 79 #[.int .i64 (s.rev + 1), .bool true, .string y.key, .string y.val, .int .i64 y.cre, .int .i64 y.mod, .int .i64 y.ver, .int .i64 y.lea]) := E5
          obtain ⟨v8, w8, hr8, hown8, hb8, hg8, hat8⟩ := app_evs2 w2.heap.size (.slice E en ec) en es (W5.alloc (Ev.obj (⟨s.rev + 1, true, y⟩ : Ev) 79)) ((ownE_kept HO.out B5.out).alloc _) (some ⟨W5.heap.size, 0, none⟩) 1 1 [(⟨s.rev + 1, true, y⟩ : Ev)] (evs_one W5 (⟨s.rev + 1, true, y⟩ : Ev) OKY.out) (by omega) (by have := (B5.out).size; simp; omega) 23
          obtain ⟨E8, ec8, rfl⟩ := ownE_shape hown8
          have HO8 := Lib.hid hown8
          have hold : Hid (∀ g, (Value.slice E en ec).ownBlock = some g → g < wr.heap.size) := Lib.hid (fun g hg => (ownBlock_lt HO.out hg).2)
          have E8b := Lib.hid ((EF.out.alloc (Ev.obj (⟨s.rev + 1, true, y⟩ : Ev) 79)).kept hg8 (fun hh => by have := hold.out G hh.symm; omega))
          have K8 := Lib.hid (((HK.out.keep B5.out).keep (new1 W5 (Ev.obj (⟨s.rev + 1, true, y⟩ : Ev) 79))).kept' hg8 (fun h0 a ha hh => HSEP.out a a.block h0 ha hh.symm rfl))
          have B8 : Hid (Below w2.heap.size w2 w8) := Lib.hid ((then_ (then_ HB.out B5.out) (new1 W5 (Ev.obj (⟨s.rev + 1, true, y⟩ : Ev) 79))).grown hg8 (by have := (B5.out).size; simp; omega) (fun g hg => (ownBlock_lt HO.out hg).1))
          have hsz8 := hb8.size
          have SEPO : Hid (0 < n' → ∀ a g, A' = some a → (Value.slice E8 (en + 1) ec8).ownBlock = some g → a.block ≠ g) := Lib.hid (fun h0 a g ha hg => by
            rcases hat8 with h | h
            · exact HSEP.out a g h0 ha (by rw [← h]; exact hg)
            · rw [h] at hg
              injection hg with hg
              obtain ⟨a', e', hlt', _⟩ := HK.out.rd h0
              rw [ha] at e'; injection e' with e'; subst e'
              have h1 := (B5.out).size
              simp at hg
              omega)
          have e0 := EF.out.cell 0 _ rfl
          have e1 := EF.out.cell 1 _ rfl
          have e2 := EF.out.cell 2 _ rfl
          have e3 := EF.out.cell 3 _ rfl
          have e4 := EF.out.cell 4 _ rfl
          have e5 := EF.out.cell 5 _ rfl
          have e6 := EF.out.cell 6 _ rfl
          have e7 := EF.out.cell 7 _ rfl
          have i0 := E8b.out.cell 0 _ rfl
          have i1 := E8b.out.cell 1 _ rfl
          have i2 := E8b.out.cell 2 _ rfl
          have i3 := E8b.out.cell 3 _ rfl
          have i4 := E8b.out.cell 4 _ rfl
          have i5 := E8b.out.cell 5 _ rfl
          have i6 := E8b.out.cell 6 _ rfl
          have i7 := E8b.out.cell 7 _ rfl
          clear hown8 hb8 hg8 hat8
          go_wp2_with (at_builtin; refine wpList_append_eq _ rfl (.tmp 93) (.tmp 95) _ _ rfl _ _ rfl rfl hr8 ?_)
          clear hr8 e0 e1 e2 e3 e4 e5 e6 e7
          refine (fold_reff A' n' c' L (some ⟨w8.heap.size, 0, none⟩) 1 1 [(⟨s.rev + 1, true, y⟩ : Ev)] (s.rev + 1) (w8.alloc (Ev.obj (⟨s.rev + 1, true, y⟩ : Ev) 79)) (K8.out.keep (new1 w8 _)) (evs_one w8 (⟨s.rev + 1, true, y⟩ : Ev) OKY.out) (by omega)).mono ?_; rintro e w9 ⟨A9, n9, c9, rfl, h9, hb9, hf9⟩
          have HF9 := Lib.hid (show foldL L [(⟨s.rev + 1, true, y⟩ : Ev)] (s.rev + 1) = afterE L (⟨s.rev + 1, true, y⟩ : Ev) from after_fold L (⟨s.rev + 1, true, y⟩ : Ev))
          rw [HF9.out] at h9
          have K9 := Lib.hid h9
          have B9 := Lib.hid (then_ (then_ B8.out (new1 w8 (Ev.obj (⟨s.rev + 1, true, y⟩ : Ev) 79))) hb9)
          have HO9 := Lib.hid (ownE_kept (ownE_kept HO8.out (new1 w8 (Ev.obj (⟨s.rev + 1, true, y⟩ : Ev) 79))) hb9)
          have HL9 := Lib.hid h9.len
          have SEP9 : Hid (∀ a g, 0 < n9 → A9 = some a → (Value.slice E8 (en + 1) ec8).ownBlock = some g → a.block ≠ g) := Lib.hid (fun a g h0 ha hg => by
            rcases hf9 with ⟨h1, h2⟩ | h1
            · subst h1 h2
              exact SEPO.out h0 a g ha hg
            · have h2 := h1 a ha
              have h3 := (ownBlock_lt HO8.out hg).2
              simp at h2
              omega)
          clear h9 hb9 hf9 i0 i1 i2 i3 i4 i5 i6 i7
          cases b with
          | true =>
            have HN3 : Hid (ComeTo (s.rev + 1) (nowL s) ms (k + 1) (es ++ [(⟨s.rev + 1, true, y⟩ : Ev)]) (afterE L (⟨s.rev + 1, true, y⟩ : Ev)) (!true)) := Lib.hid (by have h := HN.out; simpa using h)
            go_wp2
            go_roundw
            case rel => exact ⟨k + 1, E8, en + 1, ec8, es ++ [(⟨s.rev + 1, true, y⟩ : Ev)], A9, n9, c9, _, true, by omega, by go_num, rfl, rfl, rfl, HO9.out, K9.out, HN3.out, SEP9.out, B9.out⟩
            case measure => simp [intOf]; omega
          | false =>
            by_cases h30 : n9 ≤ 30
            · have HN3 : Hid (ComeTo (s.rev + 1) (nowL s) ms (k + 1) (es ++ [(⟨s.rev + 1, true, y⟩ : Ev)]) (afterE L (⟨s.rev + 1, true, y⟩ : Ev)) (!false)) := Lib.hid (by have h := HN.out; rw [HL9.out, decide_eq_true h30] at h; simpa using h)
              go_wp2
              go_roundw
              case rel => exact ⟨k + 1, E8, en + 1, ec8, es ++ [(⟨s.rev + 1, true, y⟩ : Ev)], A9, n9, c9, _, false, by omega, by go_num, rfl, rfl, by simp; omega, HO9.out, K9.out, HN3.out, SEP9.out, B9.out⟩
              case measure => simp [intOf]; omega
            · have HN3 : Hid (ComeTo (s.rev + 1) (nowL s) ms (k + 1) (es ++ [(⟨s.rev + 1, true, y⟩ : Ev)]) (afterE L (⟨s.rev + 1, true, y⟩ : Ev)) (!true)) := Lib.hid (by have h := HN.out; rw [HL9.out, decide_eq_false h30] at h; simpa using h)
              go_wp2
              go_roundw
              case rel => exact ⟨k + 1, E8, en + 1, ec8, es ++ [(⟨s.rev + 1, true, y⟩ : Ev)], A9, n9, c9, _, true, by omega, by go_num, rfl, rfl, by simp; omega, HO9.out, K9.out, HN3.out, SEP9.out, B9.out⟩
              case measure => simp [intOf]; omega
        | false =>
          have hev : evOf L x (s.rev + 1) = some (⟨s.rev + 1, false, ⟨x.key, x.val, y.cre, s.rev + 1, y.ver + 1, x.lea⟩⟩ : Ev) := by unfold evOf; rw [hg]; simp only [Bool.false_eq_true, if_false]; rw [laid_some hf]
          have oky := evOf_ok hev HK.out.ok OK.out (by omega) (by omega) VERS.out
          have OKY : Hid (Ev.ok (⟨s.rev + 1, false, ⟨x.key, x.val, y.cre, s.rev + 1, y.ver + 1, x.lea⟩⟩ : Ev)) := Lib.hid oky
          have HN := Lib.hid (HC.out.more HX.out CI.out hev oky)
          clear hev oky hf
          rw [hg] at c0
          go_wp2_with fail
          refine TT.out.mono ?_; intro e w3 hr3
          obtain ⟨rfl, hb⟩ := hr3.some_
          have B3 := Lib.hid hb
          have CELL := Lib.hid (fun (p : Addr) (hp : p.block < wr.heap.size) => hb.cell hp)
          have hw3 := hb.size
          clear hb hr3
          have g0 : w3.cell? (a.add (k * 4)) = some (.bool false) := (CELL.out _ (by rw [block_add]; exact hbl)).trans c0
          have g1 := (CELL.out ⟨(a.add (k * 4)).block, (a.add (k * 4)).off + 1, none⟩ (by show (a.add (k * 4)).block < _; rw [block_add]; exact hbl)).trans c1
          have g2 := (CELL.out ⟨(a.add (k * 4)).block, (a.add (k * 4)).off + 2, none⟩ (by show (a.add (k * 4)).block < _; rw [block_add]; exact hbl)).trans c2
          have g3 := (CELL.out ⟨(a.add (k * 4)).block, (a.add (k * 4)).off + 3, none⟩ (by show (a.add (k * 4)).block < _; rw [block_add]; exact hbl)).trans c3
          have hab : (a.add (k * 4)).block < w3.heap.size := by rw [block_add]; omega
          have hab2 : ¬ (a.add (k * 4)).block = w3.heap.size := by omega
          have hab3 : ¬ w3.heap.size = (a.add (k * 4)).block := by omega
          clear c0 c1 c2 c3
          go_wp2
          obtain ⟨W4, hW4⟩ : ∃ W4, W4 = w3.alloc (.cells #[.string y.key, .string y.val, .int .i64 y.cre, .int .i64 y.mod, .int .i64 y.ver, .int .i64 y.lea] 45) := ⟨_, rfl⟩
          have X4 : Hid (Own W4 w3.heap.size 45 #[.string y.key, .string y.val, .int .i64 y.cre, .int .i64 y.mod, .int .i64 y.ver, .int .i64 y.lea]) := Lib.hid (by rw [hW4]; exact own_new _ _ _)
          have B4 : Hid (Below wr.heap.size wr W4) := Lib.hid (by rw [hW4]; exact then_ B3.out (new1 _ _))
          have S4 : Hid (Below w3.heap.size w3 W4) := Lib.hid (by rw [hW4]; exact new1 _ _)
          rw [← hW4]
          clear hW4
          have hw4 := X4.out.lt
          have g0 : W4.cell? (a.add (k * 4)) = some (.bool false) := (S4.out.cell hab).trans g0
          have g1 : W4.cell? ⟨(a.add (k * 4)).block, (a.add (k * 4)).off + 1, none⟩ = some (.string x.key) := (S4.out.cell (p := ⟨(a.add (k * 4)).block, (a.add (k * 4)).off + 1, none⟩) hab).trans g1
          have g2 : W4.cell? ⟨(a.add (k * 4)).block, (a.add (k * 4)).off + 2, none⟩ = some (.string x.val) := (S4.out.cell (p := ⟨(a.add (k * 4)).block, (a.add (k * 4)).off + 2, none⟩) hab).trans g2
          have g3 : W4.cell? ⟨(a.add (k * 4)).block, (a.add (k * 4)).off + 3, none⟩ = some (.int .i64 x.lea) := (S4.out.cell (p := ⟨(a.add (k * 4)).block, (a.add (k * 4)).off + 3, none⟩) hab).trans g3
          have z0 := X4.out.cell 0 _ rfl
          have z1 := X4.out.cell 1 _ rfl
          have z2 := X4.out.cell 2 _ rfl
          have z3 := X4.out.cell 3 _ rfl
          have z4 := X4.out.cell 4 _ rfl
          have z5 := X4.out.cell 5 _ rfl
          have hab4 : ¬ (a.add (k * 4)).block = W4.heap.size := by omega
          have hab5 : ¬ W4.heap.size = (a.add (k * 4)).block := by omega
          have hab6 : ¬ w3.heap.size = W4.heap.size := by omega
          have hab7 : ¬ W4.heap.size = w3.heap.size := by omega
          clear hab2 hab3
          go_region_held3 (fun w' => w'.cell? (a.add (k * 4)) = some (.bool false) ∧ w'.cell? ⟨w3.heap.size, 0, none⟩ = some (.string y.key) ∧ w'.cell? ⟨w3.heap.size, 1, none⟩ = some (.string y.val) ∧ w'.cell? ⟨w3.heap.size, 2, none⟩ = some (.int .i64 y.cre) ∧ w'.cell? ⟨w3.heap.size, 3, none⟩ = some (.int .i64 y.mod) ∧ w'.cell? ⟨w3.heap.size, 4, none⟩ = some (.int .i64 y.ver) ∧ w'.cell? ⟨w3.heap.size, 5, none⟩ = some (.int .i64 y.lea)) (go_keep) (fail)
          obtain ⟨W5, hW5⟩ : ∃ W5, W5 = (W4.alloc (.cells #[.int .i64 (s.rev + 1), .bool false, .string y.key, .string y.val, .int .i64 y.cre, .int .i64 y.mod, .int .i64 y.ver, .int .i64 y.lea] 79)).drew := ⟨_, rfl⟩
          obtain ⟨G, hG⟩ : ∃ G, G = W4.heap.size := ⟨_, rfl⟩
          have E5 : Hid (Own W5 G 79 #[.int .i64 (s.rev + 1), .bool false, .string y.key, .string y.val, .int .i64 y.cre, .int .i64 y.mod, .int .i64 y.ver, .int .i64 y.lea]) := Lib.hid (by rw [hW5, hG]; exact (own_new W4 _ _).below (new_drew _))
          have S5 : Hid (Below W4.heap.size W4 W5) := Lib.hid (by rw [hW5]; exact then_ (new1 W4 _) (new_drew _))
          have B5 := Lib.hid (then_ B4.out S5.out)
          rw [← hW5, ← hG]
          have hGg : wr.heap.size < G := by have := B3.out.size; omega
          have hGx : w3.heap.size < G := by omega
          clear hW5 hG z0 z1 z2 z3 z4 z5 hab5 hab6 hab7
          have X5 := Lib.hid (X4.out.below S5.out)
          have hab8 : (a.add (k * 4)).block < W4.heap.size := by omega
          have g0 : W5.cell? (a.add (k * 4)) = some (.bool false) := (S5.out.cell hab8).trans g0
          have g1 : W5.cell? ⟨(a.add (k * 4)).block, (a.add (k * 4)).off + 1, none⟩ = some (.string x.key) := (S5.out.cell (p := ⟨(a.add (k * 4)).block, (a.add (k * 4)).off + 1, none⟩) hab8).trans g1
          have g2 : W5.cell? ⟨(a.add (k * 4)).block, (a.add (k * 4)).off + 2, none⟩ = some (.string x.val) := (S5.out.cell (p := ⟨(a.add (k * 4)).block, (a.add (k * 4)).off + 2, none⟩) hab8).trans g2
          have g3 : W5.cell? ⟨(a.add (k * 4)).block, (a.add (k * 4)).off + 3, none⟩ = some (.int .i64 x.lea) := (S5.out.cell (p := ⟨(a.add (k * 4)).block, (a.add (k * 4)).off + 3, none⟩) hab8).trans g3
          have hab9 : ¬ (a.add (k * 4)).block = G := by omega
          have hab10 : ¬ G = (a.add (k * 4)).block := by omega
          have hgx1 : ¬ w3.heap.size = G := by omega
          have hgx2 : ¬ G = w3.heap.size := by omega
          have hGW := E5.out.lt
          have e0 := E5.out.cell 0 _ rfl
          have e1 := E5.out.cell 1 _ rfl
          have e2 := E5.out.cell 2 _ rfl
          have e3 := E5.out.cell 3 _ rfl
          have e4 := E5.out.cell 4 _ rfl
          have e5 := E5.out.cell 5 _ rfl
          have e6 := E5.out.cell 6 _ rfl
          have e7 := E5.out.cell 7 _ rfl
          have ef := E5.out.frozen
          go_wp2
          go_region_held3 (fun w' => w'.cell? ⟨(a.add (k * 4)).block, (a.add (k * 4)).off + 1, none⟩ = some (.string x.key) ∧ w'.cell? ⟨(a.add (k * 4)).block, (a.add (k * 4)).off + 2, none⟩ = some (.string x.val) ∧ w'.cell? ⟨(a.add (k * 4)).block, (a.add (k * 4)).off + 3, none⟩ = some (.int .i64 x.lea)) (go_keep) (fail)
          obtain ⟨W6, hW6⟩ : ∃ W6, W6 = ((((((W5.setCell ⟨G, 2, none⟩ (.string x.key)).setCell ⟨G, 3, none⟩ (.string x.val)).setCell ⟨G, 4, none⟩ (.int .i64 (s.rev + 1))).setCell ⟨G, 5, none⟩ (.int .i64 (s.rev + 1))).setCell ⟨G, 6, none⟩ (.int .i64 1)).setCell ⟨G, 7, none⟩ (.int .i64 x.lea)).drew := ⟨_, rfl⟩
          have E6 : Hid (Own W6 G 79 #[.int .i64 (s.rev + 1), .bool false, .string x.key, .string x.val, .int .i64 (s.rev + 1), .int .i64 (s.rev + 1), .int .i64 1, .int .i64 x.lea]) := Lib.hid (by rw [hW6]; exact (((((((E5.out.set 2 (.string x.key)).set 3 (.string x.val)).set 4 (.int .i64 (s.rev + 1))).set 5 (.int .i64 (s.rev + 1))).set 6 (.int .i64 1)).set 7 (.int .i64 x.lea))).below (new_drew _))
          have B6 : Hid (Below wr.heap.size wr W6) := Lib.hid (by rw [hW6]; exact (((((((B5.out.setCell (p := ⟨G, 2, none⟩) (Nat.le_of_lt hGg) (.string x.key)).setCell (p := ⟨G, 3, none⟩) (Nat.le_of_lt hGg) (.string x.val)).setCell (p := ⟨G, 4, none⟩) (Nat.le_of_lt hGg) (.int .i64 (s.rev + 1))).setCell (p := ⟨G, 5, none⟩) (Nat.le_of_lt hGg) (.int .i64 (s.rev + 1))).setCell (p := ⟨G, 6, none⟩) (Nat.le_of_lt hGg) (.int .i64 1)).setCell (p := ⟨G, 7, none⟩) (Nat.le_of_lt hGg) (.int .i64 x.lea))).drew)
          have X6 : Hid (Own W6 w3.heap.size 45 #[.string y.key, .string y.val, .int .i64 y.cre, .int .i64 y.mod, .int .i64 y.ver, .int .i64 y.lea]) := Lib.hid (by rw [hW6]; exact (((((((X5.out.other G 2 (.string x.key) hgx1).other G 3 (.string x.val) hgx1).other G 4 (.int .i64 (s.rev + 1)) hgx1).other G 5 (.int .i64 (s.rev + 1)) hgx1).other G 6 (.int .i64 1) hgx1).other G 7 (.int .i64 x.lea) hgx1)).below (new_drew _))
          rw [← hW6]
          clear hW6 e0 e1 e2 e3 e4 e5 e6 e7 ef
          have e0 := E6.out.cell 0 _ rfl
          have e1 := E6.out.cell 1 _ rfl
          have e2 := E6.out.cell 2 _ rfl
          have e3 := E6.out.cell 3 _ rfl
          have e4 := E6.out.cell 4 _ rfl
          have e5 := E6.out.cell 5 _ rfl
          have e6 := E6.out.cell 6 _ rfl
          have e7 := E6.out.cell 7 _ rfl
          have ef := E6.out.frozen
          have z2 := X6.out.cell 2 _ rfl
          have z4 := X6.out.cell 4 _ rfl
          obtain ⟨hv1, hv2⟩ := hvy
          go_upto_region 18 with fail
          obtain ⟨W7, hW7⟩ : ∃ W7, W7 = (W6.setCell ⟨G, 4, none⟩ (.int .i64 y.cre)).setCell ⟨G, 6, none⟩ (.int .i64 (y.ver + 1)) := ⟨_, rfl⟩
          have EF : Hid (Own W7 G 79 #[.int .i64 (s.rev + 1), .bool false, .string x.key, .string x.val, .int .i64 y.cre, .int .i64 (s.rev + 1), .int .i64 (y.ver + 1), .int .i64 x.lea]) := Lib.hid (by rw [hW7]; exact (E6.out.set 4 (.int .i64 y.cre)).set 6 (.int .i64 (y.ver + 1)))
          have B7 : Hid (Below wr.heap.size wr W7) := Lib.hid (by rw [hW7]; exact (B6.out.setCell (p := ⟨G, 4, none⟩) (Nat.le_of_lt hGg) (.int .i64 y.cre)).setCell (p := ⟨G, 6, none⟩) (Nat.le_of_lt hGg) (.int .i64 (y.ver + 1)))
          rw [← hW7]
          clear hW7 e0 e1 e2 e3 e4 e5 e6 e7 ef z2 z4
          obtain ⟨v8, w8, hr8, hown8, hb8, hg8, hat8⟩ := app_evs2 w2.heap.size (.slice E en ec) en es (W7.alloc (Ev.obj (⟨s.rev + 1, false, ⟨x.key, x.val, y.cre, s.rev + 1, y.ver + 1, x.lea⟩⟩ : Ev) 79)) ((ownE_kept HO.out B7.out).alloc _) (some ⟨W7.heap.size, 0, none⟩) 1 1 [(⟨s.rev + 1, false, ⟨x.key, x.val, y.cre, s.rev + 1, y.ver + 1, x.lea⟩⟩ : Ev)] (evs_one W7 (⟨s.rev + 1, false, ⟨x.key, x.val, y.cre, s.rev + 1, y.ver + 1, x.lea⟩⟩ : Ev) OKY.out) (by omega) (by have := (B7.out).size; simp; omega) 23
          obtain ⟨E8, ec8, rfl⟩ := ownE_shape hown8
          have HO8 := Lib.hid hown8
          have hold : Hid (∀ g, (Value.slice E en ec).ownBlock = some g → g < wr.heap.size) := Lib.hid (fun g hg => (ownBlock_lt HO.out hg).2)
          have E8b := Lib.hid ((EF.out.alloc (Ev.obj (⟨s.rev + 1, false, ⟨x.key, x.val, y.cre, s.rev + 1, y.ver + 1, x.lea⟩⟩ : Ev) 79)).kept hg8 (fun hh => by have := hold.out G hh.symm; omega))
          have K8 := Lib.hid (((HK.out.keep B7.out).keep (new1 W7 (Ev.obj (⟨s.rev + 1, false, ⟨x.key, x.val, y.cre, s.rev + 1, y.ver + 1, x.lea⟩⟩ : Ev) 79))).kept' hg8 (fun h0 a ha hh => HSEP.out a a.block h0 ha hh.symm rfl))
          have B8 : Hid (Below w2.heap.size w2 w8) := Lib.hid ((then_ (then_ HB.out B7.out) (new1 W7 (Ev.obj (⟨s.rev + 1, false, ⟨x.key, x.val, y.cre, s.rev + 1, y.ver + 1, x.lea⟩⟩ : Ev) 79))).grown hg8 (by have := (B7.out).size; simp; omega) (fun g hg => (ownBlock_lt HO.out hg).1))
          have hsz8 := hb8.size
          have SEPO : Hid (0 < n' → ∀ a g, A' = some a → (Value.slice E8 (en + 1) ec8).ownBlock = some g → a.block ≠ g) := Lib.hid (fun h0 a g ha hg => by
            rcases hat8 with h | h
            · exact HSEP.out a g h0 ha (by rw [← h]; exact hg)
            · rw [h] at hg
              injection hg with hg
              obtain ⟨a', e', hlt', _⟩ := HK.out.rd h0
              rw [ha] at e'; injection e' with e'; subst e'
              have h1 := (B7.out).size
              simp at hg
              omega)
          have e0 := EF.out.cell 0 _ rfl
          have e1 := EF.out.cell 1 _ rfl
          have e2 := EF.out.cell 2 _ rfl
          have e3 := EF.out.cell 3 _ rfl
          have e4 := EF.out.cell 4 _ rfl
          have e5 := EF.out.cell 5 _ rfl
          have e6 := EF.out.cell 6 _ rfl
          have e7 := EF.out.cell 7 _ rfl
          have i0 := E8b.out.cell 0 _ rfl
          have i1 := E8b.out.cell 1 _ rfl
          have i2 := E8b.out.cell 2 _ rfl
          have i3 := E8b.out.cell 3 _ rfl
          have i4 := E8b.out.cell 4 _ rfl
          have i5 := E8b.out.cell 5 _ rfl
          have i6 := E8b.out.cell 6 _ rfl
          have i7 := E8b.out.cell 7 _ rfl
          clear hown8 hb8 hg8 hat8
          go_wp2_with (at_builtin; refine wpList_append_eq _ rfl (.tmp 93) (.tmp 95) _ _ rfl _ _ rfl rfl hr8 ?_)
          clear hr8 e0 e1 e2 e3 e4 e5 e6 e7
          refine (fold_reff A' n' c' L (some ⟨w8.heap.size, 0, none⟩) 1 1 [(⟨s.rev + 1, false, ⟨x.key, x.val, y.cre, s.rev + 1, y.ver + 1, x.lea⟩⟩ : Ev)] (s.rev + 1) (w8.alloc (Ev.obj (⟨s.rev + 1, false, ⟨x.key, x.val, y.cre, s.rev + 1, y.ver + 1, x.lea⟩⟩ : Ev) 79)) (K8.out.keep (new1 w8 _)) (evs_one w8 (⟨s.rev + 1, false, ⟨x.key, x.val, y.cre, s.rev + 1, y.ver + 1, x.lea⟩⟩ : Ev) OKY.out) (by omega)).mono ?_; rintro e w9 ⟨A9, n9, c9, rfl, h9, hb9, hf9⟩
          have HF9 := Lib.hid (show foldL L [(⟨s.rev + 1, false, ⟨x.key, x.val, y.cre, s.rev + 1, y.ver + 1, x.lea⟩⟩ : Ev)] (s.rev + 1) = afterE L (⟨s.rev + 1, false, ⟨x.key, x.val, y.cre, s.rev + 1, y.ver + 1, x.lea⟩⟩ : Ev) from after_fold L (⟨s.rev + 1, false, ⟨x.key, x.val, y.cre, s.rev + 1, y.ver + 1, x.lea⟩⟩ : Ev))
          rw [HF9.out] at h9
          have K9 := Lib.hid h9
          have B9 := Lib.hid (then_ (then_ B8.out (new1 w8 (Ev.obj (⟨s.rev + 1, false, ⟨x.key, x.val, y.cre, s.rev + 1, y.ver + 1, x.lea⟩⟩ : Ev) 79))) hb9)
          have HO9 := Lib.hid (ownE_kept (ownE_kept HO8.out (new1 w8 (Ev.obj (⟨s.rev + 1, false, ⟨x.key, x.val, y.cre, s.rev + 1, y.ver + 1, x.lea⟩⟩ : Ev) 79))) hb9)
          have HL9 := Lib.hid h9.len
          have SEP9 : Hid (∀ a g, 0 < n9 → A9 = some a → (Value.slice E8 (en + 1) ec8).ownBlock = some g → a.block ≠ g) := Lib.hid (fun a g h0 ha hg => by
            rcases hf9 with ⟨h1, h2⟩ | h1
            · subst h1 h2
              exact SEPO.out h0 a g ha hg
            · have h2 := h1 a ha
              have h3 := (ownBlock_lt HO8.out hg).2
              simp at h2
              omega)
          clear h9 hb9 hf9 i0 i1 i2 i3 i4 i5 i6 i7
          cases b with
          | true =>
            have HN3 : Hid (ComeTo (s.rev + 1) (nowL s) ms (k + 1) (es ++ [(⟨s.rev + 1, false, ⟨x.key, x.val, y.cre, s.rev + 1, y.ver + 1, x.lea⟩⟩ : Ev)]) (afterE L (⟨s.rev + 1, false, ⟨x.key, x.val, y.cre, s.rev + 1, y.ver + 1, x.lea⟩⟩ : Ev)) (!true)) := Lib.hid (by have h := HN.out; simpa using h)
            go_wp2
            go_roundw
            case rel => exact ⟨k + 1, E8, en + 1, ec8, es ++ [(⟨s.rev + 1, false, ⟨x.key, x.val, y.cre, s.rev + 1, y.ver + 1, x.lea⟩⟩ : Ev)], A9, n9, c9, _, true, by omega, by go_num, rfl, rfl, rfl, HO9.out, K9.out, HN3.out, SEP9.out, B9.out⟩
            case measure => simp [intOf]; omega
          | false =>
            by_cases h30 : n9 ≤ 30
            · have HN3 : Hid (ComeTo (s.rev + 1) (nowL s) ms (k + 1) (es ++ [(⟨s.rev + 1, false, ⟨x.key, x.val, y.cre, s.rev + 1, y.ver + 1, x.lea⟩⟩ : Ev)]) (afterE L (⟨s.rev + 1, false, ⟨x.key, x.val, y.cre, s.rev + 1, y.ver + 1, x.lea⟩⟩ : Ev)) (!false)) := Lib.hid (by have h := HN.out; rw [HL9.out, decide_eq_true h30] at h; simpa using h)
              go_wp2
              go_roundw
              case rel => exact ⟨k + 1, E8, en + 1, ec8, es ++ [(⟨s.rev + 1, false, ⟨x.key, x.val, y.cre, s.rev + 1, y.ver + 1, x.lea⟩⟩ : Ev)], A9, n9, c9, _, false, by omega, by go_num, rfl, rfl, by simp; omega, HO9.out, K9.out, HN3.out, SEP9.out, B9.out⟩
              case measure => simp [intOf]; omega
            · have HN3 : Hid (ComeTo (s.rev + 1) (nowL s) ms (k + 1) (es ++ [(⟨s.rev + 1, false, ⟨x.key, x.val, y.cre, s.rev + 1, y.ver + 1, x.lea⟩⟩ : Ev)]) (afterE L (⟨s.rev + 1, false, ⟨x.key, x.val, y.cre, s.rev + 1, y.ver + 1, x.lea⟩⟩ : Ev)) (!true)) := Lib.hid (by have h := HN.out; rw [HL9.out, decide_eq_false h30] at h; simpa using h)
              go_wp2
              go_roundw
              case rel => exact ⟨k + 1, E8, en + 1, ec8, es ++ [(⟨s.rev + 1, false, ⟨x.key, x.val, y.cre, s.rev + 1, y.ver + 1, x.lea⟩⟩ : Ev)], A9, n9, c9, _, true, by omega, by go_num, rfl, rfl, by simp; omega, HO9.out, K9.out, HN3.out, SEP9.out, B9.out⟩
              case measure => simp [intOf]; omega
    · obtain rfl : mn = k := by omega
      have HEQ : Hid (comeL (s.rev + 1) (nowL s) ms = (es, L, !b)) := Lib.hid (by have h := HC.out.eq; rwa [take_full ms mn HML.out] at h)
      have HEN : Hid (es.length = en) := Lib.hid (by have h := HO.out.1; rw [cellsE_len] at h; omega)
      have EVOK := Lib.hid HC.out.evok
      clear hlt hk q0 q3
      by_cases hen : en = 0
      · subst hen
        obtain rfl : es = [] := List.eq_nil_of_length_eq_zero HEN.out
        have CN := Lib.hid (came_none HD.out HEQ.out)
        have q0 := O3.out.cell 0 _ rfl
        have q1 := O3.out.cell 1 _ rfl
        have q2 := O3.out.cell 2 _ rfl
        have q3 := O3.out.cell 3 _ rfl
        have f := R3.out.frozen
        have o0 := R3.out.cell 0 _ rfl
        have o1 := R3.out.cell 1 _ rfl
        have o2 := R3.out.cell 2 _ rfl
        have o3 := R3.out.cell 3 _ rfl
        go_wp2
        refine bodyPost_ret (v := .tuple #[s.agg A n c B m d, .slice none 0 0, .int .i64 0]) (by simp [results, Try.results26, go_sem, o0, o1, o2, o3]) rfl (ap_end CN.out rfl (HH.out.keep (below_set4 BW.out (Nat.le_succ _) _ _ _ _)) (evs_bare _) (below_set4 BW.out (Nat.le_succ _) _ _ _ _))
      · have HNE : Hid (es ≠ []) := Lib.hid (fun h => by have := HEN.out; rw [h] at this; exact hen this.symm)
        have hen2 : 0 < en := by omega
        cases b with
        | true =>
          have CN := Lib.hid (came_full HD.out HEQ.out HNE.out (.inl rfl))
          have q0 := O3.out.cell 0 _ rfl
          have q1 := O3.out.cell 1 _ rfl
          have q2 := O3.out.cell 2 _ rfl
          have q3 := O3.out.cell 3 _ rfl
          have f := R3.out.frozen
          have o0 := R3.out.cell 0 _ rfl
          have o1 := R3.out.cell 1 _ rfl
          have o2 := R3.out.cell 2 _ rfl
          have o3 := R3.out.cell 3 _ rfl
          go_wp2
          refine bodyPost_ret (v := .tuple #[s.agg A n c B m d, .slice none 0 0, .int .i64 4]) (by simp [results, Try.results26, go_sem, o0, o1, o2, o3]) rfl (ap_end CN.out rfl (HH.out.keep (below_set4 BW.out (Nat.le_succ _) _ _ _ _)) (evs_bare _) (below_set4 BW.out (Nat.le_succ _) _ _ _ _))
        | false =>
          by_cases hx : s.rev = 1099511627774
          · have CN := Lib.hid (came_full HD.out HEQ.out HNE.out (.inr (.inl hx)))
            have hxg : 1099511627774 ≤ s.rev := by omega
            clear hx
            have q0 := O3.out.cell 0 _ rfl
            have q1 := O3.out.cell 1 _ rfl
            have q2 := O3.out.cell 2 _ rfl
            have q3 := O3.out.cell 3 _ rfl
            have f := R3.out.frozen
            have o0 := R3.out.cell 0 _ rfl
            have o1 := R3.out.cell 1 _ rfl
            have o2 := R3.out.cell 2 _ rfl
            have o3 := R3.out.cell 3 _ rfl
            go_wp2
            refine bodyPost_ret (v := .tuple #[s.agg A n c B m d, .slice none 0 0, .int .i64 4]) (by simp [results, Try.results26, go_sem, o0, o1, o2, o3]) rfl (ap_end CN.out rfl (HH.out.keep (below_set4 BW.out (Nat.le_succ _) _ _ _ _)) (evs_bare _) (below_set4 BW.out (Nat.le_succ _) _ _ _ _))
          · by_cases h60 : 60 < m + en
            · have CN := Lib.hid (came_full HD.out HEQ.out HNE.out (.inr (.inr (by rw [HLE.out, HEN.out]; exact h60))))
              have q0 := O3.out.cell 0 _ rfl
              have q1 := O3.out.cell 1 _ rfl
              have q2 := O3.out.cell 2 _ rfl
              have q3 := O3.out.cell 3 _ rfl
              have f := R3.out.frozen
              have o0 := R3.out.cell 0 _ rfl
              have o1 := R3.out.cell 1 _ rfl
              have o2 := R3.out.cell 2 _ rfl
              have o3 := R3.out.cell 3 _ rfl
              go_wp2
              refine bodyPost_ret (v := .tuple #[s.agg A n c B m d, .slice none 0 0, .int .i64 4]) (by simp [results, Try.results26, go_sem, o0, o1, o2, o3]) rfl (ap_end CN.out rfl (HH.out.keep (below_set4 BW.out (Nat.le_succ _) _ _ _ _)) (evs_bare _) (below_set4 BW.out (Nat.le_succ _) _ _ _ _))
            · have CD := Lib.hid (came_done HD.out HEQ.out HNE.out hx (by rw [HLE.out, HEN.out]; omega))
              have hxx : s.rev < 1099511627774 := by omega
              have TA := Lib.hid ((own_new wr #[.int .i64 (s.rev + 1), .int .i64 s.low, .slice A n c, .slice B m d] 25).alloc (.cells #[] 79))
              have b10 := then_ (new1 wr (.cells #[.int .i64 (s.rev + 1), .int .i64 s.low, .slice A n c, .slice B m d] 25)) (new1 _ (.cells #[] 79))
              have hmade : ((wr.alloc (.cells #[.int .i64 (s.rev + 1), .int .i64 s.low, .slice A n c, .slice B m d] 25)).alloc (.cells #[] 79)).ownsRow (wr.heap.size + 1) 79 8 (.slice (some ⟨wr.heap.size + 1, 0, none⟩) 0 0) 0 (cellsE []) := by
                have h := World.ownsRow_made (base := wr.heap.size + 1) (e := 79) (size := 8) (wr.alloc (.cells #[.int .i64 (s.rev + 1), .int .i64 s.low, .slice A n c, .slice B m d] 25)) #[] 0 (by simp) (Nat.zero_le _) rfl
                have e : cellsE [] = [] := rfl
                rw [e]
                simpa using h
              obtain ⟨vA, wA, hrA, hownA, hbA, hgA, _⟩ := app_evs2 (wr.heap.size + 1) (.slice (some ⟨wr.heap.size + 1, 0, none⟩) 0 0) 0 [] ((wr.alloc (.cells #[.int .i64 (s.rev + 1), .int .i64 s.low, .slice A n c, .slice B m d] 25)).alloc (.cells #[] 79)) hmade B m d s.log ((HH.out.ev.keep BW.out).keep b10) (by omega) (by simp) 23
              rw [Nat.zero_add, List.nil_append] at hownA
              obtain ⟨C1, r1', rfl⟩ := ownE_shape hownA
              have T1 := Lib.hid (TA.out.low hbA (Nat.lt_succ_self _))
              have T2 := Lib.hid (T1.out.set 3 (.slice C1 m r1'))
              have hneA : ∀ g, (Value.slice C1 m r1').ownBlock = some g → g ≠ wr.heap.size := fun g hg => by have := (hownA.lt g hg).1; omega
              have HOA2 := Lib.hid (hownA.kept (Lib.grownBy_setCell wA wr.heap.size 3 (.slice C1 m r1')) (by rcases hv : (Value.slice C1 m r1').ownBlock with _ | y; exact .inl rfl; right; intro hh; injection hh with hh; exact hneA y hv hh))
              have bA : Below wr.heap.size wr (wA.setCell ⟨wr.heap.size, 3, none⟩ (.slice C1 m r1')) := (b10.trans (hbA.mono (Nat.le_succ _))).setCell (p := ⟨wr.heap.size, 3, none⟩) (Nat.le_refl _) _
              have EE0 := Lib.hid (evs_of_own HO.out EVOK.out)
              obtain ⟨vB, wB, hrB, hownB, hbB, hgB, _⟩ := app_evs2 (wr.heap.size + 1) (.slice C1 m r1') m s.log (wA.setCell ⟨wr.heap.size, 3, none⟩ (.slice C1 m r1')) HOA2.out E en ec es (EE0.out.keep bA) (by omega) (by have := hbA.size; simp [World.setCell] at this ⊢; omega) 23
              obtain ⟨C2, r2', rfl⟩ := ownE_shape hownB
              have T3 := Lib.hid (T2.out.low hbB (Nat.lt_succ_self _))
              have T4 := Lib.hid (T3.out.set 3 (.slice C2 (m + en) r2'))
              have bB : Below wr.heap.size wr (wB.setCell ⟨wr.heap.size, 3, none⟩ (.slice C2 (m + en) r2')) := (bA.trans (hbB.mono (Nat.le_succ _))).setCell (p := ⟨wr.heap.size, 3, none⟩) (Nat.le_refl _) _
              have hneB : ∀ g, (Value.slice C2 (m + en) r2').ownBlock = some g → g ≠ wr.heap.size := fun g hg => by have := (hownB.lt g hg).1; omega
              have HOB2 := Lib.hid (hownB.kept (Lib.grownBy_setCell wB wr.heap.size 3 (.slice C2 (m + en) r2')) (by rcases hv : (Value.slice C2 (m + en) r2').ownBlock with _ | y; exact .inl rfl; right; intro hh; injection hh with hh; exact hneB y hv hh))
              have LOG := Lib.hid (evs_of_own HOB2.out (fun e he => by rcases List.mem_append.1 he with he | he; exact HH.out.ev.ok e he; exact EVOK.out e he))
              have LN : Hid (∀ a, C2 = some a → a.block ≠ w.heap.size + 1) := Lib.hid (fun a ha => by have h1 := ownE_fresh hownB a ha; omega)
              have EVT := Lib.hid (EE0.out.keep bB)
              have EN : Hid (∀ a, E = some a → a.block ≠ w.heap.size + 1) := Lib.hid (fun a ha => by have h1 := ownE_fresh HO.out a ha; have h2 := R2.out.lt; omega)
              have R14 := Lib.hid (R3.out.below bB)
              have BF := Lib.hid (then_ BW.out bB)
              have HIR : Hid (inI (s.rev + 1)) := Lib.hid ⟨by omega, by omega⟩
              have q0 := O3.out.cell 0 _ rfl
              have q1 := O3.out.cell 1 _ rfl
              have q2 := O3.out.cell 2 _ rfl
              have q3 := O3.out.cell 3 _ rfl
              have t10 := T1.out.cell 0 _ rfl
              have t13 := T1.out.cell 3 _ rfl
              have t1f := T1.out.frozen
              have t23 := T2.out.cell 3 _ rfl
              have t33 := T3.out.cell 3 _ rfl
              have t3f := T3.out.frozen
              have t40 := T4.out.cell 0 _ rfl
              have t41 := T4.out.cell 1 _ rfl
              have t42 := T4.out.cell 2 _ rfl
              have t43 := T4.out.cell 3 _ rfl
              have o0 := R14.out.cell 0 _ rfl
              have o1 := R14.out.cell 1 _ rfl
              have o2 := R14.out.cell 2 _ rfl
              have o3 := R14.out.cell 3 _ rfl
              have f := R14.out.frozen
              clear hownA hbA hgA hownB hbB hgB hneA hneB hmade b10 bA bB
              go_wp2_with (at_builtin; first | (refine wpList_append_eq _ rfl (.tmp 131) (.tmp 133) _ _ rfl _ _ rfl rfl hrA ?_) | (refine wpList_append_eq _ rfl (.tmp 137) (.tmp 138) _ _ rfl _ _ rfl rfl hrB ?_))
              refine bodyPost_ret (v := .tuple #[(St.mk (s.rev + 1) s.low s.base (s.log ++ es)).agg A n c C2 (m + en) r2', .slice E en ec, .int .i64 0]) (by simp [results, Try.results26, go_sem, o0, o1, o2, o3]) rfl (ap_end CD.out rfl ⟨?_, ?_, HIR.out, HH.out.low⟩ ?_ (below_set4 BF.out (Nat.le_succ _) _ _ _ _))
              · exact HH.out.kv.keep (below_set4 BF.out (Nat.le_succ _) _ _ _ _)
              · exact LOG.out.kept4 (fun a ha hh => by injection hh with hh; exact LN.out a ha hh) _ _ _ _
              · exact EVT.out.kept4 (fun a ha hh => by injection hh with hh; exact EN.out a ha hh) _ _ _ _
theorem apply_ref (s : St) (A : Option Addr) (n c : Nat) (B : Option Addr) (m d : Nat) (M : Option Addr) (mn mc : Nat) (ms : List Mu) (w : World) (h : StAt w s A n c B m d) (hM : Mus w M mn mc ms) (hs : MaySt s) :
    Calls Try.prog 26 #[s.agg A n c B m d, .slice M mn mc] w (ApplyEnd s ms w) := by
  cases hd : mayDoB ms with
  | false => exact apply_rno s A n c B m d M mn mc ms w h hM hs hd
  | true => exact apply_rgo s A n c B m d M mn mc ms w h hM hs hd
end Go.Proofs.Ytlffhehpeeiogaa.P
