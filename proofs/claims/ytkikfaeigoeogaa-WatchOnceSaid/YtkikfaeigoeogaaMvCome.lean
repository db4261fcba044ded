/- What comes of things that are done, one by one: the program's way. -/
import Derived.Test.YtkikfaeigoeogaaMvDo
import Derived.Maps.AppendAt
namespace Go.Proofs.Ytkikfaeigoeogaa.P
open Go.RowKit Go.Sort
set_option maxHeartbeats 1000000
set_option linter.unusedVariables false
set_option linter.unusedSimpArgs false
set_option maxRecDepth 100000

theorem KVs.kept {w w' : World} {A : Option Addr} {n c : Nat} {l : List KV} {row : Option Nat} (h : KVs w A n c l) (hg : w.grownBy w' row) (hne : ∀ a, A = some a → some a.block ≠ row) : KVs w' A n c l :=
  ⟨h.len, h.le, h.max, h.ok, fun hn => by
    obtain ⟨a, e, hlt, hx⟩ := h.rd hn
    refine ⟨a, e, Nat.lt_of_lt_of_le hlt hg.size, fun i x hi => ?_⟩
    have hb : w'.heap[a.block]? = w.heap[a.block]? := hg.block _ hlt (hne a e)
    have k : ∀ p : Addr, p.block = a.block → w'.cell? p = w.cell? p := fun p hp => World.cell?_of_block (by rw [hp]; exact hb)
    have hab : (a.add (i * 6)).block = a.block := block_add _ _
    obtain ⟨c0, c1, c2, c3, c4, c5⟩ := hx i x hi
    exact ⟨(k _ hab).trans c0, (k _ (show (⟨(a.add (i * 6)).block, (a.add (i * 6)).off + 1, none⟩ : Addr).block = a.block from hab)).trans c1, (k _ (show (⟨(a.add (i * 6)).block, (a.add (i * 6)).off + 2, none⟩ : Addr).block = a.block from hab)).trans c2, (k _ (show (⟨(a.add (i * 6)).block, (a.add (i * 6)).off + 3, none⟩ : Addr).block = a.block from hab)).trans c3, (k _ (show (⟨(a.add (i * 6)).block, (a.add (i * 6)).off + 4, none⟩ : Addr).block = a.block from hab)).trans c4, (k _ (show (⟨(a.add (i * 6)).block, (a.add (i * 6)).off + 5, none⟩ : Addr).block = a.block from hab)).trans c5⟩, h.nil⟩
abbrev zeroEvA : Value := .agg #[.int .i64 0, .bool false, .string ⟨#[]⟩, .string ⟨#[]⟩, .int .i64 0, .int .i64 0, .int .i64 0, .int .i64 0]
theorem info_ev : (Try.prog.info? 43).map (fun i => (i.zero, i.size, i.bytes)) = some (some zeroEvA, 8, 80) := by kernel_rfl
theorem cellsE_one (x : Ev) : cellsE [x] = x.cells := by simp [cellsE]
theorem cellsE_app (l m : List Ev) : cellsE (l ++ m) = cellsE l ++ cellsE m := by simp [cellsE]
theorem cellsE_one' {l : List Ev} {v : Value} (h : v ∈ cellsE l) : v.oneCell' = true := by
  obtain ⟨x, _, hx⟩ := List.mem_flatMap.1 h
  simp [Ev.cells] at hx
  rcases hx with rfl | rfl | rfl | rfl | rfl | rfl | rfl | rfl <;> rfl
theorem newsE {w : World} {g : Nat} {x : Ev} (h : w.heap[g]? = some (x.obj 43)) : ∀ j u, (cellsE [x])[j]? = some u → w.cell? ((⟨g, 0, none⟩ : Addr).add j) = some u := fun j u hu => by
  rw [cellsE_one] at hu
  have e : (⟨g, 0, none⟩ : Addr).add j = ⟨g, j, none⟩ := by unfold Addr.add; split <;> simp_all
  rw [e, cell_of_row w g j _ 43 (0, 0) h]
  rw [← Array.getElem?_toList]
  exact hu
/-- A row of events of the call's own. -/
theorem evs_of_own {w : World} {base n : Nat} {A : Option Addr} {c : Nat} {l : List Ev} (h : w.ownsRow base 43 8 (.slice A n c) n (cellsE l)) (ok : ∀ x ∈ l, x.ok) : Evs w A n c l := by
  have hlen : l.length = n := by have := h.1; rw [cellsE_len] at this; omega
  rcases h.2 with ⟨hv, h0⟩ | ⟨g, cap, cur, hv, hb, hg, hnc, hcm, hcs, htake⟩
  · injection hv with e1 e2 e3
    subst e1 e2 e3
    obtain rfl : l = [] := List.eq_nil_of_length_eq_zero hlen
    exact evs_bare _
  · injection hv with e1 e2 e3
    subst e1 e3
    exact evs_of_row hg hlen hnc hcm htake ok
theorem ownE_shape {w : World} {base n : Nat} {v : Value} {xs : List Value} (h : w.ownsRow base 43 8 v n xs) : ∃ A c, v = .slice A n c := by
  rcases h.2 with ⟨rfl, h0⟩ | ⟨g, cap, cur, rfl, _⟩
  · exact ⟨none, 0, by rw [h0]⟩
  · exact ⟨_, _, rfl⟩

/-- How far things were done. -/
structure ComeTo (rev : Int) (l : List KV) (ms : List Mu) (k : Nat) (es : List Ev) (L : List KV) (f : Bool) : Prop where
  eq : comeL rev l (ms.take k) = (es, L, f)
  inv : CInv rev l (ms.take k) (es, L, f)
  evok : ∀ e ∈ es, e.ok
theorem ComeTo.skip {rev : Int} {l : List KV} {ms : List Mu} {k : Nat} {es : List Ev} {L : List KV} {f : Bool} {m : Mu} (h : ComeTo rev l ms k es L f) (hm : ms[k]? = some m) (hc : CInv rev l (ms.take (k + 1)) (comeL rev l (ms.take (k + 1)))) (he : evOf L m rev = none) : ComeTo rev l ms (k + 1) es L f := by
  have e : comeL rev l (ms.take (k + 1)) = (es, L, f) := by
    rw [take_succ ms k m hm, come_snoc, h.eq]; unfold stepC; simp only [he]
  exact ⟨e, by rw [e] at hc; exact hc, h.evok⟩
theorem ComeTo.more {rev : Int} {l : List KV} {ms : List Mu} {k : Nat} {es : List Ev} {L : List KV} {f : Bool} {m : Mu} {y : Ev} (h : ComeTo rev l ms k es L f) (hm : ms[k]? = some m) (hc : CInv rev l (ms.take (k + 1)) (comeL rev l (ms.take (k + 1)))) (he : evOf L m rev = some y) (ok : y.ok) :
    ComeTo rev l ms (k + 1) (es ++ [y]) (afterE L y) (f && decide ((afterE L y).length ≤ 30)) := by
  have e : comeL rev l (ms.take (k + 1)) = (es ++ [y], afterE L y, f && decide ((afterE L y).length ≤ 30)) := by
    rw [take_succ ms k m hm, come_snoc, h.eq]; unfold stepC; simp only [he]
  exact ⟨e, by rw [e] at hc; exact hc, fun z hz => by
    rcases List.mem_append.1 hz with hz | hz
    · exact h.evok z hz
    · simp at hz; subst hz; exact ok⟩
theorem MaySt.come_to {s : St} (h : MaySt s) {ms : List Mu} (hd : doTo [] ms = true) (k : Nat) : CInv (s.rev + 1) (nowL s) (ms.take k) (comeL (s.rev + 1) (nowL s) (ms.take k)) := by
  refine h.come ?_
  rw [← List.take_append_drop k ms, doTo_app, Bool.and_eq_true] at hd
  exact hd.1
theorem CInv.lens {rev : Int} {l : List KV} {a : List Mu} {c : Come} (h : CInv rev l a c) (hl : l.length ≤ 30) (ha : a.length ≤ 30) : c.2.1.length ≤ 60 := by
  rw [h.now]
  have key : ∀ (b : List Ev) (l : List KV), (b.foldl afterE l).length ≤ l.length + b.length := by
    intro b
    induction b with
    | nil => intro l; simp
    | cons e r ih =>
      intro l
      have h1 : (afterE l e).length ≤ l.length + 1 := by
        unfold afterE; split
        · have := takeL_len l e.kv.key; omega
        · exact layL_len l e.kv
      have := ih (afterE l e)
      simp only [List.foldl_cons, List.length_cons]; omega
  have := key c.1 l
  have := h.len
  omega
theorem CInv.vers {rev : Int} {l : List KV} {a : List Mu} {c : Come} (h : CInv rev l a c) : ∀ y ∈ c.2.1, 0 ≤ y.ver ∧ y.ver ≤ 1152921504606846976 := fun y hy => by
  obtain ⟨_, a, b, c, d, e, _, _⟩ := one_p (may_one h.may y hy)
  exact ⟨by omega, by omega⟩
theorem one_in {x : KV} (h : oneB x = true) (hk : x.key.size ≤ maxLen) : x.ok := by
  obtain ⟨a, b, c, d, e, f, g, i⟩ := one_p h
  exact ⟨hk, by unfold maxLen; omega, ⟨by omega, by omega⟩, ⟨by omega, by omega⟩, ⟨by omega, by omega⟩, ⟨by omega, by omega⟩⟩
theorem evOf_ok {L : List KV} {m : Mu} {rev : Int} {y : Ev} (h : evOf L m rev = some y) (hL : ∀ x ∈ L, x.ok) (hm : m.ok) (h0 : 0 ≤ rev) (h1 : rev ≤ 1099511627775) (hv : ∀ y ∈ L, 0 ≤ y.ver ∧ y.ver ≤ 1152921504606846976) : y.ok := by
  unfold evOf at h
  split at h
  · cases hx : findL L m.key with
    | none => rw [hx] at h; cases h
    | some x =>
      rw [hx] at h; cases h
      exact ⟨⟨by simp only; omega, by simp only; omega⟩, hL x (findL_mem _ _ _ hx).1⟩
  · cases h
    refine ⟨⟨by simp only; omega, by simp only; omega⟩, ?_⟩
    cases hx : findL L m.key with
    | none => rw [laid_none hx]; exact ⟨hm.key, hm.val, ⟨by simp only; omega, by simp only; omega⟩, ⟨by simp only; omega, by simp only; omega⟩, ⟨by simp only; omega, by simp only; omega⟩, hm.lea⟩
    | some x =>
      have hk := findL_mem _ _ _ hx
      have := hv x hk.1
      rw [laid_some hx]; exact ⟨hm.key, hm.val, (hL x hk.1).cre, ⟨by simp only; omega, by simp only; omega⟩, ⟨by simp only; omega, by simp only; omega⟩, hm.lea⟩

/-- How the program's way ends. -/
def ComeEnd (s : St) (ms : List Mu) (w : World) (e : Ending) (w' : World) : Prop :=
  ∃ E en ec, e = .returned (.tuple #[.slice E en ec, .bool (comeL (s.rev + 1) (nowL s) ms).2.2]) ∧ Evs w' E en ec (eventsOf s ms) ∧ Below w.heap.size w w' ∧ ∀ a, E = some a → w.heap.size ≤ a.block
theorem ownE_fresh {w : World} {base n : Nat} {A : Option Addr} {c : Nat} {xs : List Value} (h : w.ownsRow base 43 8 (.slice A n c) n xs) : ∀ a, A = some a → base ≤ a.block := by
  intro a ha
  subst ha
  rcases h.2 with ⟨hv, _⟩ | ⟨g, cap, cur, hv, hb, _⟩
  · injection hv with e1; cases e1
  · injection hv with e1
    injection e1 with e1
    subst e1
    exact hb
theorem grown_of_below {w w' : World} (h : Below w.heap.size w w') : w.grownBy w' none := ⟨h.os, h.tape, h.output, h.size, fun k hk _ => h.block k hk⟩
theorem ownBlock_lt {w : World} {base n : Nat} {v : Value} {xs : List Value} {g : Nat} (h : w.ownsRow base 43 8 v n xs) (hg : v.ownBlock = some g) : base ≤ g ∧ g < w.heap.size := h.lt g hg
theorem come_any (s : St) (A : Option Addr) (n c : Nat) (B : Option Addr) (m d : Nat) (M : Option Addr) (mn mc : Nat) (ms : List Mu) (w : World) (h : StAt w s A n c B m d) (hM : Mus w M mn mc ms) (hs : MaySt s) (hd : mayDoB ms = true) :
    Calls Try.prog 37 #[s.agg A n c B m d, .slice M mn mc] w (ComeEnd s ms w) := by
  obtain ⟨i0, hi0, hz0, hz1, hz2⟩ := info_parts info_ev
  obtain ⟨hmn, hdo⟩ := may_do hd
  have hmlen := hM.len
  have hnn : n ≤ 30 := by rw [← h.kv.len]; exact hs.good.len
  have hmm : m ≤ 60 := by rw [← h.ev.len]; exact hs.len
  have r0 := hs.low; have r1 := hs.le; have r2 := hs.max
  have H0 := Lib.hid (h.keep (new1 w (.cells #[.int .i64 s.rev, .int .i64 s.low, .slice A n c, .slice B m d] 25)))
  have O0 := Lib.hid (own_new w #[.int .i64 s.rev, .int .i64 s.low, .slice A n c, .slice B m d] 25)
  have M0 := Lib.hid (hM.keep (new1 w (.cells #[.int .i64 s.rev, .int .i64 s.low, .slice A n c, .slice B m d] 25)))
  have HS := Lib.hid hs
  have HDO := Lib.hid hdo
  have hm30 : mn ≤ 30 := by omega
  clear h hM hs hd hdo
  have HML := Lib.hid hmlen
  clear hmlen hmn
  go_enter Try.func37, Try.ntmps37
  go_wp2_with fail
  refine (now_fresh s A n c B m d _ H0.out (by omega)).mono ?_; rintro e w1 ⟨A1, n1, c1, rfl, hk, hb, hfr⟩
  have K1 := Lib.hid hk
  have B1 := Lib.hid (then_ (new1 w _) hb)
  have O1 := Lib.hid (O0.out.below hb)
  have M1 := Lib.hid (M0.out.keep hb)
  clear hk hb hfr
  go_wp2
  go_loopw [6, 7, 8, 17] (fun ev nw ft i wr => ∃ (k : Nat) (E : Option Addr) (en ec : Nat) (es : List Ev) (A' : Option Addr) (n' c' : Nat) (L : List KV) (f : Bool), k ≤ mn ∧ i = .int .i64 k ∧ ev = .slice E en ec ∧ nw = .slice A' n' c' ∧ ft = .bool f ∧
      wr.ownsRow w1.heap.size 43 8 (.slice E en ec) en (cellsE es) ∧ KVs wr A' n' c' L ∧ ComeTo (s.rev + 1) (nowL s) ms k es L f ∧ (∀ a g, A' = some a → (Value.slice E en ec).ownBlock = some g → a.block ≠ g) ∧ Below w1.heap.size w1 wr) (fun _ _ _ i _ => mn - (intOf i).toNat)
  case atStart => exact ⟨0, none, 0, 0, [], A1, n1, c1, nowL s, true, Nat.zero_le _, rfl, rfl, rfl, rfl, World.ownsRow_nil _ _ _ _, K1.out, ⟨rfl, come_zero _ HS.out.now.may, fun e he => by simp at he⟩, (fun a g _ hg => by cases hg), Below.refl _ _⟩
  case round =>
    obtain ⟨k, E, en, ec, es, A', n', c', L, f, hk, rfl, rfl, rfl, rfl, hown, hkv, hct, hsep, hbel⟩ := hrel
    have HO := Lib.hid hown; have HK := Lib.hid hkv; have HC := Lib.hid hct; have HSEP := Lib.hid hsep; have HB := Lib.hid hbel
    have O2 := Lib.hid (O1.out.below hbel)
    have BW := Lib.hid (then_ B1.out hbel)
    have hL60 : n' ≤ 60 := by
      rw [← hkv.len]
      exact hct.inv.lens HS.out.now.len (by have := List.length_take_le k ms; rw [List.length_take]; rw [HML.out]; omega)
    have VERS := Lib.hid hct.inv.vers
    have hes : en ≤ 30 := by
      have h1 := hown.1; rw [cellsE_len] at h1
      have h2 := hct.inv.len; simp only [List.length_take] at h2
      omega
    clear hown hkv hct hsep hbel
    by_cases hlt : k < mn
    · obtain ⟨a, x, rfl, hbl, hx, hok, hc⟩ := (M1.out.keep HB.out).at_ hlt
      obtain ⟨c0, c1, c2, c3⟩ := hc
      have HX := Lib.hid hx; have OK := Lib.hid hok
      have f0 := (O2.out.alloc (x.obj 60)).cell 0 _ rfl
      have CI := Lib.hid (HS.out.come_to HDO.out (k + 1))
      have t := event_any A' n' c' L x (s.rev + 1) (wr.alloc (x.obj 60)) (HK.out.keep (new1 wr _)) (by omega) VERS.out
      have TT := Lib.hid t
      clear t hx hok hbl
      cases he : evOf L x (s.rev + 1) with
      | none =>
        have HE : EvIs L x (s.rev + 1) none := ⟨he⟩
        have HN := Lib.hid (HC.out.skip HX.out CI.out he)
        clear he
        go_wp2_with fail
        refine TT.out.mono ?_; rintro e w2 h
        obtain ⟨rfl, hb⟩ := EventEnd.no' HE.eq h
        have BX := Lib.hid (then_ (then_ (new1 wr _) hb) (new1 w2 ((Ev.mk (s.rev + 1) true zeroKV).obj 43)))
        clear h hb
        go_wp2
        go_roundw
        case rel => exact ⟨k + 1, E, en, ec, es, A', n', c', L, f, by omega, by go_num, rfl, rfl, rfl, HO.out.kept (grown_of_below BX.out) (by first | exact .inl rfl | (rcases hv : (Value.slice E en ec).ownBlock with _ | y; exact .inl rfl; exact .inr (by simp))), HK.out.keep BX.out, HN.out, HSEP.out, then_ HB.out BX.out⟩
        case measure => simp [intOf]; omega
      | some y =>
        have HE : EvIs L x (s.rev + 1) (some y) := ⟨he⟩
        have oky := evOf_ok he HK.out.ok OK.out (by omega) (by omega) VERS.out
        have OKY := Lib.hid oky
        have HN := Lib.hid (HC.out.more HX.out CI.out he oky)
        have hrev : y.rev = s.rev + 1 := evOf_rev he
        clear he oky hrev
        go_wp2_with fail
        refine TT.out.mono ?_; rintro e w2 h
        obtain ⟨rfl, hb⟩ := EventEnd.yes' HE.eq h
        have BX := Lib.hid (then_ (new1 wr (x.obj 60)) hb)
        have hw2 : w1.heap.size ≤ w2.heap.size := (then_ HB.out BX.out).size
        have HO2 := Lib.hid (HO.out.kept (grown_of_below BX.out) (by rcases hv : (Value.slice E en ec).ownBlock with _ | q; exact .inl rfl; exact .inr (by simp)))
        have HK2 := Lib.hid (HK.out.keep BX.out)
        have O3 := Lib.hid (O2.out.below BX.out)
        clear h hb f0 TT
        go_wp2_with (at_builtin; go_loud (refine wpList_append_own_at _ rfl _ _ 23 rfl w1.heap.size 43 i0 zeroEvA 8 80 Try.underlying23 hi0 hz0 hz1 hz2 rfl (by omega) (.slice E en ec) en (cellsE es) rfl ((HO2.out.alloc _).alloc _) ⟨w2.heap.size + 1, 0, none⟩ 1 1 (cellsE [y]) rfl rfl (newsE (own_new2 w2 _ _ _).ex) (fun u hu => cellsE_one' hu) (by simp only [maxLen]; omega) (by omega) (by simp; omega) ?_); intro v3 w3 hown3 hg3 hnil3 hat3; obtain ⟨E3, ec3, rfl⟩ := ownE_shape hown3; have HOWN3 := Lib.hid hown3; have HG3 := Lib.hid hg3; have HAT3 := Lib.hid hat3; clear hown3 hg3 hnil3 hat3; have hgl : ∀ g, (Value.slice E en ec).ownBlock = some g → g < w2.heap.size := fun g hg => (ownBlock_lt HO2.out hg).2; have yb := fun i v hv => (World.cell?_of_block (a := ⟨w2.heap.size, i, none⟩) (HG3.out.block w2.heap.size (by simp; omega) (by intro hh; have := hgl _ hh.symm; omega))).trans (((own_new w2 #[.int .i64 y.rev, .bool y.gone, .string y.kv.key, .string y.kv.val, .int .i64 y.kv.cre, .int .i64 y.kv.mod, .int .i64 y.kv.ver, .int .i64 y.kv.lea] 43).alloc (y.obj 43)).cell i v hv); have y0 := yb 0 _ rfl; have y1 := yb 1 _ rfl; have y2 := yb 2 _ rfl; have y3 := yb 3 _ rfl; have y4 := yb 4 _ rfl; have y5 := yb 5 _ rfl; have y6 := yb 6 _ rfl; have y7 := yb 7 _ rfl; clear hgl yb)
        have HK3 := Lib.hid ((HK2.out.keep (then_ (new1 w2 (y.obj 43)) (new1 _ (y.obj 43)))).kept HG3.out (fun a ha hh => HSEP.out a a.block ha hh.symm rfl))
        have B3 : Hid (Below w1.heap.size w1 w3) := Lib.hid ((then_ (then_ (then_ HB.out BX.out) (new1 w2 (y.obj 43))) (new1 _ (y.obj 43))).grown HG3.out (by simp; omega) (fun g hg => (ownBlock_lt HO2.out hg).1))
        refine (behind_fresh A' n' c' L y w3 HK3.out OKY.out (by omega)).mono ?_; rintro e w4 ⟨A4, n4, c4, rfl, h4, hb4, hfr4⟩
        have HK4 := Lib.hid h4
        have B4 := Lib.hid (then_ B3.out hb4)
        have HO4 := Lib.hid (HOWN3.out.kept (grown_of_below hb4) (by rcases hv : (Value.slice E3 (en + 1) ec3).ownBlock with _ | q; exact .inl rfl; exact .inr (by simp)))
        have SEP4 := Lib.hid (show ∀ a g, A4 = some a → (Value.slice E3 (en + 1) ec3).ownBlock = some g → a.block ≠ g from fun a g ha hg => by have h1 := hfr4 a ha; have h2 := (ownBlock_lt HOWN3.out hg).2; omega)
        have HL4 := Lib.hid h4.len
        clear h4 hb4 hfr4 y0 y1 y2 y3 y4 y5 y6 y7
        cases f with
        | false =>
          have HN2 := HN.out
          rw [Bool.false_and] at HN2
          have HN3 := Lib.hid HN2
          clear HN2
          go_wp2
          go_roundw
          case rel => exact ⟨k + 1, E3, en + 1, ec3, es ++ [y], A4, n4, c4, _, false, by omega, by go_num, rfl, rfl, rfl, by rw [cellsE_app]; exact HO4.out, HK4.out, HN3.out, SEP4.out, B4.out⟩
          case measure => simp [intOf]; omega
        | true =>
          by_cases h30 : n4 ≤ 30
          · have HN2 := HN.out
            rw [HL4.out, show (true && decide (n4 ≤ 30)) = true by simp [h30]] at HN2
            have HN3 := Lib.hid HN2
            clear HN2
            go_wp2
            go_roundw
            case rel => exact ⟨k + 1, E3, en + 1, ec3, es ++ [y], A4, n4, c4, _, true, by omega, by go_num, rfl, rfl, by first | rfl | (simp; omega), by rw [cellsE_app]; exact HO4.out, HK4.out, HN3.out, SEP4.out, B4.out⟩
            case measure => simp [intOf]; omega
          · have HN2 := HN.out
            rw [HL4.out, show (true && decide (n4 ≤ 30)) = false by simp [h30]] at HN2
            have HN3 := Lib.hid HN2
            clear HN2
            go_wp2
            go_roundw
            case rel => exact ⟨k + 1, E3, en + 1, ec3, es ++ [y], A4, n4, c4, _, false, by omega, by go_num, rfl, rfl, by first | rfl | (simp; omega), by rw [cellsE_app]; exact HO4.out, HK4.out, HN3.out, SEP4.out, B4.out⟩
            case measure => simp [intOf]; omega
    · obtain rfl : mn = k := by omega
      have E1 := Lib.hid (take_full ms mn HML.out)
      have HV : Hid ((comeL (s.rev + 1) (nowL s) ms).2.2 = f ∧ eventsOf s ms = es) := Lib.hid (by have := HC.out.eq; rw [E1.out] at this; unfold eventsOf; rw [this]; exact ⟨rfl, rfl⟩)
      go_wp2
      go_ret2
      refine ⟨E, en, ec, by rw [HV.out.1]; rfl, ?_, BW.out, fun a ha => Nat.le_trans B1.out.size (ownE_fresh HO.out a ha)⟩
      rw [HV.out.2]
      exact evs_of_own HO.out HC.out.evok
end Go.Proofs.Ytkikfaeigoeogaa.P
