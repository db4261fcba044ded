/- Layer 7: the revisions of events, as a range over a function goes through them: each with the number of its events, the least one first. -/
import Derived.RangeFuncBox
import Derived.RangeFuncFrom
import Derived.RangeFuncNested
import Derived.RangeFuncBound
import Derived.RangeFuncCalls
import Derived.RangeFuncLeaves
import Derived.Shelf.Abstract
import Derived.Shelf.AbstractIn
import Derived.Shelf.RegionOpen
import Derived.WalkKit
import Derived.OwnWalkIn
import Derived.TacticsInMore
import Derived.LoopNIn
import Derived.LoopIn
import Derived.Maps.OwnIn
import Derived.Maps.OwnSet
import Derived.Test.YtkikfaeigoeogaaWaTally
import Derived.Test.YtkikfaeigoeogaaWaShelf
import Derived.Test.YtkikfaeigoeogaaGenInts
import Derived.Test.YtkikfaeigoeogaaEvBase
import Derived.Test.YtkikfaeigoeogaaMvRead
namespace Go.Proofs.Ytkikfaeigoeogaa.P
open Go.RowKit Go.Sort Go.Shelf Go.Maps
attribute [local go_sem] Oper.semAt_some
set_option maxHeartbeats 2000000
set_option linter.unusedVariables false
set_option linter.unusedSimpArgs false
set_option maxRecDepth 100000
theorem itsorts (m : Nat) : AnyZI.SortsIn Try.prog Try.itsorted_ren Fence.wide m :=
  ⟨fun blk off cap ss W hH hblk hsz => callsIn_wide.2 (AnyM.slices_Sort_int Try.itsort blk off cap ss W hH hblk hsz),
   fun p cap W => callsIn_wide.2 (AnyM.slices_Sort_int_none Try.itsort p cap W)⟩
theorem keys_any (mb : Option Nat) (W : World) : CallsIn Fence.wide 5 Try.prog 63 #[.map mb] W fun e w' => e = .returned (.func (.func 77) #[] #[.pointer (some ⟨W.heap.size, 0, none⟩)]) ∧ w' = W.alloc (.cells #[.map mb] 95) :=
  AnyZI.keys_in Try.itkeys Fence.wide 5 trivial rfl mb W
theorem sorted_any (b nn : Nat) (D0 : DataW Unit) (R : Value → Option (DataW Unit × List MemPlace)) (w : World) (hown : w.ownsMap Try.prog 3 R b nn D0) (hmax : Maps.size D0 ≤ maxLen) (hbytes : Maps.size D0 * 8 ≤ 140737488355328) :
    CallsIn Fence.wide 5 Try.prog 62 #[.func (.func 77) #[] #[.pointer (some ⟨w.heap.size, 0, none⟩)]] (w.alloc (.cells #[.map (some b)] 95)) fun e w' => ∃ (v : Value) (ss : List Int), e = .returned v ∧ ss.Perm (intKeys D0) ∧
      w'.ownsRow (w.alloc (.cells #[.map (some b)] 95)).heap.size 3 1 v ss.length ((ss.mergeSort (fun x y => decide (x ≤ y))).map encZ) ∧ (v = .slice none 0 0 ↔ ss = []) ∧ Below (w.alloc (.cells #[.map (some b)] 95)).heap.size (w.alloc (.cells #[.map (some b)] 95)) w' := by
  have hbl := hown.lt
  have hseq : SeqGives Fence.wide 2 Try.prog 77 #[.pointer (some ⟨w.heap.size, 0, none⟩)] encZ (fun ss => ss.Perm (intKeys D0)) (Maps.size D0) (w.alloc (.cells #[.map (some b)] 95)) :=
    AnyZI.keys_gives (ρ := Try.itkeys_ren) { Try.itkeys with } Fence.wide _ trivial rfl (by omega) w.heap.size b nn D0 _ (by simp) (by simp) (by
      obtain ⟨es, clock, hb, Ft, hs, hD⟩ := hown
      exact ⟨es, clock, (Below.heap_alloc _ _ b hbl).trans hb, Ft, hs, hD⟩)
  have cS := AnyZI.sorted_in Try.itsorted Fence.wide 5 trivial trivial trivial trivial rfl (by omega) (itsorts _) (enters_of Try.func76 (by kernel_rfl) rfl) 77 #[.pointer (some ⟨w.heap.size, 0, none⟩)] trivial (enters_of Try.func77 (by kernel_rfl) rfl) _ _ hmax hbytes _ hseq
  change CallsIn _ _ Try.prog 62 _ _ _ at cS
  exact cS
/-- What a round that goes on keeps: maps, and cells from n1 on. -/
structure KpR (n1 : Nat) (A B : World) : Prop where
  walks : KeepsWalks A B
  cells : ∀ r cs t f, n1 ≤ r → A.heap[r]? = some (.cells cs t f) → B.heap[r]? = some (.cells cs t f)
theorem KpR.trans {n1 : Nat} {A B C : World} (h : KpR n1 A B) (k : KpR n1 B C) : KpR n1 A C := ⟨h.walks.trans k.walks, fun r cs t f hr he => k.cells r cs t f hr (h.cells r cs t f hr he)⟩
theorem KpR.refl (n1 : Nat) (A : World) : KpR n1 A A := ⟨KeepsWalks.refl A, fun r cs t f hr he => he⟩
theorem KpR.put {n1 : Nat} {B0 : Nat} (W : World) (l : Nat) (o o' : Obj) (_ : B0 ≤ l) (h : W.heap[l]? = some o) (hc : o.isCells = false) (hw : o.isWalk = false) : KpR n1 W (W.putObj l o') :=
  ⟨KeepsWalks.putObj _ h hw, fun r cs t f hr he => (World.putObj_heap_other (by intro e; subst e; rw [h] at he; cases he; cases hc)).trans he⟩
theorem KpR.set {n1 g : Nat} (W : World) (i : Nat) (v : Value) (hg : g < n1) : KpR n1 W (W.setCell ⟨g, i, none⟩ v) :=
  ⟨KeepsWalks.setCell _ _ _, fun r cs t f hr he => by
    have h1 : r < W.heap.size := (Array.getElem?_eq_some_iff.1 he).1
    exact ((Lib.grownBy_setCell W g i v).block r h1 (by intro e; cases e; omega)).trans he⟩
theorem KpR.below {n1 : Nat} {A B : World} (h : Below A.heap.size A B) : KpR n1 A B :=
  ⟨⟨h.size, fun k o hk _ => (h.block k (Array.getElem?_eq_some_iff.1 hk).1).trans hk⟩, fun r cs t f hr he => (h.block r (Array.getElem?_eq_some_iff.1 he).1).trans he⟩
theorem KpR.map {n1 : Nat} {A B : World} {P : Program} {k : TypeId} {R : Value → Option (DataW Unit × List MemPlace)} {b n : Nat} {D : DataW Unit} (h : KpR n1 A B) (ho : A.ownsMap P k R b n D) : B.ownsMap P k R b n D := by
  obtain ⟨es, clock, hb, rest⟩ := ho
  exact ⟨es, clock, h.walks.same _ _ hb rfl, rest⟩
theorem KpR.row {n1 : Nat} {A B : World} {base : Nat} {e : TypeId} {q n : Nat} {v : Value} {xs : List Value} (h : KpR n1 A B) (ho : A.ownsRow base e q v n xs) (hb : n1 ≤ base) : B.ownsRow base e q v n xs := by
  refine ⟨ho.1, ?_⟩
  rcases ho.2 with h1 | ⟨g, cap, cur, hv, hbg, hg, rest⟩
  · exact .inl h1
  · exact .inr ⟨g, cap, cur, hv, hbg, h.cells g _ _ _ (by omega) hg, rest⟩
abbrev encG (p : Int × Int) : Array Value := #[.int .i64 p.1, .int .i64 p.2]
theorem flat_ints : ∀ l : List Int, flatC intC l = l.map encZ
  | [] => rfl
  | x :: r => by show intC x ++ flatC intC r = _; rw [flat_ints r]; rfl
theorem row_ints {w : World} {base : Nat} {A : Option Addr} {n c : Nat} {l : List Int} (h : w.ownsRow base 3 1 (.slice A n c) n (l.map encZ)) : RowsOf intC 1 w A n c l :=
  ownG_rows (e := 3) (base := base) intC_len (by omega) (by show w.ownsRow _ _ _ _ _ (flatC intC l); rw [flat_ints]; exact h)
theorem grown_of_below {A B : World} (h : Below A.heap.size A B) : A.grownBy B none := ⟨h.os, h.tape, h.output, h.size, fun k hk _ => h.block k hk⟩
theorem rise_sorted (l ss : List Int) (hl : l.length ≤ 1000000) {w : World} {b n : Nat} (hown : w.ownsMap Try.prog 3 (plainElem (H := Unit) Try.prog 3) b n (tallyD l)) (h : ss.Perm (intKeys (tallyD l))) : ss.mergeSort (fun x y => decide (x ≤ y)) = riseL l ∧ ss.length = (riseL l).length := by
  have hup := rise_up l
  have hnd : (riseL l).Nodup := hup.1.imp fun h => by omega
  have hc : CollectedI (tallyD l) (fun _ => false) (riseL l) := ⟨hnd, fun x => by rw [(tally_is l hl).2.1 x, hup.2 x]; simp⟩
  have hp := hc.perm hown (Maps.int_keyed Try.underlying3) Try.underlying3 (fun _ => rfl)
  have hp2 : ss.Perm (riseL l) := h.trans hp.symm
  refine ⟨(mergeSort_of_perm_i hp2).trans ?_, hp2.length_eq⟩
  refine List.mergeSort_of_pairwise ?_
  exact hup.1.imp fun h => by simp; omega
theorem size_tally (l : List Int) {w : World} {b n : Nat} (hown : w.ownsMap Try.prog 3 (plainElem (H := Unit) Try.prog 3) b n (tallyD l)) : Maps.size (tallyD l) ≤ n := hown.size_le
theorem row_shape {w : World} {base : Nat} {e : TypeId} {n : Nat} {v : Value} {xs : List Value} (h : w.ownsRow base e 1 v n xs) : ∃ A c, v = .slice A n c := by
  rcases h.2 with ⟨rfl, rfl⟩ | ⟨g, cap, cur, rfl, _⟩
  · exact ⟨none, 0, rfl⟩
  · exact ⟨_, _, rfl⟩
theorem revs_stops (n1 B : Nat) (A : Option Addr) (n c : Nat) (es : List Ev) (w : World) (hn1 : n1 ≤ w.heap.size) (hB : w.cell? ⟨B, 0, none⟩ = some (.slice A n c)) (hE : Evs w A n c es) (hn : n ≤ 1000) (m : Nat) (hm : 6 ≤ m) :
    SeqStopsK Fence.wide m Try.prog 61 #[.pointer (some ⟨B, 0, none⟩)] encG (KpR n1) (fun xs => xs = grpL es) (fun pre => pre <+: grpL es) (grpL es).length w := fun l J Jx W hW hJ hJx hY h0 => by
  have hmm := @run_makeMap Try.prog
  have hB1 : W.cell? ⟨B, 0, none⟩ = some (.slice A n c) := (hW.cell (World.block_lt_of_cell? w _ hB)).trans hB
  have hE1 : Evs W A n c es := hE.keep hW
  have HEW := Lib.hid hE1
  have HBW := Lib.hid hB1
  have HRL : Hid ((revsL es).length = n) := Lib.hid (by unfold revsL; rw [List.length_map]; exact hE1.len)
  have hm0 := World.ownsMap_made W Try.prog 3 (plainElem (H := Unit) Try.prog 3)
  have HM0 := Lib.hid hm0
  have HJ := Lib.hid hJ; have HY := Lib.hid hY; have H0 := Lib.hid h0
  have hn1W : n1 ≤ W.heap.size := Nat.le_trans hn1 hW.size
  clear hm0 hJ hJx hY h0 hE hE1 hB
  refine callsIn_of_wp Try.func61 rfl trivial ?_ rfl
  simp only [Try.ntmps61, List.size_toArray, List.length_cons, List.length_nil, Nat.reduceAdd, Nat.reduceSub, Array.replicate_succ, Array.replicate_zero, List.push_toArray, List.append_toArray, List.nil_append, List.cons_append]
  have hB2 : (W.alloc (.map #[] 0)).cell? ⟨B, 0, none⟩ = some (.slice A n c) := ((new1 W (.map #[] 0)).cell (World.block_lt_of_cell? W _ hB1)).trans hB1
  gi_wp2
  gi_loopw [11] (fun i wr => ∃ j : Nat, j ≤ n ∧ i = .int .i64 j ∧ wr.ownsMap Try.prog 3 (plainElem (H := Unit) Try.prog 3) W.heap.size j (tallyD ((revsL es).take j)) ∧ Below W.heap.size W wr) (fun i _ => n - (intOf i).toNat)
  case atStart => exact ⟨0, Nat.zero_le _, rfl, HM0.out, new1 W _⟩
  case round =>
    obtain ⟨j, hj, rfl, hown, hbel⟩ := hrel
    have HO := Lib.hid hown
    have HB := Lib.hid hbel
    have EW := Lib.hid (HEW.out.keep hbel)
    clear hown hbel
    by_cases hlt : j < n
    · obtain ⟨a, x, rfl, hbl, hx, hok, hc⟩ := EW.out.at_ hlt
      have hwf : (Lit.int .i64 x.rev).wf = true := by
        have := hok.rev
        unfold inI at this
        simp only [Lit.wf, Bool.and_eq_true, decide_eq_true_eq]
        exact this
      have hkey := Maps.keyOf_int_mk (P := Try.prog) Try.underlying3 hwf
      have hownA := HO.out.alloc (x.obj 43)
      have HTK : Hid ((revsL es).take (j + 1) = (revsL es).take j ++ [x.rev]) := Lib.hid (by
        have h1 : (revsL es)[j]? = some x.rev := by unfold revsL; rw [List.getElem?_map, hx]; rfl
        rw [List.take_add_one, h1]; rfl)
      have i0 : (0 : Int) ≤ (j : Int) := by omega
      have i1 : (j : Int) < (n : Int) := by omega
      obtain ⟨c0, c1, c2, c3, c4, c5, c6, c7⟩ := hc
      have hsz : W.heap.size ≤ wr.heap.size := HB.out.size
      clear hx hok hbl
      gi_wp2_with (first
        | (gi_at_lookup; refine wpListIn_lookup_own_int _ rfl _ _ 95 rfl 3 3 .i64 (Maps.int_keyed Try.underlying3) Try.underlying95 Try.underlying3 (Try.zeroValue3 _) W.heap.size j _ rfl hownA _ _ rfl hkey ?_; intro cn hat hwc)
        | (gi_at_mapUpdate; refine wpListIn_mapUpdate_own _ rfl _ _ _ 95 rfl 3 3 (Maps.int_keyed Try.underlying3) Try.underlying95 _ W.heap.size j _ rfl hownA (by unfold maxLen; omega) _ _ _ rfl rfl hkey _ [] (plainElem_int Try.underlying3 (wrap64_wf _)) ?_; intro w1 hown1 hgrow1))
      go_roundw
      case rel => exact ⟨j + 1, by omega, by go_num, by rw [HTK.out, tally_snoc]; unfold bumpD; rw [hat]; exact hown1, (then_ HB.out (new1 wr (x.obj 43))).grown hgrow1 (by simp; omega) (fun k e => by cases e; exact Nat.le_refl _)⟩
      case measure => simp [intOf]; omega
    · obtain rfl : j = n := by omega
      have hown : wr.ownsMap Try.prog 3 (plainElem (H := Unit) Try.prog 3) W.heap.size j (tallyD (revsL es)) := by have h1 := HO.out; rwa [List.take_of_length_le (by rw [HRL.out]; exact Nat.le_refl _)] at h1
      have HOM := Lib.hid hown
      have cK := keys_any (some W.heap.size) wr
      have cS := sorted_any W.heap.size j (tallyD (revsL es)) _ wr hown (Nat.le_trans hown.size_le (by unfold maxLen; omega)) (by have := hown.size_le; omega)
      have HRS := Lib.hid (fun ss => rise_sorted (revsL es) ss (by rw [HRL.out]; omega) hown)
      have cK2 := (callsIn_wide (n := m - 1)).2 ((callsIn_wide (n := 5)).1 cK)
      have cS2 := (callsIn_wide (n := m - 1)).2 ((callsIn_wide (n := 5)).1 cS)
      have hfK : Fence.wide.fn 63 := trivial
      have hfS : Fence.wide.fn 62 := trivial
      have hm1 : 1 ≤ m := by omega
      clear hown cK cS
      gi_wp2_with (first
        | (gi_at_call 63; refine cK2.mono ?_; rintro e w' ⟨rfl, rfl⟩)
        | (gi_at_call 62; refine cS2.mono ?_; rintro e w6 ⟨v, ss, rfl, hS, hrow, hnil, hb6⟩; obtain ⟨A6, c6, rfl⟩ := row_shape hrow))
      obtain ⟨hms, hln⟩ := HRS.out ss hS
      rw [hms, hln] at hrow
      rw [hln]
      have HR6 := Lib.hid hrow
      have HB6 : Hid (Below wr.heap.size wr w6) := Lib.hid (then_ (new1 wr (.cells #[.map (some W.heap.size)] 95)) hb6)
      have HM6 : Hid (w6.ownsMap Try.prog 3 (plainElem (H := Unit) Try.prog 3) W.heap.size j (tallyD (revsL es))) := Lib.hid ((KpR.below (n1 := 0) HB6.out).map HOM.out)
      have HBB6 : Hid (Below W.heap.size W w6) := Lib.hid (then_ HB.out HB6.out)
      have HJ6 : Hid (J [] w6) := Lib.hid (HJ.out [] W w6 none H0.out (grown_of_below HBB6.out) (fun r e => by cases e))
      have HQ : Hid ((riseL (revsL es)).length ≤ j) := Lib.hid (by have := rise_len (revsL es); rw [HRL.out] at this; exact this)
      have hrb : n1 ≤ (wr.alloc (.cells #[.map (some W.heap.size)] 95)).heap.size := by have := HB.out.size; simp; omega
      have HRB := Lib.hid hrb
      clear hms hln hrow hb6 hnil hS hrb cK2 cS2
      generalize hq : (riseL (revsL es)).length = q at *
      have HQQ := Lib.hid hq
      have hqj := HQ.out
      clear hq
      gi_loopw [25] (fun iv wz => ∃ i : Nat, i ≤ q ∧ iv = .int .i64 i ∧ J ((grpL es).take i) wz ∧ KpR n1 w6 wz) (fun iv _ => q - (intOf iv).toNat)
      case atStart => exact ⟨0, Nat.zero_le _, rfl, HJ6.out, KpR.refl _ _⟩
      case round =>
        rename World => wz
        obtain ⟨i, hi, rfl, hJi, hK⟩ := hrel
        have HJI := Lib.hid hJi
        have HK := Lib.hid hK
        have HMZ := Lib.hid (hK.map HM6.out)
        have HRZ : Hid (RowsOf intC 1 wz A6 q c6 (riseL (revsL es))) := Lib.hid (row_ints (hK.row HR6.out HRB.out))
        clear hJi hK
        by_cases hlt : i < q
        · obtain ⟨a, r, rfl, hbl, hr, hcell⟩ := Is.at_ HRZ.out hlt
          have hmo := HMZ.out
          have hin : r ∈ revsL es := ((rise_up (revsL es)).2 r).1 (List.mem_of_getElem? hr)
          have hwf : (Lit.int .i64 r).wf = true := by
            obtain ⟨e, he, rfl⟩ := List.mem_map.1 hin
            have h1 := (HEW.out.ok e he).rev
            unfold inI at h1
            simp only [Lit.wf, Bool.and_eq_true, decide_eq_true_eq]
            exact h1
          have hkey := Maps.keyOf_int_mk (P := Try.prog) Try.underlying3 hwf
          have HAT : Hid (∀ cn : Int, (tallyD (revsL es)).atKey (.int .i64 r) (.lit (.int .i64 0)) = .lit (.int .i64 cn) → cn = (cntL es r : Int)) := Lib.hid (fun cn h => by
            rw [(tally_is (revsL es) (by rw [HRL.out]; omega)).2.2 r, cnt_count] at h
            injection h with h; injection h with h1 h2; exact h2.symm)
          have HG := Lib.hid (grp_at hr)
          have i0 : (0 : Int) ≤ (i : Int) := by omega
          have i1 : (i : Int) < (q : Int) := by omega
          have HTK : Hid ((grpL es).take (i + 1) = (grpL es).take i ++ [(r, (cntL es r : Int))]) := Lib.hid (by rw [List.take_add_one, HG.out]; rfl)
          obtain ⟨fn, tmps, assign, body, hy, hR⟩ := HY.out ((grpL es).take i) (r, (cntL es r : Int)) wz HJI.out (by rw [List.length_take, grp_len, HQQ.out]; omega)
          dsimp only [encG] at hy
          have HPRE : Hid ((grpL es).take i ++ [(r, (cntL es r : Int))] <+: grpL es) := Lib.hid (by rw [← HTK.out]; exact List.take_prefix _ _)
          generalize cntL es r = cn0 at *
          clear hr hbl hin
          gi_wp2_with (gi_at_lookup; refine wpListIn_lookup_own_int _ rfl _ _ 95 rfl 3 3 .i64 (Maps.int_keyed Try.underlying3) Try.underlying95 Try.underlying3 (Try.zeroValue3 _) W.heap.size j _ rfl hmo _ _ rfl hkey ?_; intro cn hat hwc; obtain rfl := HAT.out cn hat)
          refine hR.mono ?_
          rintro e W3 (⟨rfl, hJ3, hk3⟩ | ⟨rfl, hJx3⟩)
          · have HK3 := Lib.hid (HK.out.trans hk3)
            have HJ3 := Lib.hid hJ3
            rw [← HTK.out] at HJ3
            clear hJ3 hk3
            gi_wp2
            go_roundw
            case rel => exact ⟨i + 1, by omega, by go_num, HJ3.out, HK3.out⟩
            case measure => simp [intOf]; omega
          · gi_wp2
            refine bodyPost_ret (results_none rfl _ _ _) rfl ?_
            exact ⟨⟨_, rfl⟩, .inr ⟨_, HPRE.out, hJx3⟩⟩
        · obtain rfl : i = q := by omega
          have HALL : Hid ((grpL es).take i = grpL es) := Lib.hid (List.take_of_length_le (by rw [grp_len, HQQ.out]; exact Nat.le_refl _))
          gi_wp2
          go_end0
          exact ⟨⟨_, rfl⟩, .inl ⟨_, rfl, by rw [← HALL.out]; exact HJI.out⟩⟩
end Go.Proofs.Ytkikfaeigoeogaa.P
