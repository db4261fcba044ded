/- Things to be done: what a list of them reads as; whether they may be done at one revision (keys that were met are in a map). -/
import Derived.Test.YtkikfaeigoeogaaMgMm
import Derived.Maps.OwnSet
import Derived.Maps.OwnOps
namespace Go.Proofs.Ytkikfaeigoeogaa.P
open Go.RowKit Go.Sort Go.Maps Go.WideMaps
set_option maxHeartbeats 1000000
set_option linter.unusedVariables false
set_option linter.unusedSimpArgs false
set_option maxRecDepth 100000

abbrev Mu.obj (x : Mu) (t : TypeId) : Obj := .cells #[.bool x.gone, .string x.key, .string x.val, .int .i64 x.lea] t
structure At4 (w : World) (p : Addr) (x : Mu) : Prop where
  c0 : w.cell? p = some (.bool x.gone)
  c1 : w.cell? ⟨p.block, p.off + 1, none⟩ = some (.string x.key)
  c2 : w.cell? ⟨p.block, p.off + 2, none⟩ = some (.string x.val)
  c3 : w.cell? ⟨p.block, p.off + 3, none⟩ = some (.int .i64 x.lea)
theorem At4.keep {w w' : World} {p : Addr} {x : Mu} {B : Nat} (h : At4 w p x) (hb : Below B w w') (hp : p.block < B) : At4 w' p x :=
  ⟨(hb.cell hp).trans h.c0, (hb.cell (p := ⟨p.block, p.off + 1, none⟩) hp).trans h.c1, (hb.cell (p := ⟨p.block, p.off + 2, none⟩) hp).trans h.c2, (hb.cell (p := ⟨p.block, p.off + 3, none⟩) hp).trans h.c3⟩
/-- What a slice of things to be done reads as. -/
structure Mus (w : World) (A : Option Addr) (n c : Nat) (l : List Mu) : Prop where
  len : l.length = n
  le : n ≤ c
  max : c ≤ maxLen
  ok : ∀ x ∈ l, x.ok
  rd : 0 < n → ∃ a, A = some a ∧ a.block < w.heap.size ∧ ∀ i x, l[i]? = some x → At4 w (a.add (i * 4)) x
  nil : A = none → c = 0
theorem Mus.keep {w w' : World} {A : Option Addr} {n c : Nat} {l : List Mu} (h : Mus w A n c l) (hb : Below w.heap.size w w') : Mus w' A n c l :=
  ⟨h.len, h.le, h.max, h.ok, fun hn => by
    obtain ⟨a, e, hlt, hx⟩ := h.rd hn
    exact ⟨a, e, Nat.lt_of_lt_of_le hlt hb.size, fun i x hi => (hx i x hi).keep hb (by rw [block_add]; exact hlt)⟩, h.nil⟩
theorem Mus.at_ {w : World} {A : Option Addr} {n c k : Nat} {l : List Mu} (h : Mus w A n c l) (hk : k < n) : ∃ a x, A = some a ∧ a.block < w.heap.size ∧ l[k]? = some x ∧ x.ok ∧ At4 w (a.add (k * 4)) x := by
  obtain ⟨a, e, hlt, hx⟩ := h.rd (by omega)
  have hl : k < l.length := by rw [h.len]; exact hk
  exact ⟨a, l[k], e, hlt, List.getElem?_eq_getElem hl, h.ok _ (List.getElem_mem hl), hx k _ (List.getElem?_eq_getElem hl)⟩
theorem Mus.bare (w : World) : Mus w none 0 0 [] := ⟨rfl, Nat.le_refl _, Nat.zero_le _, fun _ h => by simp at h, fun h => absurd h (by omega), fun _ => rfl⟩

theorem ownsMap_below {P : Program} {k : TypeId} {R : Value → Option (DataW Unit × List MemPlace)} {w w' : World} {b n : Nat} {D : DataW Unit} (h : w.ownsMap P k R b n D) (hb : Below w.heap.size w w') : w'.ownsMap P k R b n D := by
  have hlt := h.lt
  obtain ⟨es, clock, hbk, F, hs, hD⟩ := h
  exact ⟨es, clock, (hb.block b hlt).trans hbk, F, hs, hD⟩
def litK (m : Mu) : Lit := .string m.key.data.toList
def metK (l : List Mu) : DataW Unit := setOf (.agg []) (l.map litK)
theorem metK_nil : metK [] = .map [] := rfl
theorem metK_snoc (l : List Mu) (m : Mu) : metK (l ++ [m]) = (metK l).put (litK m) (.agg []) := by unfold metK; rw [List.map_append, List.map_singleton, setOf_snoc]
theorem litK_same (a b : Mu) : (litK a).sameKey (litK b) = teq a.key b.key := by
  show (a.key.data.toList == b.key.data.toList) = (a.key.toList == b.key.toList)
  rw [ByteArray.toList_eq, ByteArray.toList_eq]
theorem has_metK (l : List Mu) (m : Mu) : Maps.has (metK l) (litK m) = !fresh l m := by
  unfold metK
  rw [has_setOf]
  · rw [List.any_map]
    unfold fresh
    induction l with
    | nil => rfl
    | cons x r ih =>
      simp only [List.any_cons, List.all_cons, Function.comp, litK_same, Bool.not_and, Bool.not_not] at ih ⊢
      rw [ih]
  · intro x hx
    obtain ⟨y, _, rfl⟩ := List.mem_map.1 hx
    exact trivial
theorem key_mu {m : Mu} (h : m.key.size ≤ maxLen) : keyOf Try.prog 9 (.string m.key) = some (litK m) := keyOf_string_mk Try.underlying9 h
theorem lawStr : Keyed Try.prog 9 := string_keyed Try.underlying9
theorem zeroUnit (w : World) : (zeroValue 83).run Try.prog w = .ok (.agg #[]) w := by kernel_rfl
theorem doTo_snoc {a : List Mu} {m : Mu} : doTo [] (a ++ [m]) = (doTo [] a && (fresh a m && mutB m)) := by rw [doTo_app]; simp [doTo]
theorem doTo_pre {l : List Mu} {k : Nat} (h : doTo [] (l.take k) = false) : doTo [] l = false := by
  cases hm : doTo [] l with
  | false => rfl
  | true =>
    rw [← List.take_append_drop k l, doTo_app, Bool.and_eq_true] at hm
    rw [hm.1] at h; cases h
structure DoneTo (l : List Mu) (k : Nat) : Prop where
  ok : doTo [] (l.take k) = true
theorem DoneTo.next {l : List Mu} {k : Nat} {x : Mu} (h : DoneTo l k) (hx : l[k]? = some x) (h1 : fresh (l.take k) x = true) (h2 : mutB x = true) : DoneTo l (k + 1) := ⟨by rw [take_succ l k x hx, doTo_snoc, h.ok, h1, h2]; rfl⟩
theorem DoneTo.fail {l : List Mu} {k : Nat} {x : Mu} (hx : l[k]? = some x) (h : (fresh (l.take k) x && mutB x) = false) : doTo [] l = false :=
  doTo_pre (k := k + 1) (by rw [take_succ l k x hx, doTo_snoc, h, Bool.and_false])
theorem mayDo_any (A : Option Addr) (n c : Nat) (l : List Mu) (w : World) (h : Mus w A n c l) :
    Calls Try.prog 36 #[.slice A n c] w fun e w' => e = .returned (.bool (mayDoB l)) ∧ Below w.heap.size w w' := by
  have hmm := @run_makeMap Try.prog
  have hlen := h.len
  have hm := Nat.le_trans h.le h.max
  unfold maxLen at hm
  have H := Lib.hid h
  clear h
  by_cases h30 : n ≤ 30
  · have HR : Hid (mayDoB l = doTo [] l) := Lib.hid (by unfold mayDoB; rw [hlen]; simp [h30])
    have HLEN := Lib.hid hlen
    clear hlen
    go_enter Try.func36, Try.ntmps36
    go_wp2
    go_loopw [14] (fun i wr => ∃ k : Nat, k ≤ n ∧ i = .int .i64 k ∧ wr.ownsMap Try.prog 9 unitElem w.heap.size k (metK (l.take k)) ∧ DoneTo l k ∧ Below w.heap.size w wr) (fun i _ => n - (intOf i).toNat)
    case atStart => exact ⟨0, Nat.zero_le _, rfl, by rw [List.take_zero, metK_nil]; exact World.ownsMap_made _ _ _ _, ⟨rfl⟩, new1 w _⟩
    case round =>
      obtain ⟨k, hk, rfl, hown, hdo, hbel⟩ := hrel
      have HO := Lib.hid hown; have HB := Lib.hid hbel
      clear hown hbel
      by_cases hlt : k < n
      · obtain ⟨a, x, rfl, hbl, hx, hok, hc⟩ := (H.out.keep HB.out).at_ hlt
        obtain ⟨c0, c1, c2, c3⟩ := hc
        have HX := Lib.hid hx; have OK := Lib.hid hok
        have hkey := key_mu hok.key
        have hh := has_metK (l.take k) x
        have BN := Lib.hid (then_ (then_ HB.out (new1 wr (x.obj 60))) (new1 _ (.cells #[] 83)))
        clear hx hbl hok
        cases hf : fresh (l.take k) x with
        | false =>
          have HF := Lib.hid (DoneTo.fail HX.out (by rw [hf]; rfl))
          rw [hf] at hh
          clear hf
          go_wp2_with (at_lookup; refine wpList_lookup_own_unit _ rfl _ _ 82 rfl 9 83 lawStr Try.underlying82 (zeroUnit _) w.heap.size k _ rfl (HO.out.alloc _) _ _ rfl hkey ?_)
          go_ret
          exact ⟨retB (by rw [HR.out, HF.out]), BN.out⟩
        | true =>
          have HFR := Lib.hid hf
          rw [hf] at hh
          clear hf
          have t := mayMut_any x ((wr.alloc (x.obj 60)).alloc (.cells #[] 83)) OK.out
          have TT := Lib.hid t
          clear t
          cases hmu : mutB x with
          | false =>
            have HF := Lib.hid (DoneTo.fail HX.out (by rw [HFR.out, hmu]; rfl))
            have HM := Lib.hid hmu
            clear hmu
            go_wp2_with (at_lookup; refine wpList_lookup_own_unit _ rfl _ _ 82 rfl 9 83 lawStr Try.underlying82 (zeroUnit _) w.heap.size k _ rfl (HO.out.alloc _) _ _ rfl hkey ?_)
            refine TT.out.mono ?_; rintro e w1 ⟨rfl, hb⟩
            rw [HM.out]
            have BL := Lib.hid (then_ BN.out hb); clear hb
            go_wp2
            go_ret
            exact ⟨retB (by rw [HR.out, HF.out]), BL.out⟩
          | true =>
            have HD := Lib.hid (hdo.next HX.out HFR.out hmu)
            have HM := Lib.hid hmu
            clear hmu
            go_wp2_with (at_lookup; refine wpList_lookup_own_unit _ rfl _ _ 82 rfl 9 83 lawStr Try.underlying82 (zeroUnit _) w.heap.size k _ rfl (HO.out.alloc _) _ _ rfl hkey ?_)
            refine TT.out.mono ?_; rintro e w1 ⟨rfl, hb⟩
            rw [HM.out]
            have BL := Lib.hid (then_ BN.out hb)
            have HO1 := Lib.hid (ownsMap_below ((HO.out.alloc (x.obj 60)).alloc (.cells #[] 83)) hb)
            have g := ((own_new wr #[.bool x.gone, .string x.key, .string x.val, .int .i64 x.lea] 60).alloc (.cells #[] 83)).below hb
            have g1 : w1.cell? ⟨wr.heap.size, 1, none⟩ = some (.string x.key) := g.cell 1 _ rfl
            clear hb g hh
            go_wp2_with (at_mapUpdate; refine wpList_mapUpdate_own _ rfl _ _ _ 82 rfl 9 83 lawStr Try.underlying82 (unitElem (H := Unit)) w.heap.size k _ rfl HO1.out (by unfold maxLen; omega) _ _ _ rfl rfl hkey _ [] unitElem_mk ?_; intro w2 hown2 hgrow2)
            have BX := Lib.hid (BL.out.grown hgrow2 BL.out.size (fun j hj => by cases hj; exact Nat.le_refl _))
            have HO2 := Lib.hid hown2
            clear hown2 hgrow2
            go_roundw
            case rel => exact ⟨k + 1, by omega, by go_num, by rw [take_succ l k x HX.out, metK_snoc]; exact HO2.out, HD.out, BX.out⟩
            case measure => simp [intOf]; omega
      · have e : k = n := by omega
        subst e
        have HT : Hid (doTo [] l = true) := Lib.hid (by have := hdo.ok; rwa [take_full l k HLEN.out] at this)
        go_wp2
        go_ret
        exact ⟨retB (by rw [HR.out, HT.out]), HB.out⟩
  · have HR : Hid (mayDoB l = false) := Lib.hid (by unfold mayDoB; rw [hlen]; simp [h30])
    clear hlen
    go_enter Try.func36, Try.ntmps36
    go_wp2
    go_ret
    exact ⟨retB HR.out.symm, Below.refl _ _⟩
end Go.Proofs.Ytkikfaeigoeogaa.P
