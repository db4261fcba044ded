/- Tickets: the place of a key, what is ahead of it, who is ready. -/
import Derived.Test.YtnpknpgmlkaplaaDoorTkOrd
import Derived.Test.YtnpknpgmlkaplaaDoorKvFind
import Derived.Test.YtnpknpgmlkaplaaDoorBaseOwn
namespace Go.Proofs.YtnpknpgmlkaplaaDoor.P
open Go.RowKit Go.Sort
set_option maxHeartbeats 1000000
set_option linter.unusedVariables false
set_option linter.unusedSimpArgs false
set_option maxRecDepth 100000

theorem fst1_any (x : KV) (k : ByteArray) (p : Addr) (w : World) (hp : w.cell? p = some (.string k)) :
    Calls Tryd.prog 61 #[x.agg, .pointer (some p)] w fun e w' => e = .returned (.bool (teq x.key k)) ∧ Below w.heap.size w w' := by
  have hlt := World.block_lt_of_cell? w p hp
  go_enter Tryd.func61, Tryd.ntmps61
  go_wp2
  go_ret
  exact ⟨rfl, (Below.refl _ _).alloc (Nat.le_refl _) _⟩

theorem index2_any (A : Option Addr) (n c : Nat) (l : List KV) (k : ByteArray) (p : Addr) (w : World) (h : KVs w A n c l) (hn : n ≤ 1000000) (hp : w.cell? p = some (.string k)) :
    Calls Tryd.prog 50 #[.slice A n c, .func (.func 61) #[] #[.pointer (some p)]] w (IdxEnd l k w) := by
  have hlt0 := World.block_lt_of_cell? w p hp
  have H := Lib.hid h
  have HP := Lib.hid hp
  have HL := Lib.hid hlt0
  clear h hp hlt0
  go_enter Tryd.func50, Tryd.ntmps50
  go_wp2
  go_loopw [8] (fun i wr => ∃ j : Nat, j ≤ n ∧ i = .int .i64 j ∧ AllTo (fun y => !teq y.key k) l j ∧ Below w.heap.size w wr) (fun i _ => n - (intOf i).toNat)
  case atStart => exact ⟨0, Nat.zero_le _, rfl, rfl, Below.refl _ _⟩
  case round =>
    obtain ⟨j, hj, rfl, hall, hbel⟩ := hrel
    by_cases hlt : j < n
    · obtain ⟨a, x, rfl, hbl, hx, hok, hc⟩ := (H.out.keep hbel).at_ hlt
      obtain ⟨c0, c1, c2, c3, c4, c5⟩ := hc
      have HA := Lib.hid hall
      have HB := Lib.hid hbel
      have HX := Lib.hid hx
      have HC := Lib.hid ((HB.out.cell HL.out).trans HP.out)
      clear hok hall hbel hx hbl
      cases ht : teq x.key k with
      | true =>
        have HT := Lib.hid ht
        clear ht
        go_wp2_with fail
        refine (fst1_any x k p wr HC.out).mono ?_; rintro e w1 ⟨rfl, hb⟩
        have HB1 := Lib.hid hb
        clear hb
        rw [HT.out]
        go_wp2
        go_ret
        exact ⟨j, rfl, .inr ⟨j, x, rfl, HX.out, HT.out, none_of_all HA.out⟩, HB.out.trans (HB1.out.mono HB.out.size)⟩
      | false =>
        have HT := Lib.hid ht
        clear ht
        go_wp2_with fail
        refine (fst1_any x k p wr HC.out).mono ?_; rintro e w1 ⟨rfl, hb⟩
        have HB1 := Lib.hid hb
        clear hb
        rw [HT.out]
        go_wp2
        go_roundw
        case rel => exact ⟨j + 1, by omega, by go_num, by show _ = true; rw [all_take_s l _ j x HX.out, HA.out.out, HT.out]; rfl, HB.out.trans (HB1.out.mono HB.out.size)⟩
        case measure => simp [intOf]; omega
    · have e : j = n := by omega
      subst e
      have HA := Lib.hid hall
      have HB := Lib.hid hbel
      clear hall hbel
      go_wp2
      go_ret
      exact ⟨-1, rfl, .inl ⟨rfl, by have := none_of_all HA.out; rwa [take_full l j H.out.len] at this⟩, HB.out⟩


/-- The place of a key's first thing, -1 if it has none. -/
def idxL (k : ByteArray) : List KV → Int
  | [] => -1
  | y :: r => if teq y.key k then 0 else if idxL k r = -1 then -1 else idxL k r + 1
theorem idxL_is (k : ByteArray) : ∀ l : List KV, IdxIs l k (idxL k l)
  | [] => .inl ⟨rfl, fun y hy => by simp at hy⟩
  | z :: r => by
    unfold idxL
    by_cases hz : teq z.key k = true
    · rw [if_pos hz]
      exact .inr ⟨0, z, rfl, rfl, hz, fun y hy => by simp at hy⟩
    · rw [if_neg hz]
      have hz' : teq z.key k = false := by simpa using hz
      rcases idxL_is k r with ⟨e, h⟩ | ⟨j, x, e, hx, ht, h⟩
      · rw [if_pos e]
        exact .inl ⟨rfl, fun y hy => by rcases List.mem_cons.1 hy with rfl | hy; exact hz'; exact h y hy⟩
      · rw [if_neg (by rw [e]; omega)]
        exact .inr ⟨j + 1, x, by rw [e]; omega, by simpa using hx, ht, fun y hy => by
          rw [List.take_succ_cons] at hy
          rcases List.mem_cons.1 hy with rfl | hy
          · exact hz'
          · exact h y hy⟩
theorem idxL_eq {l : List KV} {k : ByteArray} {i : Int} (h : IdxIs l k i) : i = idxL k l := idx_unique h (idxL_is k l)
theorem idxL_range (k : ByteArray) (l : List KV) : -1 ≤ idxL k l ∧ idxL k l < l.length := by
  rcases idxL_is k l with ⟨e, _⟩ | ⟨j, x, e, hx, _⟩
  · rw [e]; omega
  · rw [e]; have := (List.getElem?_eq_some_iff.1 hx).1; omega
theorem KVs.take {w : World} {A : Option Addr} {n c i : Nat} {l : List KV} (h : KVs w A n c l) (hi : i ≤ n) : KVs w A i c (l.take i) :=
  ⟨by rw [List.length_take, h.len]; omega, Nat.le_trans hi h.le, h.max, fun x hx => h.ok x (List.mem_of_mem_take hx), fun h0 => by
    obtain ⟨a, e, hlt, hx⟩ := h.rd (by omega)
    exact ⟨a, e, hlt, fun k x hk => hx k x (by
      rw [List.getElem?_take] at hk
      split at hk
      · exact hk
      · cases hk)⟩, h.nil⟩
/-- What is ahead of a key in the order. -/
def aheadL (l : List KV) (k : ByteArray) : List KV := (ordL befB l).take (idxL k (ordL befB l)).toNat
theorem first_any (A : Option Addr) (n c : Nat) (l : List KV) (k : ByteArray) (w : World) (h : KVs w A n c l) (hn : n ≤ 1000000) :
    Calls Tryd.prog 58 #[.slice A n c, .string k] w fun e w' => e = .returned (.int .i64 (idxL k l)) ∧ Below w.heap.size w w' := by
  have H := Lib.hid h
  clear h
  have NB := Lib.hid (new1 w (.cells #[.string k] 9))
  have hcell : (w.alloc (.cells #[.string k] 9)).cell? ⟨w.heap.size, 0, none⟩ = some (.string k) := by simp
  have HC := Lib.hid hcell
  clear hcell
  go_enter Tryd.func58, Tryd.ntmps58
  go_wp2_with fail
  refine (index2_any A n c l k ⟨w.heap.size, 0, none⟩ _ (H.out.keep NB.out) hn HC.out).mono ?_
  rintro e w2 ⟨i, rfl, hi, hb⟩
  have HB := Lib.hid (then_ NB.out hb)
  have HI := Lib.hid (idxL_eq hi)
  clear hb hi
  go_wp2
  go_ret
  exact ⟨by rw [← HI.out]; rfl, HB.out⟩
def AheadEnd (w : World) (al : List KV) (e : Ending) (w' : World) : Prop := ∃ g q d, e = .returned (.slice (some ⟨g, 0, none⟩) q d) ∧ w.heap.size ≤ g ∧ KVs w' (some ⟨g, 0, none⟩) q d al ∧ Below w.heap.size w w'
theorem KVs.grown {w w' : World} {A : Option Addr} {n c : Nat} {l : List KV} {row : Option Nat} (h : KVs w A n c l) (hg : w.grownBy w' row) (hne : ∀ a, A = some a → some a.block ≠ row) : KVs w' A n c l :=
  ⟨h.len, h.le, h.max, h.ok, fun hn => by
    obtain ⟨a, e, hlt, hx⟩ := h.rd hn
    refine ⟨a, e, Nat.lt_of_lt_of_le hlt hg.size, fun i x hi => ?_⟩
    have key : ∀ o, w'.cell? ⟨a.block, o, none⟩ = w.cell? ⟨a.block, o, none⟩ := fun o => World.cell?_of_block (a := ⟨a.block, o, none⟩) (hg.block _ hlt (hne a e))
    have h6 := hx i x hi
    have hb : (a.add (i * 6)).block = a.block := block_add a (i * 6)
    have k0 : w'.cell? (a.add (i * 6)) = w.cell? (a.add (i * 6)) := World.cell?_of_block (a := a.add (i * 6)) (by rw [hb]; exact hg.block _ hlt (hne a e))
    exact ⟨k0.trans h6.c0, by rw [hb]; exact (key _).trans (by rw [← hb]; exact h6.c1), by rw [hb]; exact (key _).trans (by rw [← hb]; exact h6.c2), by rw [hb]; exact (key _).trans (by rw [← hb]; exact h6.c3),
      by rw [hb]; exact (key _).trans (by rw [← hb]; exact h6.c4), by rw [hb]; exact (key _).trans (by rw [← hb]; exact h6.c5)⟩, h.nil⟩
theorem ahead_any (A : Option Addr) (n c : Nat) (l : List KV) (k : ByteArray) (w : World) (h : KVs w A n c l) (hn : n ≤ 1000000) :
    Calls Tryd.prog 52 #[.slice A n c, .string k] w (AheadEnd w (aheadL l k)) := by
  have HL := Lib.hid h.len
  have c1 := order_any A n c l w h hn
  clear h
  go_enter Tryd.func52, Tryd.ntmps52
  go_wp2_with fail
  refine c1.mono ?_
  rintro e w1 ⟨g, rfl, hg, hk, hb⟩
  have HB := Lib.hid hb
  have HG := Lib.hid hg
  have HK := Lib.hid hk
  have c2 := first_any _ _ _ _ k _ hk (by rw [HL.out]; omega)
  have hr := idxL_range k (ordL befB l)
  rw [ordL_len, HL.out] at hr
  have HA : Hid (aheadL l k = (ordL befB l).take (idxL k (ordL befB l)).toNat) := Lib.hid rfl
  generalize idxL k (ordL befB l) = i at *
  rw [HL.out] at c2
  clear hb hk hg c1
  have e0 := HL.out
  rw [e0]
  clear e0
  have HR := Lib.hid hr
  have hmx : (max i 0).toNat = i.toNat := by omega
  have HX := Lib.hid hmx
  have hb1 : (0 : Int) ≤ max i 0 := by omega
  have hb2 : max i 0 ≤ (n : Int) := by omega
  have hb3 : (max i 0).toNat ≤ n := by omega
  clear hr hmx
  go_wp2_with fail
  refine c2.mono ?_
  rintro e w2 ⟨rfl, hb⟩
  have HB2 := Lib.hid (then_ HB.out hb)
  have HK2 := Lib.hid (HK.out.keep hb)
  clear hb c2
  go_wp2
  go_ret
  refine ⟨g, (max i 0).toNat, n, rfl, HG.out, ?_, HB2.out⟩
  have := HK2.out
  rw [HL.out] at this
  rw [HX.out, HA.out]
  exact this.take (by have := HR.out; omega)
/-- What is ahead: how many, and whether one of them is a writer's. -/
def writesB (x : KV) : Bool := teq x.val ⟨#[119]⟩
theorem and_any (m : Int) (b : Bool) (x : KV) (w : World) (hm : 0 ≤ m ∧ m ≤ 1000000) :
    Calls Tryd.prog 53 #[.agg #[.int .i64 m, .bool b], x.agg] w fun e w' => e = .returned (.agg #[.int .i64 (m + 1), .bool (b || writesB x)]) ∧ Below w.heap.size w w' := by
  obtain ⟨hm0, hm1⟩ := hm
  have r0 : IntKind.i64.wrap (m + 1) = m + 1 := by rw [IntKind.wrap_i64]; omega
  have HW : Hid ((x.val.toList == [119]) = writesB x) := Lib.hid (by unfold writesB teq; rw [show (⟨#[119]⟩ : ByteArray).toList = [119] by rw [ByteArray.toList_eq]])
  have NB := Lib.hid (then_ (then_ (new1 w (.cells #[.int .i64 m, .bool b] 85)) (new1 _ (x.obj 47))) (new1 _ (.cells #[.int .i64 (m + 1), .bool (b || writesB x)] 85)))
  cases b with
  | true =>
    go_enter Tryd.func53, Tryd.ntmps53
    go_wp2
    exact bodyPost_ret (v := .agg #[.int .i64 (m + 1), .bool true]) (by simp [results, Tryd.results53, go_sem]) rfl ⟨rfl, NB.out⟩
  | false =>
    go_enter Tryd.func53, Tryd.ntmps53
    go_wp2
    rw [HW.out]
    exact bodyPost_ret (v := .agg #[.int .i64 (m + 1), .bool (writesB x)]) (by simp [results, Tryd.results53, go_sem]) rfl ⟨rfl, NB.out⟩
def letsB (kind n m : Int) (b : Bool) : Bool :=
  if kind = 1 ∨ kind = 3 ∨ kind = 5 then decide (m = 0) else if kind = 2 then !b else if kind = 4 then decide (m < n) else false
theorem lets_any (kind n m : Int) (b : Bool) (w : World) :
    Calls Tryd.prog 54 #[.agg #[.int .i64 m, .bool b], .int .i64 kind, .int .i64 n] w fun e w' => e = .returned (.bool (letsB kind n m b)) ∧ Below w.heap.size w w' := by
  have NB := Lib.hid (new1 w (.cells #[.int .i64 m, .bool b] 85))
  by_cases h1 : kind = 1 ∨ kind = 3 ∨ kind = 5
  · have HV : Hid (letsB kind n m b = (m == 0)) := Lib.hid (by unfold letsB; rw [if_pos h1]; exact (Bool.beq_eq_decide_eq _ _).symm)
    rcases h1 with rfl | rfl | rfl
    all_goals (go_enter Tryd.func54, Tryd.ntmps54; go_wp2; go_ret; exact ⟨by rw [HV.out]; rfl, NB.out⟩)
  · by_cases h2 : kind = 2
    · have HV : Hid (letsB kind n m b = !b) := Lib.hid (by unfold letsB; rw [if_neg h1, if_pos h2])
      subst h2
      go_enter Tryd.func54, Tryd.ntmps54
      go_wp2
      go_ret
      exact ⟨by rw [HV.out]; rfl, NB.out⟩
    · by_cases h4 : kind = 4
      · have HV : Hid (letsB kind n m b = decide (m < n)) := Lib.hid (by unfold letsB; rw [if_neg h1, if_neg h2, if_pos h4])
        subst h4
        go_enter Tryd.func54, Tryd.ntmps54
        go_wp2
        go_ret
        exact ⟨by rw [HV.out]; rfl, NB.out⟩
      · have HV : Hid (letsB kind n m b = false) := Lib.hid (by unfold letsB; rw [if_neg h1, if_neg h2, if_neg h4])
        have k1 : (kind == 1) = false := by simp; omega
        have k2 : (kind == 2) = false := by simp; omega
        have k3 : (kind == 3) = false := by simp; omega
        have k4 : (kind == 4) = false := by simp; omega
        have k5 : (kind == 5) = false := by simp; omega
        clear h1 h2 h4
        go_enter Tryd.func54, Tryd.ntmps54
        go_wp2
        go_ret
        exact ⟨by rw [HV.out]; rfl, NB.out⟩
def signB (kind : Int) : ByteArray := if kind = 2 then ⟨#[114]⟩ else if kind = 3 then ⟨#[119]⟩ else ⟨#[]⟩
theorem sign_any (kind : Int) (w : World) :
    Calls Tryd.prog 19 #[.int .i64 kind] w fun e w' => e = .returned (.string (signB kind)) ∧ w = w' := by
  by_cases h2 : kind = 2
  · have HV : Hid (signB kind = ⟨#[114]⟩) := Lib.hid (by unfold signB; rw [if_pos h2])
    subst h2
    go_enter Tryd.func19, Tryd.ntmps19
    go_wp2
    go_ret
    exact ⟨by rw [HV.out]; rfl, rfl⟩
  · by_cases h3 : kind = 3
    · have HV : Hid (signB kind = ⟨#[119]⟩) := Lib.hid (by unfold signB; rw [if_neg h2, if_pos h3])
      subst h3
      go_enter Tryd.func19, Tryd.ntmps19
      go_wp2
      go_ret
      exact ⟨by rw [HV.out]; rfl, rfl⟩
    · have HV : Hid (signB kind = ⟨#[]⟩) := Lib.hid (by unfold signB; rw [if_neg h2, if_neg h3])
      have k2 : (kind == 2) = false := by simp; omega
      have k3 : (kind == 3) = false := by simp; omega
      clear h2 h3
      go_enter Tryd.func19, Tryd.ntmps19
      go_wp2
      go_ret
      exact ⟨by rw [HV.out]; rfl, rfl⟩
def manyL (o : List KV) (k : ByteArray) : Int := (aheadL o k).length
/-- Who is ready. -/
def readyB (kind n : Int) (l : List KV) (k : ByteArray) : Bool := (findL l k).isSome && letsB kind n ((aheadL l k).length : Int) ((aheadL l k).any writesB)
theorem any_take (l : List KV) (p : KV → Bool) (k : Nat) (x : KV) (h : l[k]? = some x) : (l.take (k + 1)).any p = ((l.take k).any p || p x) := by
  rw [take_succ l k x h, List.any_append]; simp
theorem ready_any (kind m : Int) (A : Option Addr) (n c : Nat) (l : List KV) (k : ByteArray) (w : World) (h : KVs w A n c l) (hn : n ≤ 1000000) :
    Calls Tryd.prog 46 #[.int .i64 kind, .int .i64 m, .slice A n c, .string k] w fun e w' => e = .returned (.bool (readyB kind m l k)) ∧ Below w.heap.size w w' := by
  have hlen := h.len
  have NB := Lib.hid (new1 w (.cells #[.int .i64 0, .bool false] 85))
  have c1 := ahead_any A n c l k _ (h.keep NB.out) hn
  have HL : Hid ((aheadL l k).length ≤ 1000000) := Lib.hid (by unfold aheadL; rw [List.length_take, ordL_len, hlen]; omega)
  have HR : Hid (readyB kind m l k = ((findL l k).isSome && letsB kind m ((aheadL l k).length : Int) ((aheadL l k).any writesB))) := Lib.hid rfl
  have H := Lib.hid h
  generalize aheadL l k = al at *
  clear h hlen
  go_enter Tryd.func46, Tryd.ntmps46
  go_wp2_with fail
  refine c1.mono ?_
  rintro e w1 ⟨g, q, d, rfl, hg, hk, hb⟩
  have HB := Lib.hid (then_ NB.out hb)
  have HK := Lib.hid hk
  have HO := Lib.hid ((own_new w #[.int .i64 0, .bool false] 85).below hb)
  have hgb : g ≠ w.heap.size := by simp at hg; omega
  have HG := Lib.hid hgb
  have HQ := Lib.hid hk.len
  have hq : q ≤ 1000000 := by rw [← hk.len]; exact HL.out
  clear hb hk c1 hg hgb
  go_wp2
  go_loopw [18] (fun i wr => ∃ j : Nat, j ≤ q ∧ i = .int .i64 j ∧ Own wr w.heap.size 85 #[.int .i64 (j : Int), .bool ((al.take j).any writesB)] ∧ KVs wr (some ⟨g, 0, none⟩) q d al ∧ Below w.heap.size w wr) (fun i _ => q - (intOf i).toNat)
  case atStart => exact ⟨0, Nat.zero_le _, rfl, HO.out, HK.out, HB.out⟩
  case round =>
    clear HO HK HB
    rename World => wr
    obtain ⟨j, hj, rfl, hO, hK, hB⟩ := hrel
    have O := Lib.hid hO; have K := Lib.hid hK; have B := Lib.hid hB
    clear hO hK hB
    by_cases hlt : j < q
    · obtain ⟨a, x, e1, hbl, hx, hok, hc⟩ := K.out.at_ hlt
      injection e1 with e1
      subst e1
      have e0 : (⟨g, 0, none⟩ : Addr).add (j * 6) = ⟨g, j * 6, none⟩ := by unfold Addr.add; split <;> simp_all
      rw [e0] at hc
      obtain ⟨c0, c1, c2, c3, c4, c5⟩ := hc
      have NX := Lib.hid (new1 wr (x.obj 47))
      have O1 := Lib.hid (O.out.below NX.out)
      have hT := Lib.hid (any_take al writesB j x hx)
      have ca := fun b w => and_any (j : Int) b x w ⟨by omega, by omega⟩
      have d0 := O1.out.cell 0 _ rfl
      have d1 := O1.out.cell 1 _ rfl
      clear e0 hx hok
      generalize (al.take j).any writesB = u at *
      go_wp2_with fail
      refine (ca _ _).mono ?_
      rintro e w2 ⟨rfl, hb⟩
      have O2 := Lib.hid (O1.out.below hb)
      have K2 := Lib.hid ((K.out.keep NX.out).keep hb)
      have B2 := Lib.hid ((B.out.trans (NX.out.mono B.out.size)).trans (hb.mono (Nat.le_trans B.out.size NX.out.size)))
      have f0 := O2.out.frozen 0
      have f1 := O2.out.frozen 1
      have g0 := O2.out.cell 0 _ rfl
      have g1 := O2.out.cell 1 _ rfl
      clear hb ca c0 c1 c2 c3 c4 c5 d0 d1
      go_wp2
      go_roundw
      case rel => exact ⟨j + 1, by omega, by go_num, by rw [hT.out]; exact (O2.out.set 0 _).set 1 _, (K2.out.grown (Lib.grownBy_setCell _ _ 0 _) (fun a h => by injection h with h; subst h; intro hh; injection hh with hh; exact HG.out hh)).grown (Lib.grownBy_setCell _ _ 1 _) (fun a h => by injection h with h; subst h; intro hh; injection hh with hh; exact HG.out hh), below_set2 B2.out (Nat.le_refl _) _ _⟩
      case measure => simp [intOf]; omega
    · obtain rfl : j = q := by omega
      have hfull : al.take j = al := take_full al j HQ.out
      have O' := O.out
      rw [hfull] at O'
      have O2 := Lib.hid O'
      clear O O' hfull
      have cf := find_any A n c l k wr (H.out.keep B.out) hn
      have HJ := Lib.hid HQ.out
      cases hfd : findL l k with
      | none =>
        rw [hfd] at cf
        have HF := Lib.hid hfd
        clear hfd
        go_wp2_with fail
        refine cf.mono ?_
        rintro e w2 hf
        obtain ⟨rfl, hb⟩ := hf.none_
        have B2 := Lib.hid (B.out.trans (hb.mono B.out.size))
        clear hf hb cf
        go_wp2
        go_ret
        exact ⟨by rw [HR.out, HF.out]; rfl, B2.out.trans ((new1 _ _).mono B2.out.size)⟩
      | some y =>
        rw [hfd] at cf
        have HF := Lib.hid hfd
        clear hfd
        go_wp2_with fail
        refine cf.mono ?_
        rintro e w2 hf
        obtain ⟨rfl, hb⟩ := hf.some_
        have B2 := Lib.hid (B.out.trans (hb.mono B.out.size))
        have O3 := Lib.hid ((O2.out.below hb).alloc (y.obj 47))
        have B3 := Lib.hid (B2.out.trans ((new1 _ (y.obj 47)).mono B2.out.size))
        have d0 := O3.out.cell 0 _ rfl
        have d1 := O3.out.cell 1 _ rfl
        have cl := fun w => lets_any kind m (j : Int) (al.any writesB) w
        clear hf hb cf
        generalize al.any writesB = u at *
        go_wp2_with fail
        refine (cl _).mono ?_
        rintro e w3 ⟨rfl, hb⟩
        have B4 := Lib.hid (B3.out.trans (hb.mono B3.out.size))
        clear hb cl d0 d1
        go_wp2
        go_ret
        exact ⟨by rw [HR.out, HF.out, HJ.out]; rfl, B4.out⟩
end Go.Proofs.YtnpknpgmlkaplaaDoor.P
