/- Tickets: the document's keys that are ready. -/
import Derived.Test.YtefldchhopgliaaTkPlace
namespace Go.Proofs.Ytefldchhopgliaa.P
open Go.RowKit Go.Sort
set_option maxHeartbeats 1000000
set_option linter.unusedVariables false
set_option linter.unusedSimpArgs false
set_option maxRecDepth 100000

def inB (l : List ByteArray) (s : ByteArray) : Bool := l.any fun y => teq y s
theorem holdTo_in (kind m : Int) (ol : List KV) (k : ByteArray) : ∀ j, inB (holdTo kind m ol j) k = true ↔ ∃ p x, p < j ∧ ol[p]? = some x ∧ teq x.key k = true ∧ metB (ol.take p) x.key = false ∧ letsB kind m (p : Int) ((ol.take p).any writesB) = true
  | 0 => by simp [holdTo, inB]
  | j + 1 => by
    have ih := holdTo_in kind m ol k j
    unfold inB at ih ⊢
    unfold holdTo
    rw [List.any_append, Bool.or_eq_true, ih]
    constructor
    · rintro (⟨p, x, hp, h⟩ | h)
      · exact ⟨p, x, by omega, h⟩
      · cases hx : ol[j]? with
        | none => rw [hx] at h; simp at h
        | some x =>
          rw [hx] at h
          by_cases hc : metB (ol.take j) x.key = false ∧ letsB kind m (j : Int) ((ol.take j).any writesB) = true
          · simp only [if_pos hc] at h
            exact ⟨j, x, by omega, hx, by simpa using h, hc.1, hc.2⟩
          · simp only [if_neg hc] at h; simp at h
    · rintro ⟨p, x, hp, hx, h1, h2, h3⟩
      by_cases e : p = j
      · subst e
        refine .inr ?_
        rw [hx]
        simp only [if_pos (And.intro h2 h3)]
        simpa using h1
      · exact .inl ⟨p, x, by omega, hx, h1, h2, h3⟩
theorem met_iff (l : List KV) (k : ByteArray) : metB l k = false ↔ ∀ y ∈ l, teq y.key k = false := by
  unfold metB
  rw [List.any_eq_false]
  exact ⟨fun h y hy => by simpa using h y hy, fun h y hy => by rw [h y hy]; simp⟩
theorem hold_step (kind m : Int) (l : List KV) (j : Nat) (x : KV) (hx : (ordL befB l)[j]? = some x) :
    (readyB kind m l x.key && !(inB (holdTo kind m (ordL befB l) j) x.key)) = (!(metB ((ordL befB l).take j) x.key) && letsB kind m (j : Int) (((ordL befB l).take j).any writesB)) := by
  have hf : (findL l x.key).isSome = true := by
    rw [find_any_iff]
    exact List.any_eq_true.2 ⟨x, (ord_mem_iff x l).1 (List.mem_of_getElem? hx), teq_self _⟩
  unfold readyB aheadL
  rw [hf, Bool.true_and]
  generalize ordL befB l = ol at *
  rcases idxL_is x.key ol with ⟨e, h⟩ | ⟨p, y, e, hy, ht, h⟩
  · have := h x (List.mem_of_getElem? hx)
    rw [teq_self] at this
    cases this
  · rw [e]
    have hpl : p < ol.length := (List.getElem?_eq_some_iff.1 hy).1
    have hlen : ((ol.take (p : Int).toNat).length : Int) = p := by
      rw [List.length_take]; omega
    have htk : (p : Int).toNat = p := by omega
    rw [hlen, htk]
    have hpj : p ≤ j := by
      rcases Nat.lt_or_ge j p with hlt | hge
      · have := h x (List.mem_of_getElem? (i := j) (by rw [List.getElem?_take_of_lt hlt]; exact hx))
        rw [teq_self] at this
        cases this
      · exact hge
    by_cases e2 : p = j
    · subst e2
      have hm : metB (ol.take p) x.key = false := (met_iff _ _).2 h
      rw [hm]
      have hin : inB (holdTo kind m ol p) x.key = false := by
        cases hb : inB (holdTo kind m ol p) x.key with
        | false => rfl
        | true =>
          obtain ⟨p', x', hp', hx', h1, _⟩ := (holdTo_in kind m ol x.key p).1 hb
          have := h x' (List.mem_of_getElem? (i := p') (by rw [List.getElem?_take_of_lt hp']; exact hx'))
          rw [h1] at this
          cases this
      rw [hin]
      simp
    · have hlt : p < j := by omega
      have hm : metB (ol.take j) x.key = true := by
        unfold metB
        exact List.any_eq_true.2 ⟨y, List.mem_of_getElem? (i := p) (by rw [List.getElem?_take_of_lt hlt]; exact hy), ht⟩
      rw [hm]
      cases hl : letsB kind m (p : Int) ((ol.take p).any writesB) with
      | false => simp
      | true =>
        have hin : inB (holdTo kind m ol j) x.key = true := by
          refine (holdTo_in kind m ol x.key j).2 ⟨p, y, hlt, hy, ht, ?_, hl⟩
          rw [teq_iff.1 ht]
          exact (met_iff _ _).2 h
        rw [hin]
        simp
theorem lies_str {w : World} {p : Addr} {x : ByteArray} (h : Lies strC w p x) : w.cell? p = some (.string x) := h 0 _ rfl
theorem inR_any (A : Option Addr) (n c : Nat) (l : List ByteArray) (s : ByteArray) (w : World) (h : RowsOf strC 1 w A n c l) (hn : n ≤ 1000000) :
    Calls Try.prog 34 #[.slice A n c, .string s] w fun e w' => e = .returned (.bool (inB l s)) ∧ Below w.heap.size w w' := by
  have H := Lib.hid h
  have HL := Lib.hid h.len
  clear h
  go_enter Try.func34, Try.ntmps34
  go_wp2
  go_loopw [5] (fun i wr => ∃ j : Nat, j ≤ n ∧ i = .int .i64 j ∧ AllTo (fun y => !teq y s) l j ∧ Below w.heap.size w wr) (fun i _ => n - (intOf i).toNat)
  case atStart => exact ⟨0, Nat.zero_le _, rfl, rfl, Below.refl _ _⟩
  case round =>
    rename World => wr
    obtain ⟨j, hj, rfl, hall, hbel⟩ := hrel
    have HA := Lib.hid hall
    have HB := Lib.hid hbel
    clear hall hbel
    by_cases hlt : j < n
    · obtain ⟨a, x, rfl, hbl, hx, hc⟩ := (H.out.below HB.out).at_ hlt
      have c0 := lies_str hc
      rw [Nat.mul_one] at c0
      have HX := Lib.hid hx
      have hlt1 : (j : Int) < n := by omega
      clear hx hc
      cases ht : teq x s with
      | true =>
        have HT := Lib.hid ht
        have ht' : (x.toList == s.toList) = true := ht
        clear ht
        go_wp2
        go_ret
        exact ⟨by rw [show inB l s = true from List.any_eq_true.2 ⟨x, List.mem_of_getElem? HX.out, HT.out⟩]; rfl, HB.out⟩
      | false =>
        have HT := Lib.hid ht
        have ht' : (x.toList == s.toList) = false := ht
        clear ht
        go_wp2
        go_roundw
        case rel => exact ⟨j + 1, by omega, by go_num, by show _ = true; rw [all_take_s l _ j x HX.out, HA.out.out, HT.out]; rfl, HB.out⟩
        case measure => simp [intOf]; omega
    · obtain rfl : j = n := by omega
      go_wp2
      go_ret
      have e : inB l s = false := by
        have h := HA.out.out
        rw [List.take_of_length_le (by rw [HL.out]; omega), List.all_eq_true] at h
        unfold inB
        rw [List.any_eq_false]
        intro y hy
        have := h y hy
        simpa using this
      exact ⟨by rw [e]; rfl, HB.out⟩
theorem texts_same (A B : Option Addr) (n c d : Nat) (l : List ByteArray) (w : World) (h : RowsOf strC 1 w A n c l) (g : RowsOf strC 1 w B n d l) (hn : n ≤ 1000000) :
    Calls Try.prog 20 #[.slice A n c, .slice B n d] w fun e w' => e = .returned (.bool true) ∧ Below w.heap.size w w' := by
  have H := Lib.hid h
  have G := Lib.hid g
  clear h g
  go_enter Try.func20, Try.ntmps20
  go_wp2
  go_loopw [5] (fun i wr => ∃ j : Nat, j ≤ n ∧ i = .int .i64 j ∧ Below w.heap.size w wr) (fun i _ => n - (intOf i).toNat)
  case atStart => exact ⟨0, Nat.zero_le _, rfl, Below.refl _ _⟩
  case round =>
    rename World => wr
    obtain ⟨j, hj, rfl, hbel⟩ := hrel
    have HB := Lib.hid hbel
    clear hbel
    by_cases hlt : j < n
    · obtain ⟨a, x, rfl, hbl, hx, hc⟩ := (H.out.below HB.out).at_ hlt
      obtain ⟨b, y, rfl, hbl2, hy, hc2⟩ := (G.out.below HB.out).at_ hlt
      obtain rfl := Option.some.inj (hx.symm.trans hy)
      have c0 := lies_str hc
      have c1 := lies_str hc2
      rw [Nat.mul_one] at c0 c1
      have hlt1 : (j : Int) < n := by omega
      have e0 : (x.toList == x.toList) = true := by simp
      clear hx hc hy hc2
      go_wp2
      go_quiet (fail)
      go_wp2
      go_roundw
      case rel => exact ⟨j + 1, by omega, by go_num, below_drewN HB.out _⟩
      case measure => simp [intOf]; omega
    · obtain rfl : j = n := by omega
      go_wp2
      go_ret
      exact ⟨rfl, HB.out⟩
theorem holdTo_step (kind m : Int) (l : List KV) (j : Nat) (x : KV) (hx : (ordL befB l)[j]? = some x) (b : Bool) (hb : (readyB kind m l x.key && !(inB (holdTo kind m (ordL befB l) j) x.key)) = b) :
    holdTo kind m (ordL befB l) (j + 1) = holdTo kind m (ordL befB l) j ++ (if b = true then [x.key] else []) := by
  rw [holdTo_next kind m _ j x hx]
  rw [hold_step kind m l j x hx] at hb
  subst hb
  congr 1
  cases metB ((ordL befB l).take j) x.key <;> cases letsB kind m (j : Int) (((ordL befB l).take j).any writesB) <;> simp
theorem holdersR_any (kind m : Int) (A : Option Addr) (n c : Nat) (l : List KV) (w : World) (h : KVs w A n c l) (hn : n ≤ 100000) :
    Calls Try.prog 22 #[.int .i64 kind, .int .i64 m, .slice A n c] w (HoldEnd w (holdersL kind m l)) := by
  have H := Lib.hid h
  have HL := Lib.hid h.len
  have HV : Hid (holdersL kind m l = holdTo kind m (ordL befB l) l.length) := Lib.hid rfl
  have HO := Lib.hid (ordL_len (lt := befB) l)
  have HS := fun j x hx b hb => holdTo_step kind m l j x hx b hb
  have c1 := orderR_any A n c l w h hn
  rw [HL.out] at HV HO
  clear h
  generalize ordL befB l = ol at *
  go_enter Try.func22, Try.ntmps22
  go_wp2_with fail
  refine c1.mono ?_
  rintro e w1 ⟨Bo, q, dO, rfl, hk, hb⟩
  obtain rfl : q = n := hk.len.symm.trans HO.out
  have K := Lib.hid hk
  have B1 := Lib.hid hb
  clear hk hb c1
  go_wp2
  go_loopw [8, 9] (fun v i wr => ∃ (j : Nat) (B : Option Addr) (d : Nat), j ≤ q ∧ i = .int .i64 j ∧ v = .slice B (holdTo kind m ol j).length d ∧ ownG strC 1 9 wr w1.heap.size B (holdTo kind m ol j).length d (holdTo kind m ol j) ∧ Below w1.heap.size w1 wr) (fun _ i _ => q - (intOf i).toNat)
  case atStart => exact ⟨0, none, 0, Nat.zero_le _, rfl, rfl, ownG_nil _ _ _ _ _, Below.refl _ _⟩
  case round =>
    rename World => wr
    obtain ⟨j, B, d, hj, rfl, rfl, hO, hB⟩ := hrel
    have O := Lib.hid hO
    have BB := Lib.hid hB
    clear hO hB
    have hlen := holdTo_len kind m ol j
    by_cases hlt : j < q
    · obtain ⟨a, x, rfl, hbl, hx, hok, hc⟩ := (K.out.keep BB.out).at_ hlt
      obtain ⟨c0, c1, c2, c3, c4, c5⟩ := hc
      have hlt1 : (j : Int) < q := by omega
      have XC : Hid (∀ w', Below wr.heap.size wr w' → w'.cell? (a.add (j * 6)) = some (.string x.key)) := Lib.hid (fun w' hb => by
        obtain ⟨a', x', ea, _, hx', _, hc'⟩ := (K.out.keep (BB.out.trans (hb.mono BB.out.size))).at_ hlt
        obtain rfl := Option.some.inj ea
        obtain rfl := Option.some.inj (hx.symm.trans hx')
        exact hc'.c0)
      have hs := HS j x hx
      have cr := readyR_any kind m A q c l x.key wr (H.out.keep (then_ B1.out BB.out)) hn
      have ci := fun w' (hb : Below wr.heap.size wr w') => inR_any B (holdTo kind m ol j).length d (holdTo kind m ol j) x.key w' (ownG_rows strC_len (by omega) (ownG_keep O.out hb)) (by omega)
      generalize holdTo kind m ol j = o at *
      clear hok hx
      cases hr : readyB kind m l x.key with
      | false =>
        rw [hr] at cr
        have HT := Lib.hid (hs false (by rw [hr]; rfl))
        clear hs hr ci
        go_wp2_with fail
        refine cr.mono ?_
        rintro e w2 ⟨rfl, hb⟩
        have B2 := Lib.hid hb
        clear hb cr
        go_wp2
        go_roundw
        case rel => exact ⟨j + 1, B, d, by omega, by go_num, by rw [HT.out]; simp, by rw [HT.out]; simpa using ownG_keep O.out B2.out, BB.out.trans (B2.out.mono BB.out.size)⟩
        case measure => simp [intOf]; omega
      | true =>
        rw [hr] at cr
        cases hi : inB o x.key with
        | true =>
          have HT := Lib.hid (hs false (by rw [hr, hi]; rfl))
          rw [hi] at ci
          clear hs hr hi
          go_wp2_with fail
          refine cr.mono ?_
          rintro e w2 ⟨rfl, hb⟩
          have B2 := Lib.hid hb
          have e0 := XC.out w2 hb
          have ci2 := ci w2 hb
          clear hb cr ci c0
          go_wp2_with fail
          refine ci2.mono ?_
          rintro e w3 ⟨rfl, hb⟩
          have B3 := Lib.hid (then_ B2.out hb)
          clear hb ci2
          go_wp2
          go_roundw
          case rel => exact ⟨j + 1, B, d, by omega, by go_num, by rw [HT.out]; simp, by rw [HT.out]; simpa using ownG_keep O.out B3.out, BB.out.trans (B3.out.mono BB.out.size)⟩
          case measure => simp [intOf]; omega
        | false =>
          have HT := Lib.hid (hs true (by rw [hr, hi]; rfl))
          rw [if_pos rfl] at HT
          rw [hi] at ci
          clear hs hr hi
          go_wp2_with fail
          refine cr.mono ?_
          rintro e w2 ⟨rfl, hb⟩
          have B2 := Lib.hid hb
          have e0 := XC.out w2 hb
          have ci2 := ci w2 hb
          clear hb cr ci c0
          go_wp2_with fail
          refine ci2.mono ?_
          rintro e w3 ⟨rfl, hb⟩
          have B3 := Lib.hid (then_ B2.out hb)
          have e1 := XC.out w3 B3.out
          have BB3 := Lib.hid (BB.out.trans (B3.out.mono BB.out.size))
          obtain ⟨B', d', w4, hr4, hown4, hb4, -⟩ := app_strs w1.heap.size B o.length d o w3 x.key (ownG_keep O.out B3.out) (by omega) BB3.out.size
          have O4 := Lib.hid hown4
          have B4 := Lib.hid (BB3.out.trans hb4)
          clear hb ci2 e0 hown4 hb4
          go_wp2_with (at_builtin; refine wpList_append_eq _ rfl (.tmp 37) (.tmp 43) _ _ rfl _ _ rfl rfl hr4 ?_)
          go_roundw
          case rel => exact ⟨j + 1, B', d', by omega, by go_num, by rw [HT.out, List.length_append]; rfl, by rw [HT.out, List.length_append]; exact O4.out, B4.out⟩
          case measure => simp [intOf]; omega
    · obtain rfl : j = q := by omega
      go_wp2
      go_ret
      exact ⟨B, d, by rw [HV.out]; rfl, by rw [HV.out]; exact ownG_rows strC_len (by omega) O.out, then_ B1.out BB.out⟩
end Go.Proofs.Ytefldchhopgliaa.P
