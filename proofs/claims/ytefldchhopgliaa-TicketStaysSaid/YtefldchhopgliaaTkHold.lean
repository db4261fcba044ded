/- Tickets: the keys that are ready, in their order. -/
import Derived.Test.YtefldchhopgliaaTkFirst
import Derived.Maps.OwnSet
import Derived.Maps.OwnOps
namespace Go.Proofs.Ytefldchhopgliaa.P
open Go.RowKit Go.Sort Go.Maps Go.WideMaps
set_option maxHeartbeats 2000000
set_option linter.unusedVariables false
set_option linter.unusedSimpArgs false
set_option maxRecDepth 100000

/-- How an element of a map of Booleans reads. -/
def boolR : Value → Option (DataW Unit × List MemPlace)
  | .bool x => some (.lit (.bool x), [])
  | _ => none
theorem boolR_mk (x : Bool) : boolR (.bool x) = some (.lit (.bool x), []) := rfl
theorem boolR_inv {v : Value} {x : Bool} {ps : List MemPlace} (h : boolR v = some (.lit (.bool x), ps)) : v = .bool x := by
  cases v <;> simp [boolR] at h
  rw [h.1]
theorem wpList_lookup_own_bool {P : Program} (w : World) {ops : Array Oper} {rest : List Oper} {o : Oper} {a : Act} {Q : Exit → Act → World → Prop}
    (hg : o.guard = none) (m x : Operand) (t : TypeId) (hop : o.op = Op.lookup t m x false)
    (k e : TypeId) (K : Keyed P k) (ht : P.underlying t = some (.map k e)) (hz : (zeroValue e).run P w = .ok (.bool false) w) (b n : Nat) (D : DataW Unit)
    (hm : a.eval m = .map (some b)) (hown : w.ownsMap P k boolR b n D) (key : Value) (kl : Lit) (hx : a.eval x = key) (hkey : keyOf P k key = some kl)
    (c : Bool) (hc : D.atKey kl (.lit (.bool false)) = .lit (.bool c))
    (hK : wpList P ops Q rest (a.put o.dst (.bool c)) w) :
    wpList P ops Q (o :: rest) a w := by
  refine wpList_plain hg fun K' hK' => ?_
  obtain ⟨v, ps, hrun, hv⟩ := hown.lookup K ht hz (boolR_mk false) hkey
  rw [hc] at hv
  obtain rfl := boolR_inv hv
  unfold Oper.wp
  simp [execOp, hop, hm, hx, hrun, Result.andThen]
  exact hK' _ _ hK
def litS (k : ByteArray) : Lit := .string k.data.toList
theorem litS_same (a b : ByteArray) : (litS a).sameKey (litS b) = teq a b := by
  show (a.data.toList == b.data.toList) = (a.toList == b.toList)
  rw [ByteArray.toList_eq, ByteArray.toList_eq]
/-- The keys that were met. -/
def metS (l : List KV) : DataW Unit := setOf (.lit (.bool true)) (l.map fun x => litS x.key)
theorem metS_nil : metS [] = .map [] := rfl
theorem metS_snoc (l : List KV) (x : KV) : metS (l ++ [x]) = (metS l).put (litS x.key) (.lit (.bool true)) := by unfold metS; rw [List.map_append, List.map_singleton, setOf_snoc]
theorem metS_map (l : List KV) : IsMap (metS l) := by
  have : ∀ (acc : List Lit) (m : DataW Unit), IsMap m → IsMap (acc.foldl (fun m x => m.put x (.lit (.bool true))) m) := by
    intro acc
    induction acc with
    | nil => intro m h; exact h
    | cons x r ih => intro m h; obtain ⟨es, rfl⟩ := h; exact ih _ ⟨_, rfl⟩
  exact this _ _ isMap_empty
def metB (l : List KV) (k : ByteArray) : Bool := l.any fun y => teq y.key k
theorem metS_at (l : List KV) (k : ByteArray) : (metS l).atKey (litS k) (.lit (.bool false)) = .lit (.bool (metB l k)) := by
  have hh : Maps.has (metS l) (litS k) = metB l k := by
    unfold metS metB
    rw [has_setOf]
    · rw [List.any_map]
      congr 1
      funext y
      exact litS_same y.key k
    · intro x hx
      obtain ⟨y, _, rfl⟩ := List.mem_map.1 hx
      exact trivial
  cases hm : metB l k with
  | false => rw [hm] at hh; exact atKey_of_not_has hh _
  | true =>
    rw [hm] at hh
    clear hh
    have : ∀ (n : Nat) (l : List KV), l.length = n → metB l k = true → (metS l).atKey (litS k) (.lit (.bool false)) = .lit (.bool true) := by
      intro n
      induction n with
      | zero => intro l hl h; obtain rfl := List.eq_nil_of_length_eq_zero hl; simp [metB] at h
      | succ n ih =>
        intro l hl h
        rcases List.eq_nil_or_concat l with rfl | ⟨r, x, rfl⟩
        · simp at hl
        · rw [List.concat_eq_append] at hl h ⊢
          rw [metS_snoc]
          by_cases e : teq x.key k = true
          · rw [teq_iff.1 e]
            exact atKey_put_same (k := litS k) (metS_map r) trivial _ _
          · have hne : litS k ≠ litS x.key := fun h' => e (by rw [← litS_same, ← h']; show (k.data.toList == k.data.toList) = true; simp)
            rw [atKey_put_other hne]
            refine ih r (by simpa using hl) ?_
            unfold metB at h ⊢
            rw [List.any_append] at h
            simpa [e] using h
    exact this _ l rfl hm
theorem lawS : Keyed Try.prog 9 := string_keyed Try.underlying9
theorem keyS {k : ByteArray} (h : k.size ≤ maxLen) : keyOf Try.prog 9 (.string k) = some (litS k) := keyOf_string_mk Try.underlying9 h
theorem zeroBool (w : World) : (zeroValue 4).run Try.prog w = .ok (.bool false) w := by kernel_rfl
theorem ownsMap_belowB {P : Program} {k : TypeId} {R : Value → Option (DataW Unit × List MemPlace)} {w w' : World} {b n : Nat} {D : DataW Unit} (h : w.ownsMap P k R b n D) (hb : Below w.heap.size w w') : w'.ownsMap P k R b n D := by
  have hlt := h.lt
  obtain ⟨es, clock, hbk, F, hs, hD⟩ := h
  exact ⟨es, clock, (hb.block b hlt).trans hbk, F, hs, hD⟩
/-! Rows of texts. -/
abbrev strC (s : ByteArray) : List Value := [.string s]
theorem strC_len (s : ByteArray) : (strC s).length = 1 := rfl
theorem strC_one (s : ByteArray) (v : Value) (h : v ∈ strC s) : v.oneCell' = true := by simp at h; subst h; rfl
theorem str_info : (Try.prog.info? 9).map (fun i => (i.zero, i.size, i.bytes)) = some (some (.string ⟨#[]⟩), 1, 16) := by kernel_rfl
theorem app_strs (base : Nat) (B : Option Addr) (n d : Nat) (xs : List ByteArray) (w : World) (z : ByteArray) (hown : ownG strC 1 9 w base B n d xs) (hn : n ≤ 1000000 - 1) (hb : base ≤ w.heap.size) :
    ∃ B' d' w', (Builtin.append_ #[33, 33] 33 #[.slice B n d, .slice (some ⟨w.heap.size, 0, none⟩) 1 1]).run Try.prog (w.alloc (.cells #[.string z] 9)) = .ok (.slice B' (n + 1) d') w' ∧ ownG strC 1 9 w' base B' (n + 1) d' (xs ++ [z]) ∧ Below base w w' ∧ (w.alloc (.cells #[.string z] 9)).grownBy w' (Value.slice B n d).ownBlock := by
  obtain ⟨i0, hi0, hz0, hz1, hz2⟩ := info_partsT str_info
  obtain ⟨B', d', w', h1, h2, h3, h4⟩ := app_rows strC_len (by omega) strC_one Try.underlying33 hi0 hz0 hz1 hz2 rfl (by omega) base B n d xs (w.alloc (.cells #[.string z] 9)) (ownG_keep hown (new1 w _)) _ 1 1 [z] (rows_new strC_len (e := 9) w z #[.string z] rfl) (by omega) (by simp; omega)
  exact ⟨B', d', w', h1, h2, ((Below.refl _ _).alloc hb _).trans h3, h4⟩
/-- The keys that hold, of the first j. -/
def holdTo (kind m : Int) (ol : List KV) : Nat → List ByteArray
  | 0 => []
  | j + 1 => holdTo kind m ol j ++ (match ol[j]? with | some x => if metB (ol.take j) x.key = false ∧ letsB kind m (j : Int) ((ol.take j).any writesB) = true then [x.key] else [] | none => [])
def holdersL (kind m : Int) (l : List KV) : List ByteArray := holdTo kind m (ordL befB l) l.length
theorem holdTo_len (kind m : Int) (ol : List KV) : ∀ j, (holdTo kind m ol j).length ≤ j
  | 0 => Nat.le_refl _
  | j + 1 => by
    have := holdTo_len kind m ol j
    unfold holdTo
    rw [List.length_append]
    split
    · split <;> simp <;> omega
    · simp; omega
theorem holdTo_next (kind m : Int) (ol : List KV) (j : Nat) (x : KV) (hx : ol[j]? = some x) :
    holdTo kind m ol (j + 1) = holdTo kind m ol j ++ (if metB (ol.take j) x.key = false ∧ letsB kind m (j : Int) ((ol.take j).any writesB) = true then [x.key] else []) := by
  show holdTo kind m ol j ++ (match ol[j]? with | some x => _ | none => []) = _
  rw [hx]
theorem metS_next (ol : List KV) (j : Nat) (x : KV) (hx : ol[j]? = some x) : metS (ol.take (j + 1)) = (metS (ol.take j)).put (litS x.key) (.lit (.bool true)) := by
  rw [take_succ ol j x hx]; exact metS_snoc _ _
def HoldEnd (w : World) (hs : List ByteArray) (e : Ending) (w' : World) : Prop := ∃ B d, e = .returned (.slice B hs.length d) ∧ RowsOf strC 1 w' B hs.length d hs ∧ Below w.heap.size w w'
theorem L_ne {w : World} {base n b : Nat} {e : TypeId} {v : Value} {xs : List Value} (h : w.ownsRow base e 1 v n xs) (hb : b < base) : some b ≠ v.ownBlock := by
  intro hh
  have := (h.lt b hh.symm).1
  omega
theorem L_or {w : World} {base n b : Nat} {e : TypeId} {v : Value} {xs : List Value} (h : w.ownsRow base e 1 v n xs) (hb : b < base) : v.ownBlock = none ∨ v.ownBlock ≠ some b := .inr fun hh => L_ne h hb hh.symm
theorem row_set2 {w : World} {base n b : Nat} {e : TypeId} {v : Value} {xs : List Value} (h : w.ownsRow base e 1 v n xs) (hb : b < base) (x y : Value) : ((w.setCell ⟨b, 0, none⟩ x).setCell ⟨b, 1, none⟩ y).ownsRow base e 1 v n xs := by
  have h1 := h.kept (Lib.grownBy_setCell w b 0 x) (L_or h hb)
  exact h1.kept (Lib.grownBy_setCell _ b 1 y) (L_or h1 hb)
theorem holders_any (kind m : Int) (A : Option Addr) (n c : Nat) (l : List KV) (w : World) (h : KVs w A n c l) (hn : n ≤ 100000) :
    Calls Try.prog 21 #[.int .i64 kind, .int .i64 m, .slice A n c] w (HoldEnd w (holdersL kind m l)) := by
  have hmm := @run_makeMap Try.prog
  have NB := Lib.hid (then_ (new1 w (.cells #[.int .i64 0, .bool false] 50)) (new1 _ (.map #[] 0)))
  have c1 := order_any A n c l _ (h.keep NB.out) (by omega)
  have HL := Lib.hid h.len
  have HV : Hid (holdersL kind m l = holdTo kind m (ordL befB l) l.length) := Lib.hid rfl
  have HO := Lib.hid (ordL_len (lt := befB) l)
  unfold OrdEnd at c1
  generalize ordL befB l = ol at *
  rw [HL.out] at c1
  clear h
  go_enter Try.func21, Try.ntmps21
  go_wp2_with fail
  refine c1.mono ?_
  rintro e w1 ⟨g, rfl, hg, hk, hb⟩
  have B_0 := Lib.hid (then_ NB.out hb)
  have K_0 := Lib.hid hk
  have O_0 := Lib.hid (((own_new w #[.int .i64 0, .bool false] 50).alloc (.map #[] 0)).below hb)
  have M_0 := Lib.hid (ownsMap_belowB (World.ownsMap_made (w.alloc (.cells #[.int .i64 0, .bool false] 50)) Try.prog 9 boolR) hb)
  have hgm : g ≠ w.heap.size ∧ g ≠ w.heap.size + 1 := by simp at hg; omega
  have G := Lib.hid hgm
  have hz1 : w.heap.size + 1 < w1.heap.size := by have := hb.size; simp at this; omega
  have HB := Lib.hid hz1
  rw [show (w.alloc (.cells #[.int .i64 0, .bool false] 50)).heap.size = w.heap.size + 1 by simp] at M_0
  have GL : Hid (0 < n → g < w1.heap.size) := Lib.hid (fun h0 => by obtain ⟨a, e, hl, _⟩ := hk.rd h0; injection e with e; subst e; exact hl)
  rw [HL.out] at HV HO
  clear hb hk c1 hg hgm hz1
  go_wp2
  go_loopw [7, 16] (fun v i wr => ∃ (j : Nat) (B : Option Addr) (d : Nat), j ≤ n ∧ i = .int .i64 j ∧ v = .slice B (holdTo kind m ol j).length d ∧ ownG strC 1 9 wr w1.heap.size B (holdTo kind m ol j).length d (holdTo kind m ol j) ∧
      wr.ownsMap Try.prog 9 boolR (w.heap.size + 1) j (metS (ol.take j)) ∧ Own wr w.heap.size 50 #[.int .i64 (j : Int), .bool ((ol.take j).any writesB)] ∧ KVs wr (some ⟨g, 0, none⟩) n n ol ∧ Below w.heap.size w wr ∧ w1.heap.size ≤ wr.heap.size) (fun _ i _ => n - (intOf i).toNat)
  case atStart => exact ⟨0, none, 0, Nat.zero_le _, rfl, rfl, ownG_nil _ _ _ _ _, M_0.out, O_0.out, K_0.out, B_0.out, Nat.le_refl _⟩
  case round =>
    clear O_0 M_0 K_0
    rename World => wr
    obtain ⟨j, B, d, hj, rfl, rfl, hL, hM, hO, hK, hB, hZ⟩ := hrel
    have L := Lib.hid hL; have M := Lib.hid hM; have O := Lib.hid hO; have K := Lib.hid hK; have BB := Lib.hid hB; have Z := Lib.hid hZ
    clear hL hM hO hK hB hZ
    have hlen := holdTo_len kind m ol j
    by_cases hlt : j < n
    · obtain ⟨a, x, e1, hbl, hx, hok, hc⟩ := K.out.at_ hlt
      injection e1 with e1
      subst e1
      have e0 : (⟨g, 0, none⟩ : Addr).add (j * 6) = ⟨g, j * 6, none⟩ := by unfold Addr.add; split <;> simp_all
      rw [e0] at hc
      obtain ⟨c0, c1, c2, c3, c4, c5⟩ := hc
      have NX := Lib.hid (new1 wr (x.obj 39))
      have Oa := Lib.hid (O.out.below NX.out)
      have Xa := Lib.hid (own_new wr #[.string x.key, .string x.val, .int .i64 x.cre, .int .i64 x.mod, .int .i64 x.ver, .int .i64 x.lea] 39)
      have Ma := Lib.hid (ownsMap_belowB M.out NX.out)
      have La := Lib.hid (ownG_keep L.out NX.out)
      have Ka := Lib.hid (K.out.keep NX.out)
      have Ba := Lib.hid (BB.out.trans (NX.out.mono BB.out.size))
      have Za := Lib.hid (Nat.le_trans Z.out NX.out.size)
      have HK := Lib.hid (keyS hok.key)
      have hat := metS_at (ol.take j) x.key
      have HT := Lib.hid (holdTo_next kind m ol j x hx)
      have hW := Lib.hid (any_take ol writesB j x hx)
      have HM2 := Lib.hid (metS_next ol j x hx)
      have GG : Hid (g ≠ w.heap.size ∧ g ≠ w.heap.size + 1) := G
      have GLj := Lib.hid (GL.out (by omega))
      have bx0 : w.heap.size + 1 < wr.heap.size := by have := HB.out; have := Z.out; omega
      have ca := fun b w => and_any (j : Int) b x w ⟨by omega, by omega⟩
      have LX : some wr.heap.size ≠ (Value.slice B (holdTo kind m ol j).length d).ownBlock := by
        intro hh
        have := (L.out.lt _ hh.symm).2
        omega
      clear e0 hx hok O K M L BB Z
      generalize holdTo kind m ol j = o at *
      generalize hu : (ol.take j).any writesB = u at *
      clear hu
      cases hm : metB (ol.take j) x.key with
      | true =>
        rw [hm] at hat
        rw [hm] at HT
        have HT2 : Hid (holdTo kind m ol (j + 1) = o) := Lib.hid (by rw [HT.out]; simp)
        clear HT hm
        go_wp2_with (first | (at_lookup; refine wpList_lookup_own_bool _ rfl _ _ 53 rfl 9 4 lawS Try.underlying53 (zeroBool _) (w.heap.size + 1) j _ rfl Ma.out _ _ rfl HK.out true hat ?_) | (at_mapUpdate; refine wpList_mapUpdate_own _ rfl _ _ _ 53 rfl 9 4 lawS Try.underlying53 boolR (w.heap.size + 1) j _ rfl Ma.out (by unfold maxLen; omega) _ _ _ rfl rfl HK.out _ [] (boolR_mk true) ?_; intro w8 hown8 hgrow8; have M8 := Lib.hid hown8; have G8 := Lib.hid hgrow8; have O8 := Lib.hid (Oa.out.kept hgrow8 (by simp)); have X8 := Lib.hid (Xa.out.kept hgrow8 (by simp; omega)); have d0 := O8.out.cell 0 _ rfl; have d1 := O8.out.cell 1 _ rfl; have y0 := X8.out.cell 0 _ rfl; have y1 := X8.out.cell 1 _ rfl; have y2 := X8.out.cell 2 _ rfl; have y3 := X8.out.cell 3 _ rfl; have y4 := X8.out.cell 4 _ rfl; have y5 := X8.out.cell 5 _ rfl; clear hown8 hgrow8))
        refine (ca _ _).mono ?_
        rintro e w9 ⟨rfl, hb⟩
        have L8 := Lib.hid (La.out.kept G8.out (L_or La.out (by have := HB.out; omega)))
        have K8 := Lib.hid (Ka.out.grown G8.out (fun a h => by injection h with h; subst h; intro hh; injection hh with hh; exact GG.out.2 hh))
        have B8 := Lib.hid (Ba.out.grown G8.out Ba.out.size (fun q h => by injection h with h; omega))
        have Z8 := Lib.hid (Nat.le_trans Za.out G8.out.size)
        have M9 := Lib.hid (ownsMap_belowB M8.out hb)
        have O9 := Lib.hid (O8.out.below hb)
        have L9 := Lib.hid (ownG_keep L8.out hb)
        have K9 := Lib.hid (K8.out.keep hb)
        have B9 := Lib.hid (B8.out.trans (hb.mono B8.out.size))
        have Z9 := Lib.hid (Nat.le_trans Z8.out hb.size)
        have f0 := O9.out.frozen 0
        have f1 := O9.out.frozen 1
        have g0 := O9.out.cell 0 _ rfl
        have g1 := O9.out.cell 1 _ rfl
        clear hb d0 d1 y0 y1 y2 y3 y4 y5 ca
        go_wp2
        go_roundw
        case rel => exact ⟨j + 1, B, d, by omega, by go_num, by rw [HT2.out], by rw [HT2.out]; exact row_set2 L9.out (by have := HB.out; omega) _ _, by rw [HM2.out]; exact (M9.out.kept (Lib.grownBy_setCell _ _ 0 _) (by simp)).kept (Lib.grownBy_setCell _ _ 1 _) (by simp), by rw [hW.out]; exact (O9.out.set 0 _).set 1 _, (K9.out.grown (Lib.grownBy_setCell _ _ 0 _) (fun a h => by injection h with h; subst h; intro hh; injection hh with hh; exact GG.out.1 hh)).grown (Lib.grownBy_setCell _ _ 1 _) (fun a h => by injection h with h; subst h; intro hh; injection hh with hh; exact GG.out.1 hh), below_set2 B9.out (Nat.le_refl _) _ _, by simpa using Z9.out⟩
        case measure => simp [intOf]; omega
      | false =>
        rw [hm] at hat
        rw [hm] at HT
        have cl := fun w => lets_any kind m (j : Int) u w
        have d0 := Oa.out.cell 0 _ rfl
        have d1 := Oa.out.cell 1 _ rfl
        cases hl : letsB kind m (j : Int) u with
        | false =>
          rw [hl] at cl
          have HT2 : Hid (holdTo kind m ol (j + 1) = o) := Lib.hid (by rw [HT.out, hl]; simp)
          clear HT hm hl
          go_wp2_with (first | (at_lookup; refine wpList_lookup_own_bool _ rfl _ _ 53 rfl 9 4 lawS Try.underlying53 (zeroBool _) (w.heap.size + 1) j _ rfl Ma.out _ _ rfl HK.out false hat ?_))
          refine (cl _).mono ?_
          rintro e w5 ⟨rfl, hb⟩
          have Ob := Lib.hid (Oa.out.below hb)
          have Xb := Lib.hid (Xa.out.below hb)
          have Mb := Lib.hid (ownsMap_belowB Ma.out hb)
          have Lb := Lib.hid (ownG_keep La.out hb)
          have Kb := Lib.hid (Ka.out.keep hb)
          have Bb := Lib.hid (Ba.out.trans (hb.mono Ba.out.size))
          have Zb := Lib.hid (Nat.le_trans Za.out hb.size)
          have xk := Xb.out.cell 0 _ rfl
          clear hb cl d0 d1 hat Oa Xa Ma La Ka Ba Za
          go_wp2_with (first | (at_mapUpdate; refine wpList_mapUpdate_own _ rfl _ _ _ 53 rfl 9 4 lawS Try.underlying53 boolR (w.heap.size + 1) j _ rfl Mb.out (by unfold maxLen; omega) _ _ _ rfl rfl HK.out _ [] (boolR_mk true) ?_; intro w8 hown8 hgrow8; have M8 := Lib.hid hown8; have G8 := Lib.hid hgrow8; have O8 := Lib.hid (Ob.out.kept hgrow8 (by simp)); have X8 := Lib.hid (Xb.out.kept hgrow8 (by simp; omega)); have d0 := O8.out.cell 0 _ rfl; have d1 := O8.out.cell 1 _ rfl; have y0 := X8.out.cell 0 _ rfl; have y1 := X8.out.cell 1 _ rfl; have y2 := X8.out.cell 2 _ rfl; have y3 := X8.out.cell 3 _ rfl; have y4 := X8.out.cell 4 _ rfl; have y5 := X8.out.cell 5 _ rfl; clear hown8 hgrow8))
          refine (ca _ _).mono ?_
          rintro e w9 ⟨rfl, hb⟩
          have L8 := Lib.hid (Lb.out.kept G8.out (L_or Lb.out (by have := HB.out; omega)))
          have K8 := Lib.hid (Kb.out.grown G8.out (fun a h => by injection h with h; subst h; intro hh; injection hh with hh; exact GG.out.2 hh))
          have B8 := Lib.hid (Bb.out.grown G8.out Bb.out.size (fun q h => by injection h with h; omega))
          have Z8 := Lib.hid (Nat.le_trans Zb.out G8.out.size)
          have M9 := Lib.hid (ownsMap_belowB M8.out hb)
          have O9 := Lib.hid (O8.out.below hb)
          have L9 := Lib.hid (ownG_keep L8.out hb)
          have K9 := Lib.hid (K8.out.keep hb)
          have B9 := Lib.hid (B8.out.trans (hb.mono B8.out.size))
          have Z9 := Lib.hid (Nat.le_trans Z8.out hb.size)
          have f0 := O9.out.frozen 0
          have f1 := O9.out.frozen 1
          have g0 := O9.out.cell 0 _ rfl
          have g1 := O9.out.cell 1 _ rfl
          clear hb d0 d1 y0 y1 y2 y3 y4 y5 ca
          go_wp2
          go_roundw
          case rel => exact ⟨j + 1, B, d, by omega, by go_num, by rw [HT2.out], by rw [HT2.out]; exact row_set2 L9.out (by have := HB.out; omega) _ _, by rw [HM2.out]; exact (M9.out.kept (Lib.grownBy_setCell _ _ 0 _) (by simp)).kept (Lib.grownBy_setCell _ _ 1 _) (by simp), by rw [hW.out]; exact (O9.out.set 0 _).set 1 _, (K9.out.grown (Lib.grownBy_setCell _ _ 0 _) (fun a h => by injection h with h; subst h; intro hh; injection hh with hh; exact GG.out.1 hh)).grown (Lib.grownBy_setCell _ _ 1 _) (fun a h => by injection h with h; subst h; intro hh; injection hh with hh; exact GG.out.1 hh), below_set2 B9.out (Nat.le_refl _) _ _, by simpa using Z9.out⟩
          case measure => simp [intOf]; omega
        | true =>
          rw [hl] at cl
          have HT2 : Hid (holdTo kind m ol (j + 1) = o ++ [x.key]) := Lib.hid (by rw [HT.out, hl]; simp)
          clear HT hm hl
          go_wp2_with (first | (at_lookup; refine wpList_lookup_own_bool _ rfl _ _ 53 rfl 9 4 lawS Try.underlying53 (zeroBool _) (w.heap.size + 1) j _ rfl Ma.out _ _ rfl HK.out false hat ?_))
          refine (cl _).mono ?_
          rintro e w5 ⟨rfl, hb⟩
          have Ob := Lib.hid (Oa.out.below hb)
          have Xb := Lib.hid (Xa.out.below hb)
          have Mb := Lib.hid (ownsMap_belowB Ma.out hb)
          have Lb := Lib.hid (ownG_keep La.out hb)
          have Kb := Lib.hid (Ka.out.keep hb)
          have Bb := Lib.hid (Ba.out.trans (hb.mono Ba.out.size))
          have Zb := Lib.hid (Nat.le_trans Za.out hb.size)
          have xk := Xb.out.cell 0 _ rfl
          have bx : wr.heap.size < w5.heap.size := Xb.out.lt
          obtain ⟨B', d', w6, hr, hown', hb', hg'⟩ := app_strs w1.heap.size B o.length d o w5 x.key Lb.out (by omega) Zb.out
          have NS := Lib.hid (new1 w5 (.cells #[.string x.key] 9))
          have ne := fun q (hq : q < w1.heap.size) => L_ne Lb.out hq
          have Oc := Lib.hid ((Ob.out.below NS.out).kept hg' (ne _ (by have := HB.out; omega)))
          have Xc := Lib.hid ((Xb.out.below NS.out).kept hg' LX)
          have Mc := Lib.hid ((ownsMap_belowB Mb.out NS.out).kept hg' (ne _ (by have := HB.out; omega)))
          have Kc := Lib.hid ((Kb.out.keep NS.out).grown hg' (fun a h => by injection h with h; subst h; exact ne _ GLj.out))
          have Bs := Lib.hid (Bb.out.trans (NS.out.mono Bb.out.size))
          have Bc := Lib.hid (Bs.out.grown hg' Bs.out.size (fun q h => by have := (Lb.out.lt q h).1; have := HB.out; omega))
          have Lc := Lib.hid hown'
          have Zc := Lib.hid (Nat.le_trans (Nat.le_trans Zb.out NS.out.size) hg'.size)
          have xk6 := Xc.out.cell 0 _ rfl
          clear hb cl d0 d1 hat Oa Xa Ma La Ka Ba Za hown' hb' hg' ne
          go_wp2_with (first | (at_builtin; refine wpList_append_eq _ rfl _ _ _ _ rfl _ _ rfl rfl hr ?_) | (at_mapUpdate; refine wpList_mapUpdate_own _ rfl _ _ _ 53 rfl 9 4 lawS Try.underlying53 boolR (w.heap.size + 1) j _ rfl Mc.out (by unfold maxLen; omega) _ _ _ rfl rfl HK.out _ [] (boolR_mk true) ?_; intro w8 hown8 hgrow8; have M8 := Lib.hid hown8; have G8 := Lib.hid hgrow8; have O8 := Lib.hid (Oc.out.kept hgrow8 (by simp)); have X8 := Lib.hid (Xc.out.kept hgrow8 (by simp; omega)); have d0 := O8.out.cell 0 _ rfl; have d1 := O8.out.cell 1 _ rfl; have y0 := X8.out.cell 0 _ rfl; have y1 := X8.out.cell 1 _ rfl; have y2 := X8.out.cell 2 _ rfl; have y3 := X8.out.cell 3 _ rfl; have y4 := X8.out.cell 4 _ rfl; have y5 := X8.out.cell 5 _ rfl; clear hown8 hgrow8))
          refine (ca _ _).mono ?_
          rintro e w9 ⟨rfl, hb⟩
          have L8 := Lib.hid (Lc.out.kept G8.out (L_or Lc.out (by have := HB.out; omega)))
          have K8 := Lib.hid (Kc.out.grown G8.out (fun a h => by injection h with h; subst h; intro hh; injection hh with hh; exact GG.out.2 hh))
          have B8 := Lib.hid (Bc.out.grown G8.out Bc.out.size (fun q h => by injection h with h; omega))
          have Z8 := Lib.hid (Nat.le_trans Zc.out G8.out.size)
          have M9 := Lib.hid (ownsMap_belowB M8.out hb)
          have O9 := Lib.hid (O8.out.below hb)
          have L9 := Lib.hid (ownG_keep L8.out hb)
          have K9 := Lib.hid (K8.out.keep hb)
          have B9 := Lib.hid (B8.out.trans (hb.mono B8.out.size))
          have Z9 := Lib.hid (Nat.le_trans Z8.out hb.size)
          have f0 := O9.out.frozen 0
          have f1 := O9.out.frozen 1
          have g0 := O9.out.cell 0 _ rfl
          have g1 := O9.out.cell 1 _ rfl
          clear hb d0 d1 y0 y1 y2 y3 y4 y5 ca
          go_wp2
          go_roundw
          case rel => exact ⟨j + 1, B', d', by omega, by go_num, by rw [HT2.out, List.length_append]; rfl, by rw [HT2.out, List.length_append]; exact row_set2 L9.out (by have := HB.out; omega) _ _, by rw [HM2.out]; exact (M9.out.kept (Lib.grownBy_setCell _ _ 0 _) (by simp)).kept (Lib.grownBy_setCell _ _ 1 _) (by simp), by rw [hW.out]; exact (O9.out.set 0 _).set 1 _, (K9.out.grown (Lib.grownBy_setCell _ _ 0 _) (fun a h => by injection h with h; subst h; intro hh; injection hh with hh; exact GG.out.1 hh)).grown (Lib.grownBy_setCell _ _ 1 _) (fun a h => by injection h with h; subst h; intro hh; injection hh with hh; exact GG.out.1 hh), below_set2 B9.out (Nat.le_refl _) _ _, by simpa using Z9.out⟩
          case measure => simp [intOf]; omega
    · obtain rfl : j = n := by omega
      go_wp2
      go_ret
      exact ⟨B, d, by rw [HV.out]; rfl, by rw [HV.out]; exact ownG_rows strC_len (by omega) L.out, BB.out⟩
end Go.Proofs.Ytefldchhopgliaa.P
