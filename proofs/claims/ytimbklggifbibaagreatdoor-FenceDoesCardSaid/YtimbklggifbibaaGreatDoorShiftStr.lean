/- Layer 1's functions on texts: what each call answers, the program's and the document's, for every argument. -/
import Derived.Test.YtimbklggifbibaaGreatDoorShiftNum
import Derived.Maps.AppendAt
namespace Go.Proofs.YtimbklggifbibaaGreatDoor.P
open Go.RowKit
set_option maxHeartbeats 400000
set_option linter.unusedVariables false
set_option maxRecDepth 100000

def narrowN (l : List UInt8) : Nat := l.foldl (fun a c => 256 * a + c.toNat) 0
theorem narrowN_snoc (l : List UInt8) (c : UInt8) : narrowN (l ++ [c]) = 256 * narrowN l + c.toNat := by
  unfold narrowN; rw [List.foldl_append]; rfl
theorem narrowN_lt (l : List UInt8) : narrowN l < 256 ^ l.length := by
  generalize hn : l.length = n
  induction n generalizing l with
  | zero =>
    have : l = [] := List.length_eq_zero_iff.1 hn
    subst this; simp [narrowN]
  | succ n ih =>
    have hne : l ≠ [] := by intro h; subst h; simp at hn
    obtain ⟨l', c, rfl⟩ : ∃ l' c, l = l' ++ [c] := ⟨l.dropLast, l.getLast hne, (List.dropLast_concat_getLast hne).symm⟩
    rw [narrowN_snoc]
    have := ih l' (by simpa using hn)
    have := c.toNat_lt
    rw [Nat.pow_succ]
    omega
theorem narrowN_lt7 (l : List UInt8) (h : l.length ≤ 7) : narrowN l < 72057594037927936 :=
  Nat.lt_of_lt_of_le (narrowN_lt l) (Nat.pow_le_pow_right (show 0 < 256 by decide) h)
theorem narrowN_lt8 (l : List UInt8) (h : l.length ≤ 8) : narrowN l < 18446744073709551616 :=
  Nat.lt_of_lt_of_le (narrowN_lt l) (Nat.pow_le_pow_right (show 0 < 256 by decide) h)
theorem take_snoc (s : ByteArray) (k : Nat) (h : k < s.size) : s.data.toList.take (k + 1) = s.data.toList.take k ++ [s[k]] := by
  rw [List.take_succ_eq_append_getElem (by simpa using h)]; rfl
theorem take_all (s : ByteArray) : s.data.toList.take s.size = s.data.toList := List.take_of_length_le (by rw [Array.length_toList]; exact Nat.le_refl _)

theorem or_byte (n : Int) (c : UInt8) (h0 : 0 ≤ n) (h1 : n < 72057594037927936) : bits .or .u64 (n * 256) (c.toNat : Int) = 256 * n + c.toNat := by
  obtain ⟨m, rfl⟩ := Int.eq_ofNat_of_zero_le h0
  have hc := c.toNat_lt
  have := u64_or_nat (m * 256) c.toNat (by omega) (by omega)
  have e : ((m : Int) * 256) = ((m * 256 : Nat) : Int) := by omega
  rw [e, this]
  have h3 := Nat.two_pow_add_eq_or_of_lt (show c.toNat < 2 ^ 8 by omega) m
  rw [show m * 256 = 2 ^ 8 * m by omega, ← h3]
  omega

/-- '[]byte(s)': a new row with the bytes of s. -/
theorem conv_bytes {P : Program} (w : World) (src dst e : TypeId) (s : ByteArray) (hs : P.underlying src = some .string) (hd : P.underlying dst = some (.slice e)) (he : P.underlying e = some (.int .u8)) :
    ∃ C W1, (convert src dst (.string s)).run P w = .ok (.slice (some ⟨w.heap.size, 0, none⟩) s.size C) W1 ∧ Below w.heap.size w W1 ∧ (∀ i (h : i < s.size), W1.cell? ⟨w.heap.size, i, none⟩ = some (.int .u8 (s[i].toNat : Int))) ∧ s.size ≤ C := by
  refine ⟨_, _, run_bytes_of_string w src dst e s hs hd he, (Below.drew (Below.refl _ _)).alloc (Nat.le_refl _) _, fun i hi => ?_, grownCap_ge _ _ _ _⟩
  rw [show w.heap.size = w.drew.heap.size from rfl, World.cell?_alloc_mark]
  exact bytesRow_at s _ i hi

theorem Tryz.info5 : (Tryz.prog.info? 5).map (fun i => (i.zero, i.size, i.bytes)) = some (some (.int .u8 0), 1, 1) := by kernel_rfl



/-- The lowest k bytes of n, the highest one first. -/
def wideL (n : Nat) : Nat → List UInt8
  | 0 => []
  | k + 1 => UInt8.ofNat (n / 256 ^ k) :: wideL n k
theorem wideL_length (n k : Nat) : (wideL n k).length = k := by
  induction k with
  | zero => rfl
  | succ k ih => simp [wideL, ih]

def byteVals (l : List UInt8) : List Value := l.map fun b => .int .u8 (b.toNat : Int)

theorem byteVals_get (l : List UInt8) (i : Nat) (h : i < l.length) : (byteVals l)[i]? = some (.int .u8 (l[i].toNat : Int)) := by
  unfold byteVals; simp [h]

/-- The row of a Wide on its way: nothing yet ahead, bytes behind. -/
def wideRow (m j p : Nat) : List Value := List.replicate p (.int .u8 0) ++ byteVals (wideL m (j - p))
theorem wideRow_set (m j p : Nat) (h : p + 1 ≤ j) : (wideRow m j (p + 1)).set p (.int .u8 ((UInt8.ofNat (m / 256 ^ (j - (p + 1)))).toNat : Int)) = wideRow m j p := by
  unfold wideRow
  rw [List.replicate_succ', List.append_assoc, List.set_append_right _ _ (by simp)]
  rw [show j - p = j - (p + 1) + 1 by omega]
  simp [wideL, byteVals]
theorem wideRow_zero (m j : Nat) : wideRow m j 0 = byteVals (wideL m j) := by simp [wideRow]
theorem wideRow_get (m j p : Nat) : (wideRow m j (p + 1))[p]? = some (.int .u8 0) := by
  unfold wideRow
  rw [List.getElem?_append_left (by simp)]
  simp
theorem made_zeros (n : Nat) : (madeCells (Value.int IntKind.u8 0).cells (n * 1)).toList = List.replicate n (.int .u8 0) := by
  simp only [madeCells, Value.cells]
  apply List.ext_getElem
  · simp
  · intro i h1 h2
    simp [Nat.mod_one]
theorem byte_of (q : Nat) : ((UInt8.ofNat q).toNat : Int) = (q : Int) % 256 := by
  simp
theorem div_step (m k : Nat) : ((m / 256 ^ k : Nat) : Int) / 256 = ((m / 256 ^ (k + 1) : Nat) : Int) := by
  rw [Nat.pow_succ, ← Nat.div_div_eq_div_mul]; rfl
theorem cells_owned {w : World} {base g : Nat} {e : TypeId} {l : List UInt8} {n cap : Nat} (hn : l.length = n) (h : w.ownsRow base e 1 (.slice (some ⟨g, 0, none⟩) n cap) n (byteVals l)) :
    ∀ j (hj : j < l.length), w.cell? ((⟨g, 0, none⟩ : Addr).add j) = some (.int .u8 (l[j].toNat : Int)) := by
  intro j hj
  have := h.cellAt j (by omega)
  rw [byteVals_get l j hj] at this
  have e : ((⟨g, 0, none⟩ : Addr).add j) = ⟨g, j, none⟩ := by
    unfold Addr.add
    split <;> simp_all
  rw [e, this]



/-- n in sevens of bits, the lowest first; f: how many more bytes there may be. -/
def varF : Nat → Nat → List UInt8
  | 0, n => [UInt8.ofNat n]
  | f + 1, n => if n < 128 then [UInt8.ofNat n] else UInt8.ofNat (n % 128 + 128) :: varF f (n / 128)
def varL (n : Nat) : List UInt8 := varF 9 n
theorem varF_lt (f n : Nat) (h : n < 128) : varF f n = [UInt8.ofNat n] := by
  cases f <;> simp [varF, h]
theorem varF_ge (f n : Nat) (h : ¬ n < 128) : varF (f + 1) n = UInt8.ofNat (n % 128 + 128) :: varF f (n / 128) := by
  simp [varF, h]
theorem or128 : ∀ x : Fin 256, (x.1 ||| 128) = x.1 % 128 + 128 := by decide
theorem or128' (m : Int) (h0 : 0 ≤ m) : bits .or .u8 (m % 256) 128 = m % 128 + 128 := by
  obtain ⟨q, rfl⟩ := Int.eq_ofNat_of_zero_le h0
  have h := u8_or_nat (q % 256) 128 (by omega) (by omega)
  have e := or128 ⟨q % 256, by omega⟩
  simp only at e
  rw [e] at h
  have e2 : ((q % 256 : Nat) : Int) = (q : Int) % 256 := by omega
  rw [e2] at h
  rw [show (128 : Int) = ((128 : Nat) : Int) from rfl, h]
  omega

/-- What a row of bytes looks like that is not nil. -/
theorem owned_form {w : World} {base : Nat} {e : TypeId} {v : Value} {n : Nat} {xs : List Value} (h : w.ownsRow base e 1 v n xs) (hn : 0 < n) : ∃ g cap, v = .slice (some ⟨g, 0, none⟩) n cap := by
  rcases h.2 with ⟨_, h'⟩ | ⟨g, cap, cur, h', _⟩
  · omega
  · exact ⟨g, cap, h'⟩

theorem byteVals_snoc (l : List UInt8) (q : Nat) (x : Int) (h : x = (q : Int) % 256) : byteVals l ++ [Value.int .u8 x] = byteVals (l ++ [UInt8.ofNat q]) := by
  subst h; simp [byteVals]
theorem byteVals_length (l : List UInt8) : (byteVals l).length = l.length := by simp [byteVals]

/-- 'string(b)' of a row of bytes that is not empty. -/
theorem conv_back {P : Program} {w : World} {base : Nat} {e src dst : TypeId} {v : Value} {n : Nat} {l : List UInt8} (hs : P.underlying src = some (.slice e)) (he : P.underlying e = some (.int .u8)) (hd : P.underlying dst = some .string)
    (h : w.ownsRow base e 1 v n (byteVals l)) (hn : 0 < n) : (convert src dst v).run P w = .ok (.string ⟨l.toArray⟩) w := by
  have hl : l.length = n := by
    have := h.1
    rw [byteVals_length] at this
    omega
  obtain ⟨g, cap, rfl⟩ := owned_form h hn
  have := run_convert_bytes_back (P := P) w src dst e ⟨g, 0, none⟩ cap l hs he hd (cells_owned hl h)
  rw [hl] at this
  exact this

theorem below_app {B : Nat} {w wr w1 : World} {e : TypeId} {size n : Nat} {v : Value} {xs : List Value} {o : Obj} (hbel : Below B w wr) (hsz : B ≤ wr.heap.size) (hown : wr.ownsRow B e size v n xs) (hgrow : (wr.alloc o).grownBy w1 v.ownBlock) : Below B w w1 :=
  (hbel.alloc hsz _).grown hgrow (by simp; omega) (fun k hk => (hown.lt k hk).1)
theorem var_step {m q f : Nat} {pre : List UInt8} (hv : varL m = pre ++ varF f q) (hq : q < 2 ^ (1 + 7 * f)) (hf : pre.length + f = 9) (hge : 128 ≤ (q : Int)) :
    ∃ f', f = f' + 1 ∧ varL m = (pre ++ [UInt8.ofNat (q % 128 + 128)]) ++ varF f' (q / 128) ∧ q / 128 < 2 ^ (1 + 7 * f') ∧ (pre ++ [UInt8.ofNat (q % 128 + 128)]).length + f' = 9 := by
  cases f with
  | zero => simp at hq; omega
  | succ f' =>
    refine ⟨f', rfl, ?_, ?_, ?_⟩
    · rw [hv, varF_ge f' q (by omega)]; simp
    · rw [show 1 + 7 * (f' + 1) = 1 + 7 * f' + 7 by omega, Nat.pow_add] at hq
      omega
    · simp; omega
theorem var_byte (q : Nat) : (bits .or .u8 ((q : Int) % 256) 128) = ((q % 128 + 128 : Nat) : Int) % 256 := by
  rw [or128' _ (by omega)]; omega
theorem var_stop {m q f : Nat} {pre : List UInt8} (hv : varL m = pre ++ varF f q) (hlt : (q : Int) < 128) : pre ++ [UInt8.ofNat q] = varL m := by
  rw [hv, varF_lt f q (by omega)]

theorem var_any (n : Int) (w : World) (h0 : 0 ≤ n) (h1 : n ≤ 18446744073709551615) :
    Calls Tryz.prog 47 #[.int .u64 n] w fun e w' => e = .returned (.string ⟨(varL n.toNat).toArray⟩) ∧ Below w.heap.size w w' := by
  obtain ⟨i0, hi, hz0, hz1, hz2⟩ := info_parts Tryz.info5
  obtain ⟨m, rfl⟩ := Int.eq_ofNat_of_zero_le h0
  rw [Int.toNat_natCast]
  go_enter Tryz.func47, Tryz.ntmps47
  go_wp2
  go_loopw [0, 3] (fun t v wr => ∃ (pre : List UInt8) (q f : Nat), varL m = pre ++ varF f q ∧ q < 2 ^ (1 + 7 * f) ∧ pre.length + f = 9 ∧ t = .int .u64 (q : Int) ∧ wr.ownsRow w.heap.size 5 1 v pre.length (byteVals pre) ∧ Below w.heap.size w wr) (fun t _ _ => (intOf t).toNat)
  case atStart => exact ⟨[], m, 9, rfl, by omega, rfl, rfl, World.ownsRow_nil _ _ _ _, Below.refl _ _⟩
  case round =>
    obtain ⟨pre, q, f, hv, hq, hf, rfl, hown, hbel⟩ := hrel
    have hsz := hbel.size
    have HV := Lib.hid hv
    have HQ := Lib.hid hq
    clear hv hq
    have hq1 : (q : Int) ≤ 18446744073709551615 := by
      have h2 := HQ.out
      have h3 : 2 ^ (1 + 7 * f) ≤ 2 ^ 64 := Nat.pow_le_pow_right (by decide) (by omega)
      omega
    by_cases hlt : 128 ≤ (q : Int)
    · go_wp2_with (at_builtin; go_loud (refine wpList_append_own _ rfl (.tmp 6) (.tmp 10) 59 rfl w.heap.size 5 i0 (.int .u8 0) 1 1 Tryz.underlying59 hi hz0 hz1 hz2 rfl (by decide) _ _ _ rfl (hown.alloc _) ⟨wr.heap.size, 0, none⟩ 1 1 [.int .u8 (bits .or .u8 ((q : Int) % 256) 128)] rfl rfl (cell_one_new _ _ _) (by simp [Value.oneCell']) (by unfold maxLen; omega) (by omega) (by simp; omega) ?_); intro v' w1 hown' hgrow _)
      have hown2 : w1.ownsRow w.heap.size 5 1 v' (pre ++ [UInt8.ofNat (q % 128 + 128)]).length (byteVals (pre ++ [UInt8.ofNat (q % 128 + 128)])) := by
        rw [byteVals_snoc pre (q % 128 + 128) _ (var_byte q)] at hown'
        simpa using hown'
      have hb2 : Below w.heap.size w w1 := below_app hbel hsz hown hgrow
      obtain ⟨f', rfl, e1, e2, e3⟩ := var_step HV.out HQ.out hf hlt
      go_roundw
      case rel => exact ⟨_, _, f', e1, e2, e3, by go_num, hown2, hb2⟩
      case measure => simp [intOf]; omega
    · go_wp2_with (at_builtin; go_loud (refine wpList_append_own _ rfl (.tmp 14) (.tmp 17) 59 rfl w.heap.size 5 i0 (.int .u8 0) 1 1 Tryz.underlying59 hi hz0 hz1 hz2 rfl (by decide) _ _ _ rfl (hown.alloc _) ⟨wr.heap.size, 0, none⟩ 1 1 [.int .u8 (q : Int)] rfl rfl (cell_one_new _ _ _) (by simp [Value.oneCell']) (by unfold maxLen; omega) (by omega) (by simp; omega) ?_); intro v' w1 hown' hgrow _; rw [byteVals_snoc pre q _ (by omega)] at hown'; have hback := conv_back (P := Tryz.prog) Tryz.underlying59 Tryz.underlying5 Tryz.underlying9 hown' (by omega))
      go_ret
      exact ⟨by rw [var_stop HV.out (by omega)]; rfl, below_app hbel hsz hown hgrow⟩
theorem var_ref (n : Int) (w : World) (h0 : 0 ≤ n) (h1 : n ≤ 18446744073709551615) :
    Calls Tryz.prog 80 #[.int .u64 n] w fun e w' => e = .returned (.string ⟨(varL n.toNat).toArray⟩) ∧ Below w.heap.size w w' := by
  obtain ⟨i0, hi, hz0, hz1, hz2⟩ := info_parts Tryz.info5
  obtain ⟨m, rfl⟩ := Int.eq_ofNat_of_zero_le h0
  rw [Int.toNat_natCast]
  go_enter Tryz.func80, Tryz.ntmps80
  go_wp2
  go_loopw [0, 3] (fun t v wr => ∃ (pre : List UInt8) (q f : Nat), varL m = pre ++ varF f q ∧ q < 2 ^ (1 + 7 * f) ∧ pre.length + f = 9 ∧ t = .int .u64 (q : Int) ∧ wr.ownsRow w.heap.size 5 1 v pre.length (byteVals pre) ∧ Below w.heap.size w wr) (fun t _ _ => (intOf t).toNat)
  case atStart => exact ⟨[], m, 9, rfl, by omega, rfl, rfl, World.ownsRow_nil _ _ _ _, Below.refl _ _⟩
  case round =>
    obtain ⟨pre, q, f, hv, hq, hf, rfl, hown, hbel⟩ := hrel
    have hsz := hbel.size
    have HV := Lib.hid hv
    have HQ := Lib.hid hq
    clear hv hq
    have hq1 : (q : Int) ≤ 18446744073709551615 := by
      have h2 := HQ.out
      have h3 : 2 ^ (1 + 7 * f) ≤ 2 ^ 64 := Nat.pow_le_pow_right (by decide) (by omega)
      omega
    by_cases hlt : 128 ≤ (q : Int)
    · go_wp2_with (at_builtin; go_loud (refine wpList_append_own _ rfl (.tmp 6) (.tmp 11) 59 rfl w.heap.size 5 i0 (.int .u8 0) 1 1 Tryz.underlying59 hi hz0 hz1 hz2 rfl (by decide) _ _ _ rfl (hown.alloc _) ⟨wr.heap.size, 0, none⟩ 1 1 [.int .u8 ((q : Int) % 128 + 128)] rfl rfl (cell_one_new _ _ _) (by simp [Value.oneCell']) (by unfold maxLen; omega) (by omega) (by simp; omega) ?_); intro v' w1 hown' hgrow _)
      have hown2 : w1.ownsRow w.heap.size 5 1 v' (pre ++ [UInt8.ofNat (q % 128 + 128)]).length (byteVals (pre ++ [UInt8.ofNat (q % 128 + 128)])) := by
        rw [byteVals_snoc pre (q % 128 + 128) _ (by omega)] at hown'
        simpa using hown'
      have hb2 : Below w.heap.size w w1 := below_app hbel hsz hown hgrow
      obtain ⟨f', rfl, e1, e2, e3⟩ := var_step HV.out HQ.out hf hlt
      go_roundw
      case rel => exact ⟨_, _, f', e1, e2, e3, by go_num, hown2, hb2⟩
      case measure => simp [intOf]; omega
    · go_wp2_with (at_builtin; go_loud (refine wpList_append_own _ rfl (.tmp 15) (.tmp 18) 59 rfl w.heap.size 5 i0 (.int .u8 0) 1 1 Tryz.underlying59 hi hz0 hz1 hz2 rfl (by decide) _ _ _ rfl (hown.alloc _) ⟨wr.heap.size, 0, none⟩ 1 1 [.int .u8 (q : Int)] rfl rfl (cell_one_new _ _ _) (by simp [Value.oneCell']) (by unfold maxLen; omega) (by omega) (by simp; omega) ?_); intro v' w1 hown' hgrow _; rw [byteVals_snoc pre q _ (by omega)] at hown'; have hback := conv_back (P := Tryz.prog) Tryz.underlying59 Tryz.underlying5 Tryz.underlying9 hown' (by omega))
      go_ret
      exact ⟨by rw [var_stop HV.out (by omega)]; rfl, below_app hbel hsz hown hgrow⟩
end Go.Proofs.YtimbklggifbibaaGreatDoor.P
