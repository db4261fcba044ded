/- A number put into a list of numbers, as the document's packages do. -/
import Derived.Test.YtcbnfgehmeikgaaRiSort
import Derived.BigQuiet
namespace Go.Proofs.Ytcbnfgehmeikgaa.P
open Go.RowKit Go.Sort
set_option maxHeartbeats 2000000
set_option linter.unusedVariables false
set_option linter.unusedSimpArgs false
set_option maxRecDepth 100000

theorem low_is : ∀ (l : List Int) (z : Int) (i : Nat), i ≤ l.length → (∀ k x, k < i → l[k]? = some x → x < z) → (∀ x, l[i]? = some x → ¬ x < z) → lowTo l z = i
  | [], z, i, hi, _, _ => by simp at hi; subst hi; rfl
  | a :: l, z, 0, _, _, h => by
    have := h a rfl
    unfold lowTo; simp [this]
  | a :: l, z, i + 1, hi, h1, h2 => by
    have ha := h1 0 a (by omega) rfl
    have ih := low_is l z i (by simpa using hi) (fun k x hk hx => h1 (k + 1) x (by omega) hx) (fun x hx => h2 x hx)
    unfold lowTo at ih ⊢
    simp [ha, ih]
/-- The first i of a list are below z. -/
structure LowTo (l : List Int) (z : Int) (i : Nat) : Prop where
  lt : ∀ k x, k < i → l[k]? = some x → x < z
theorem LowTo.zero (l : List Int) (z : Int) : LowTo l z 0 := ⟨fun k x h => by omega⟩
theorem LowTo.more {l : List Int} {z : Int} {i : Nat} {x : Int} (h : LowTo l z i) (hx : l[i]? = some x) (hl : x < z) : LowTo l z (i + 1) := ⟨fun k y hk hy => by
  by_cases e : k = i
  · subst e; rw [hx] at hy; have := Option.some.inj hy; subst this; exact hl
  · exact h.lt k y (by omega) hy⟩
theorem LowTo.there {l : List Int} {z : Int} {i : Nat} (h : LowTo l z i) (hx : l[i]? = some z) : putI l z = l := by
  have := low_is l z i (Nat.le_of_lt (List.getElem?_eq_some_iff.1 hx).1) h.lt (fun x h1 => by rw [hx] at h1; have := Option.some.inj h1; omega)
  unfold putI; rw [this, if_pos hx]
theorem LowTo.not {l : List Int} {z : Int} {i : Nat} {x : Int} (h : LowTo l z i) (hx : l[i]? = some x) (h1 : ¬ x < z) (h2 : ¬ x = z) : putI l z = l.take i ++ z :: l.drop i := by
  have := low_is l z i (Nat.le_of_lt (List.getElem?_eq_some_iff.1 hx).1) h.lt (fun y h3 => by rw [hx] at h3; have := Option.some.inj h3; omega)
  unfold putI; rw [this, if_neg (fun h3 => by rw [hx] at h3; exact h2 (Option.some.inj h3))]
theorem LowTo.end_ {l : List Int} {z : Int} (h : LowTo l z l.length) : putI l z = l ++ [z] := by
  have := low_is l z l.length (Nat.le_refl _) h.lt (fun x h1 => by rw [List.getElem?_eq_none (Nat.le_refl _)] at h1; cases h1)
  unfold putI; rw [this, if_neg (fun h3 => by rw [List.getElem?_eq_none (Nat.le_refl _)] at h3; cases h3)]; simp
theorem app_is (base : Nat) (B : Option Addr) (n d : Nat) (xs : List Int) (w : World) (hown : ownI w base B n d xs) (A : Option Addr) (m c : Nat) (l : List Int) (h : Is w A m c l) (hn : n + m ≤ 1000000) (hb : base ≤ w.heap.size) :
    ∃ B' d' w', (Builtin.append_ #[46, 46] 46 #[.slice B n d, .slice A m c]).run Try.prog w = .ok (.slice B' (n + m) d') w' ∧ ownI w' base B' (n + m) d' (xs ++ l) ∧ Below base w w' := by
  obtain ⟨i0, hi0, hz0, hz1, hz2⟩ := info_parts1 int_info
  obtain ⟨B', d', w', h1, h2, h3, _⟩ := app_rows intC_len (by omega) intC_one Try.underlying46 hi0 hz0 hz1 hz2 rfl (by omega) base B n d xs w hown A m c l h hn hb
  exact ⟨B', d', w', h1, h2, h3⟩
theorem made_is (w : World) : ownI (w.alloc (.cells #[] 3)) w.heap.size (some ⟨w.heap.size, 0, none⟩) 0 0 [] := World.ownsRow_made w #[] 0 (Nat.le_refl _) (Nat.zero_le _) rfl
theorem is_to (a : Addr) (n c k : Nat) (w : World) (i2 : k ≤ n) (hle : n ≤ c) (hmax : c ≤ 9223372036854775807) :
    (Instr.slice 46 (.slice (some a) n c) none (some (.int .i64 (k : Int))) none).run Try.prog w = .ok (.slice (some a) k c) w := by
  have i3 : (k : Int) ≤ (c : Int) := by omega
  have ib : (n : Int) ≤ (c : Int) := by omega
  have i0 : (0 : Int) ≤ (k : Int) := by omega
  have i8 : ((k : Int)).toNat = k := by omega
  go_simp
theorem is_from (a : Addr) (n c k : Nat) (D : Option Addr) (hD : (if c = k then some a else some (a.add k)) = D) (w : World) (i2 : k ≤ n) (hle : n ≤ c) (hmax : c ≤ 9223372036854775807) :
    (Instr.slice 46 (.slice (some a) n c) (some (.int .i64 (k : Int))) none none).run Try.prog w = .ok (.slice D (n - k) (c - k)) w := by
  have i3 : (k : Int) ≤ (c : Int) := by omega
  have ib : (n : Int) ≤ (c : Int) := by omega
  have i0 : (0 : Int) ≤ (k : Int) := by omega
  have i6 : (k : Int) ≤ (n : Int) := by omega
  have i8 : ((k : Int)).toNat = k := by omega
  go_simp
/-- How a call ends that tells a row of numbers, its own or the argument. -/
def IsE (l : List Int) (w : World) (e : Ending) (w' : World) : Prop := ∃ A n c, e = .returned (.slice A n c) ∧ Is w' A n c l ∧ Below w.heap.size w w'
theorem LowTo.w_not {l : List Int} {z : Int} {i : Nat} {x : Int} (h : LowTo l z i) (hx : l[i]? = some x) (h1 : ¬ x < z) : putW l z = l.take i ++ z :: l.drop i := by
  have := low_is l z i (Nat.le_of_lt (List.getElem?_eq_some_iff.1 hx).1) h.lt (fun y h3 => by rw [hx] at h3; have := Option.some.inj h3; omega)
  unfold putW; rw [this]
theorem LowTo.w_end {l : List Int} {z : Int} (h : LowTo l z l.length) : putW l z = l ++ [z] := by
  have := low_is l z l.length (Nat.le_refl _) h.lt (fun x h1 => by rw [List.getElem?_eq_none (Nat.le_refl _)] at h1; cases h1)
  unfold putW; rw [this]; simp
def putZ (l : List Int) (z : Int) (once : Bool) : List Int := if once = true then putI l z else putW l z
theorem LowTo.z_not {l : List Int} {z : Int} {i : Nat} {x : Int} {once : Bool} (h : LowTo l z i) (hx : l[i]? = some x) (h1 : ¬ x < z) (h2 : ¬ (once = true ∧ x = z)) : putZ l z once = l.take i ++ z :: l.drop i := by
  unfold putZ
  split
  · rename_i ho; exact h.not hx h1 (fun e => h2 ⟨ho, e⟩)
  · exact h.w_not hx h1
theorem LowTo.z_end {l : List Int} {z : Int} {once : Bool} (h : LowTo l z l.length) : putZ l z once = l ++ [z] := by
  unfold putZ
  split
  · exact h.end_
  · exact h.w_end
theorem put09_true (A : Option Addr) (n c : Nat) (l : List Int) (z : Int) (w : World) (h : Is w A n c l) (hn : n ≤ 900) :
    Calls Try.prog 27 #[.slice A n c, .int .i64 z, .bool true] w (IsE (putZ l z true) w) := by
  have H := Lib.hid h
  have HL := Lib.hid h.len
  have hle := h.le
  have hmax := h.max
  unfold maxLen at hmax
  have hmax2 : c ≤ 9223372036854775807 := by omega
  have hnil := h.nil
  have hd := h.rd
  cases A with
  | none =>
    have hc0 := hnil rfl
    subst hc0
    obtain rfl : n = 0 := by omega
    obtain rfl : l = [] := List.eq_nil_of_length_eq_zero HL.out
    have hp : Hid (putZ [] z true = [z]) := Lib.hid (by simpa using (LowTo.z_end (once := true) (LowTo.zero [] z)))
    obtain ⟨B1, d1, w1, hr1, o1, b1⟩ := app_is w.heap.size (some ⟨w.heap.size, 0, none⟩) 0 0 [] (w.alloc (.cells #[] 3)) (made_is w) none 0 0 [] (RowsOf.bare _) (by omega) (by simp)
    have s1 : w.heap.size ≤ w1.heap.size := by have := b1.size; simp at this; omega
    obtain ⟨B2, d2, w2, hr2, o2, b2⟩ := app_ints w.heap.size B1 0 d1 [] w1 z o1 (by omega) s1
    have s2 : w.heap.size ≤ w2.heap.size := Nat.le_trans s1 b2.size
    have BA := Lib.hid (((new1 w (.cells #[] 3)).trans (b1.mono (Nat.le_refl _))).trans b2)
    obtain ⟨B3, d3, w3, hr3, o3, b3⟩ := app_is w.heap.size B2 1 d2 [z] w2 o2 none 0 0 [] (RowsOf.bare _) (by omega) s2
    have BE := Lib.hid (BA.out.trans b3)
    have OE := Lib.hid (ownI_is o3)
    clear o1 o2 o3 b1 b2 b3 s1 s2 BA hd hnil
    go_enter Try.func27, Try.ntmps27
    go_wp2
    refine wp_loop_rounds 1 ?_
    rw [rounds_succ]
    have tk1 : True := trivial
    go_wp2_with (first | (at_builtin; have _t := tk1; clear _t tk1; refine wpList_append_eq _ rfl (.tmp 39) (.tmp 42) _ _ rfl _ _ rfl rfl hr1 ?_; clear hr1; have tk2 : True := trivial) | (at_builtin; have _t := tk2; clear _t tk2; refine wpList_append_eq _ rfl (.tmp 44) (.tmp 46) _ _ rfl _ _ rfl rfl hr2 ?_; clear hr2; have tk3 : True := trivial) | (at_builtin; have _t := tk3; clear _t tk3; refine wpList_append_eq _ rfl (.tmp 48) (.tmp 51) _ _ rfl _ _ rfl rfl hr3 ?_; clear hr3))
    go_ret
    exact ⟨B3, 1, d3, rfl, by rw [hp.out]; exact OE.out, BE.out⟩
  | some a =>
    have HX : ∀ j, j ≤ n → Is w (some a) j c (l.take j) ∧ Is w (if c = j then some a else some (a.add j)) (n - j) (c - j) (l.drop j) := fun j hj => by
      have h1 := RowsOf.take H.out hj
      have h2 := RowsOf.drop H.out hj
      rw [Nat.mul_one] at h2
      exact ⟨h1, h2⟩
    have HXX := Lib.hid HX
    clear HX hd hnil
    go_enter Try.func27, Try.ntmps27
    go_wp2
    go_loop [7] (fun i => ∃ j : Nat, j ≤ n ∧ i = .int .i64 j ∧ LowTo l z j) (fun i => n - (intOf i).toNat)
    case atStart => exact ⟨0, Nat.zero_le _, rfl, LowTo.zero l z⟩
    case round =>
      obtain ⟨j, hj, rfl, hlo⟩ := hrel
      have LO := Lib.hid hlo
      clear hlo
      obtain ⟨it, id⟩ := HXX.out j hj
      generalize hD : (if c = j then some a else some (a.add j)) = D at id
      have IT := Lib.hid it
      have ID := Lib.hid id
      have hto := fun w => is_to a n c j w hj hle hmax2
      have hfrom := fun w => is_from a n c j D hD w hj hle hmax2
      clear it id hD
      by_cases hlt : j < n
      · obtain ⟨a', y, ha', hbl, hy, c0⟩ := Is.at_ H.out hlt
        obtain rfl := Option.some.inj ha'
        have HY := Lib.hid hy
        have i0 : (0 : Int) ≤ (j : Int) := by omega
        have i1 : (j : Int) < (n : Int) := by omega
        clear hy hbl ha'
        by_cases hyz : y < z
        · have HM := Lib.hid (LO.out.more HY.out hyz)
          clear hto hfrom
          go_wp2
          go_round
          case rel => exact ⟨j + 1, by omega, by go_num, HM.out⟩
          case measure => simp [intOf]; omega
        · by_cases he : y = z
          · subst he
            have PE := Lib.hid (LO.out.there HY.out)
            clear hto hfrom
            have hee : (y == y) = true := by simp
            go_wp2
            go_ret
            exact ⟨some a, n, c, rfl, by show Is w (some a) n c (putI l y); rw [PE.out]; exact H.out, Below.refl _ _⟩
          · have PE : Hid (∀ {w3 : World} {B3 : Option Addr} {d3 : Nat}, Is w3 B3 (j + 1 + (n - j)) d3 ((l.take j ++ [z]) ++ l.drop j) → Is w3 B3 (j + 1 + (n - j)) d3 (putZ l z true)) := Lib.hid (fun h => by rw [LO.out.z_not HY.out hyz (fun e => he e.2)]; simpa using h)
            obtain ⟨B1, d1, w1, hr1, o1, b1⟩ := app_is w.heap.size (some ⟨w.heap.size, 0, none⟩) 0 0 [] (w.alloc (.cells #[] 3)) (made_is w) (some a) j c (l.take j) (IT.out.below (new1 w _)) (by omega) (by simp)
            rw [Nat.zero_add] at hr1 o1
            rw [List.nil_append] at o1
            have s1 : w.heap.size ≤ w1.heap.size := by have := b1.size; simp at this; omega
            obtain ⟨B2, d2, w2, hr2, o2, b2⟩ := app_ints w.heap.size B1 j d1 (l.take j) w1 z o1 (by omega) s1
            have s2 : w.heap.size ≤ w2.heap.size := Nat.le_trans s1 b2.size
            have BA := Lib.hid (((new1 w (.cells #[] 3)).trans (b1.mono (Nat.le_refl _))).trans b2)
            obtain ⟨B3, d3, w3, hr3, o3, b3⟩ := app_is w.heap.size B2 (j + 1) d2 (l.take j ++ [z]) w2 o2 D (n - j) (c - j) (l.drop j) (ID.out.below BA.out) (by omega) s2
            have BE := Lib.hid (BA.out.trans b3)
            have OE := Lib.hid (ownI_is o3)
            clear o1 o2 o3 b1 b2 b3 s1 s2 BA
            have hee : (y == z) = false := by simpa using he
            have tk1 : True := trivial
            go_wp2_with (first | (at_builtin; have _t := tk1; clear _t tk1; refine wpList_append_eq _ rfl (.tmp 39) (.tmp 42) _ _ rfl _ _ rfl rfl hr1 ?_; clear hr1; have tk2 : True := trivial) | (at_builtin; have _t := tk2; clear _t tk2; refine wpList_append_eq _ rfl (.tmp 44) (.tmp 46) _ _ rfl _ _ rfl rfl hr2 ?_; clear hr2; have tk3 : True := trivial) | (at_builtin; have _t := tk3; clear _t tk3; refine wpList_append_eq _ rfl (.tmp 48) (.tmp 51) _ _ rfl _ _ rfl rfl hr3 ?_; clear hr3))
            go_ret
            exact ⟨B3, j + 1 + (n - j), d3, rfl, PE.out OE.out, BE.out⟩
      · obtain rfl : j = n := by omega
        have PE : Hid (∀ {w3 : World} {B3 : Option Addr} {d3 : Nat}, Is w3 B3 (j + 1 + 0) d3 ((l.take j ++ [z]) ++ l.drop j) → Is w3 B3 (j + 1 + 0) d3 (putZ l z true)) := Lib.hid (fun h => by
          have h1 := LO.out
          rw [← HL.out] at h1
          have hz : l.length = j := HL.out
          rw [h1.z_end]
          rw [← hz, List.take_length, List.drop_length, List.append_nil] at h
          rw [← hz]
          exact h)
        have ID0 : Hid (Is w D 0 (c - j) (l.drop j)) := Lib.hid (by have := ID.out; rwa [Nat.sub_self] at this)
        obtain ⟨B1, d1, w1, hr1, o1, b1⟩ := app_is w.heap.size (some ⟨w.heap.size, 0, none⟩) 0 0 [] (w.alloc (.cells #[] 3)) (made_is w) (some a) j c (l.take j) (IT.out.below (new1 w _)) (by omega) (by simp)
        rw [Nat.zero_add] at hr1 o1
        rw [List.nil_append] at o1
        have s1 : w.heap.size ≤ w1.heap.size := by have := b1.size; simp at this; omega
        obtain ⟨B2, d2, w2, hr2, o2, b2⟩ := app_ints w.heap.size B1 j d1 (l.take j) w1 z o1 (by omega) s1
        have s2 : w.heap.size ≤ w2.heap.size := Nat.le_trans s1 b2.size
        have BA := Lib.hid (((new1 w (.cells #[] 3)).trans (b1.mono (Nat.le_refl _))).trans b2)
        obtain ⟨B3, d3, w3, hr3, o3, b3⟩ := app_is w.heap.size B2 (j + 1) d2 (l.take j ++ [z]) w2 o2 D 0 (c - j) (l.drop j) (ID0.out.below BA.out) (by omega) s2
        have BE := Lib.hid (BA.out.trans b3)
        have OE := Lib.hid (ownI_is o3)
        clear o1 o2 o3 b1 b2 b3 s1 s2 BA
        have tk1 : True := trivial
        go_wp2_with (first | (at_builtin; have _t := tk1; clear _t tk1; refine wpList_append_eq _ rfl (.tmp 39) (.tmp 42) _ _ rfl _ _ rfl rfl hr1 ?_; clear hr1; have tk2 : True := trivial) | (at_builtin; have _t := tk2; clear _t tk2; refine wpList_append_eq _ rfl (.tmp 44) (.tmp 46) _ _ rfl _ _ rfl rfl hr2 ?_; clear hr2; have tk3 : True := trivial) | (at_builtin; have _t := tk3; clear _t tk3; refine wpList_append_eq _ rfl (.tmp 48) (.tmp 51) _ _ rfl _ _ rfl rfl hr3 ?_; clear hr3))
        go_ret
        exact ⟨B3, j + 1 + 0, d3, rfl, PE.out OE.out, BE.out⟩
theorem put09_false (A : Option Addr) (n c : Nat) (l : List Int) (z : Int) (w : World) (h : Is w A n c l) (hn : n ≤ 900) :
    Calls Try.prog 27 #[.slice A n c, .int .i64 z, .bool false] w (IsE (putZ l z false) w) := by
  have H := Lib.hid h
  have HL := Lib.hid h.len
  have hle := h.le
  have hmax := h.max
  unfold maxLen at hmax
  have hmax2 : c ≤ 9223372036854775807 := by omega
  have hnil := h.nil
  have hd := h.rd
  cases A with
  | none =>
    have hc0 := hnil rfl
    subst hc0
    obtain rfl : n = 0 := by omega
    obtain rfl : l = [] := List.eq_nil_of_length_eq_zero HL.out
    have hp : Hid (putZ [] z false = [z]) := Lib.hid (by simpa using (LowTo.z_end (once := false) (LowTo.zero [] z)))
    obtain ⟨B1, d1, w1, hr1, o1, b1⟩ := app_is w.heap.size (some ⟨w.heap.size, 0, none⟩) 0 0 [] (w.alloc (.cells #[] 3)) (made_is w) none 0 0 [] (RowsOf.bare _) (by omega) (by simp)
    have s1 : w.heap.size ≤ w1.heap.size := by have := b1.size; simp at this; omega
    obtain ⟨B2, d2, w2, hr2, o2, b2⟩ := app_ints w.heap.size B1 0 d1 [] w1 z o1 (by omega) s1
    have s2 : w.heap.size ≤ w2.heap.size := Nat.le_trans s1 b2.size
    have BA := Lib.hid (((new1 w (.cells #[] 3)).trans (b1.mono (Nat.le_refl _))).trans b2)
    obtain ⟨B3, d3, w3, hr3, o3, b3⟩ := app_is w.heap.size B2 1 d2 [z] w2 o2 none 0 0 [] (RowsOf.bare _) (by omega) s2
    have BE := Lib.hid (BA.out.trans b3)
    have OE := Lib.hid (ownI_is o3)
    clear o1 o2 o3 b1 b2 b3 s1 s2 BA hd hnil
    go_enter Try.func27, Try.ntmps27
    go_wp2
    refine wp_loop_rounds 1 ?_
    rw [rounds_succ]
    have tk1 : True := trivial
    go_wp2_with (first | (at_builtin; have _t := tk1; clear _t tk1; refine wpList_append_eq _ rfl (.tmp 39) (.tmp 42) _ _ rfl _ _ rfl rfl hr1 ?_; clear hr1; have tk2 : True := trivial) | (at_builtin; have _t := tk2; clear _t tk2; refine wpList_append_eq _ rfl (.tmp 44) (.tmp 46) _ _ rfl _ _ rfl rfl hr2 ?_; clear hr2; have tk3 : True := trivial) | (at_builtin; have _t := tk3; clear _t tk3; refine wpList_append_eq _ rfl (.tmp 48) (.tmp 51) _ _ rfl _ _ rfl rfl hr3 ?_; clear hr3))
    go_ret
    exact ⟨B3, 1, d3, rfl, by rw [hp.out]; exact OE.out, BE.out⟩
  | some a =>
    have HX : ∀ j, j ≤ n → Is w (some a) j c (l.take j) ∧ Is w (if c = j then some a else some (a.add j)) (n - j) (c - j) (l.drop j) := fun j hj => by
      have h1 := RowsOf.take H.out hj
      have h2 := RowsOf.drop H.out hj
      rw [Nat.mul_one] at h2
      exact ⟨h1, h2⟩
    have HXX := Lib.hid HX
    clear HX hd hnil
    go_enter Try.func27, Try.ntmps27
    go_wp2
    go_loop [7] (fun i => ∃ j : Nat, j ≤ n ∧ i = .int .i64 j ∧ LowTo l z j) (fun i => n - (intOf i).toNat)
    case atStart => exact ⟨0, Nat.zero_le _, rfl, LowTo.zero l z⟩
    case round =>
      obtain ⟨j, hj, rfl, hlo⟩ := hrel
      have LO := Lib.hid hlo
      clear hlo
      obtain ⟨it, id⟩ := HXX.out j hj
      generalize hD : (if c = j then some a else some (a.add j)) = D at id
      have IT := Lib.hid it
      have ID := Lib.hid id
      have hto := fun w => is_to a n c j w hj hle hmax2
      have hfrom := fun w => is_from a n c j D hD w hj hle hmax2
      clear it id hD
      by_cases hlt : j < n
      · obtain ⟨a', y, ha', hbl, hy, c0⟩ := Is.at_ H.out hlt
        obtain rfl := Option.some.inj ha'
        have HY := Lib.hid hy
        have i0 : (0 : Int) ≤ (j : Int) := by omega
        have i1 : (j : Int) < (n : Int) := by omega
        clear hy hbl ha'
        by_cases hyz : y < z
        · have HM := Lib.hid (LO.out.more HY.out hyz)
          clear hto hfrom
          go_wp2
          go_round
          case rel => exact ⟨j + 1, by omega, by go_num, HM.out⟩
          case measure => simp [intOf]; omega
        · have PE : Hid (∀ {w3 : World} {B3 : Option Addr} {d3 : Nat}, Is w3 B3 (j + 1 + (n - j)) d3 ((l.take j ++ [z]) ++ l.drop j) → Is w3 B3 (j + 1 + (n - j)) d3 (putZ l z false)) := Lib.hid (fun h => by rw [LO.out.z_not HY.out hyz (fun e => by cases e.1)]; simpa using h)
          obtain ⟨B1, d1, w1, hr1, o1, b1⟩ := app_is w.heap.size (some ⟨w.heap.size, 0, none⟩) 0 0 [] (w.alloc (.cells #[] 3)) (made_is w) (some a) j c (l.take j) (IT.out.below (new1 w _)) (by omega) (by simp)
          rw [Nat.zero_add] at hr1 o1
          rw [List.nil_append] at o1
          have s1 : w.heap.size ≤ w1.heap.size := by have := b1.size; simp at this; omega
          obtain ⟨B2, d2, w2, hr2, o2, b2⟩ := app_ints w.heap.size B1 j d1 (l.take j) w1 z o1 (by omega) s1
          have s2 : w.heap.size ≤ w2.heap.size := Nat.le_trans s1 b2.size
          have BA := Lib.hid (((new1 w (.cells #[] 3)).trans (b1.mono (Nat.le_refl _))).trans b2)
          obtain ⟨B3, d3, w3, hr3, o3, b3⟩ := app_is w.heap.size B2 (j + 1) d2 (l.take j ++ [z]) w2 o2 D (n - j) (c - j) (l.drop j) (ID.out.below BA.out) (by omega) s2
          have BE := Lib.hid (BA.out.trans b3)
          have OE := Lib.hid (ownI_is o3)
          clear o1 o2 o3 b1 b2 b3 s1 s2 BA
          have tk1 : True := trivial
          go_wp2_with (first | (at_builtin; have _t := tk1; clear _t tk1; refine wpList_append_eq _ rfl (.tmp 39) (.tmp 42) _ _ rfl _ _ rfl rfl hr1 ?_; clear hr1; have tk2 : True := trivial) | (at_builtin; have _t := tk2; clear _t tk2; refine wpList_append_eq _ rfl (.tmp 44) (.tmp 46) _ _ rfl _ _ rfl rfl hr2 ?_; clear hr2; have tk3 : True := trivial) | (at_builtin; have _t := tk3; clear _t tk3; refine wpList_append_eq _ rfl (.tmp 48) (.tmp 51) _ _ rfl _ _ rfl rfl hr3 ?_; clear hr3))
          go_ret
          exact ⟨B3, j + 1 + (n - j), d3, rfl, PE.out OE.out, BE.out⟩
      · obtain rfl : j = n := by omega
        have PE : Hid (∀ {w3 : World} {B3 : Option Addr} {d3 : Nat}, Is w3 B3 (j + 1 + 0) d3 ((l.take j ++ [z]) ++ l.drop j) → Is w3 B3 (j + 1 + 0) d3 (putZ l z false)) := Lib.hid (fun h => by
          have h1 := LO.out
          rw [← HL.out] at h1
          have hz : l.length = j := HL.out
          rw [h1.z_end]
          rw [← hz, List.take_length, List.drop_length, List.append_nil] at h
          rw [← hz]
          exact h)
        have ID0 : Hid (Is w D 0 (c - j) (l.drop j)) := Lib.hid (by have := ID.out; rwa [Nat.sub_self] at this)
        obtain ⟨B1, d1, w1, hr1, o1, b1⟩ := app_is w.heap.size (some ⟨w.heap.size, 0, none⟩) 0 0 [] (w.alloc (.cells #[] 3)) (made_is w) (some a) j c (l.take j) (IT.out.below (new1 w _)) (by omega) (by simp)
        rw [Nat.zero_add] at hr1 o1
        rw [List.nil_append] at o1
        have s1 : w.heap.size ≤ w1.heap.size := by have := b1.size; simp at this; omega
        obtain ⟨B2, d2, w2, hr2, o2, b2⟩ := app_ints w.heap.size B1 j d1 (l.take j) w1 z o1 (by omega) s1
        have s2 : w.heap.size ≤ w2.heap.size := Nat.le_trans s1 b2.size
        have BA := Lib.hid (((new1 w (.cells #[] 3)).trans (b1.mono (Nat.le_refl _))).trans b2)
        obtain ⟨B3, d3, w3, hr3, o3, b3⟩ := app_is w.heap.size B2 (j + 1) d2 (l.take j ++ [z]) w2 o2 D 0 (c - j) (l.drop j) (ID0.out.below BA.out) (by omega) s2
        have BE := Lib.hid (BA.out.trans b3)
        have OE := Lib.hid (ownI_is o3)
        clear o1 o2 o3 b1 b2 b3 s1 s2 BA
        have tk1 : True := trivial
        go_wp2_with (first | (at_builtin; have _t := tk1; clear _t tk1; refine wpList_append_eq _ rfl (.tmp 39) (.tmp 42) _ _ rfl _ _ rfl rfl hr1 ?_; clear hr1; have tk2 : True := trivial) | (at_builtin; have _t := tk2; clear _t tk2; refine wpList_append_eq _ rfl (.tmp 44) (.tmp 46) _ _ rfl _ _ rfl rfl hr2 ?_; clear hr2; have tk3 : True := trivial) | (at_builtin; have _t := tk3; clear _t tk3; refine wpList_append_eq _ rfl (.tmp 48) (.tmp 51) _ _ rfl _ _ rfl rfl hr3 ?_; clear hr3))
        go_ret
        exact ⟨B3, j + 1 + 0, d3, rfl, PE.out OE.out, BE.out⟩
theorem put09_any (A : Option Addr) (n c : Nat) (l : List Int) (z : Int) (once : Bool) (w : World) (h : Is w A n c l) (hn : n ≤ 900) :
    Calls Try.prog 27 #[.slice A n c, .int .i64 z, .bool once] w (IsE (putZ l z once) w) := by
  cases once
  · exact put09_false A n c l z w h hn
  · exact put09_true A n c l z w h hn
end Go.Proofs.Ytcbnfgehmeikgaa.P
