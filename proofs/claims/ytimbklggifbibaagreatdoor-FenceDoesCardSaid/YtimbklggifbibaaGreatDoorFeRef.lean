/- Layer 20, the document's: a number into a list that rises; tokens, and whose they are; what bytes do. -/
import Derived.Test.YtimbklggifbibaaGreatDoorFeDo
import Derived.Test.YtimbklggifbibaaGreatDoorFeRise
import Derived.Test.YtimbklggifbibaaGreatDoorWireRefAsked
namespace Go.Proofs.YtimbklggifbibaaGreatDoor.P
open Go.RowKit Go.Sort
set_option maxHeartbeats 2000000
set_option linter.unusedVariables false
set_option linter.unusedSimpArgs false
set_option maxRecDepth 100000

theorem low_is : ∀ (l : List Int) (z : Int) (i : Nat), i ≤ l.length → (∀ k x, k < i → l[k]? = some x → x < z) → (∀ x, l[i]? = some x → ¬ x < z) → lowTo l z = i
  | [], z, i, hi, _, _ => by simp at hi; subst hi; rfl
  | a :: l, z, 0, _, _, h => by
    have := h a rfl
    unfold lowTo; simp [this]
  | a :: l, z, i + 1, hi, h1, h2 => by
    have ha := h1 0 a (by omega) rfl
    have ih := low_is l z i (by simpa using hi) (fun k x hk hx => h1 (k + 1) x (by omega) hx) (fun x hx => h2 x hx)
    unfold lowTo at ih ⊢
    simp [ha, ih]
/-- The first i of a list are below z. -/
structure LowTo (l : List Int) (z : Int) (i : Nat) : Prop where
  lt : ∀ k x, k < i → l[k]? = some x → x < z
theorem LowTo.zero (l : List Int) (z : Int) : LowTo l z 0 := ⟨fun k x h => by omega⟩
theorem LowTo.more {l : List Int} {z : Int} {i : Nat} {x : Int} (h : LowTo l z i) (hx : l[i]? = some x) (hl : x < z) : LowTo l z (i + 1) := ⟨fun k y hk hy => by
  by_cases e : k = i
  · subst e; rw [hx] at hy; have := Option.some.inj hy; subst this; exact hl
  · exact h.lt k y (by omega) hy⟩
theorem LowTo.there {l : List Int} {z : Int} {i : Nat} (h : LowTo l z i) (hx : l[i]? = some z) : putI l z = l := by
  have := low_is l z i (Nat.le_of_lt (List.getElem?_eq_some_iff.1 hx).1) h.lt (fun x h1 => by rw [hx] at h1; have := Option.some.inj h1; omega)
  unfold putI; rw [this, if_pos hx]
theorem LowTo.not {l : List Int} {z : Int} {i : Nat} {x : Int} (h : LowTo l z i) (hx : l[i]? = some x) (h1 : ¬ x < z) (h2 : ¬ x = z) : putI l z = l.take i ++ z :: l.drop i := by
  have := low_is l z i (Nat.le_of_lt (List.getElem?_eq_some_iff.1 hx).1) h.lt (fun y h3 => by rw [hx] at h3; have := Option.some.inj h3; omega)
  unfold putI; rw [this, if_neg (fun h3 => by rw [hx] at h3; exact h2 (Option.some.inj h3))]
theorem LowTo.end_ {l : List Int} {z : Int} (h : LowTo l z l.length) : putI l z = l ++ [z] := by
  have := low_is l z l.length (Nat.le_refl _) h.lt (fun x h1 => by rw [List.getElem?_eq_none (Nat.le_refl _)] at h1; cases h1)
  unfold putI; rw [this, if_neg (fun h3 => by rw [List.getElem?_eq_none (Nat.le_refl _)] at h3; cases h3)]; simp
theorem app_is (base : Nat) (B : Option Addr) (n d : Nat) (xs : List Int) (w : World) (hown : ownI w base B n d xs) (A : Option Addr) (m c : Nat) (l : List Int) (h : Is w A m c l) (hn : n + m ≤ 1000000) (hb : base ≤ w.heap.size) :
    ∃ B' d' w', (Builtin.append_ #[31, 31] 31 #[.slice B n d, .slice A m c]).run Tryz.prog w = .ok (.slice B' (n + m) d') w' ∧ ownI w' base B' (n + m) d' (xs ++ l) ∧ Below base w w' := by
  obtain ⟨i0, hi0, hz0, hz1, hz2⟩ := info_parts1 int_info
  obtain ⟨B', d', w', h1, h2, h3, _⟩ := app_rows intC_len (by omega) intC_one Tryz.underlying31 hi0 hz0 hz1 hz2 rfl (by omega) base B n d xs w hown A m c l h hn hb
  exact ⟨B', d', w', h1, h2, h3⟩
theorem made_is (w : World) : ownI (w.alloc (.cells #[] 3)) w.heap.size (some ⟨w.heap.size, 0, none⟩) 0 0 [] := World.ownsRow_made w #[] 0 (Nat.le_refl _) (Nat.zero_le _) rfl
theorem is_to (a : Addr) (n c k : Nat) (w : World) (i2 : k ≤ n) (hle : n ≤ c) (hmax : c ≤ 9223372036854775807) :
    (Instr.slice 31 (.slice (some a) n c) none (some (.int .i64 (k : Int))) none).run Tryz.prog w = .ok (.slice (some a) k c) w := by
  have i3 : (k : Int) ≤ (c : Int) := by omega
  have ib : (n : Int) ≤ (c : Int) := by omega
  have i0 : (0 : Int) ≤ (k : Int) := by omega
  have i8 : ((k : Int)).toNat = k := by omega
  go_simp
theorem is_from (a : Addr) (n c k : Nat) (D : Option Addr) (hD : (if c = k then some a else some (a.add k)) = D) (w : World) (i2 : k ≤ n) (hle : n ≤ c) (hmax : c ≤ 9223372036854775807) :
    (Instr.slice 31 (.slice (some a) n c) (some (.int .i64 (k : Int))) none none).run Tryz.prog w = .ok (.slice D (n - k) (c - k)) w := by
  have i3 : (k : Int) ≤ (c : Int) := by omega
  have ib : (n : Int) ≤ (c : Int) := by omega
  have i0 : (0 : Int) ≤ (k : Int) := by omega
  have i6 : (k : Int) ≤ (n : Int) := by omega
  have i8 : ((k : Int)).toNat = k := by omega
  go_simp
/-- How a call ends that tells a row of numbers, its own or the argument. -/
def IsE (l : List Int) (w : World) (e : Ending) (w' : World) : Prop := ∃ A n c, e = .returned (.slice A n c) ∧ Is w' A n c l ∧ Below w.heap.size w w'
theorem put_any (A : Option Addr) (n c : Nat) (l : List Int) (z : Int) (w : World) (h : Is w A n c l) (hn : n ≤ 900) :
    Calls Tryz.prog 21 #[.slice A n c, .int .i64 z] w (IsE (putI l z) w) := by
  have H := Lib.hid h
  have HL := Lib.hid h.len
  have hle := h.le
  have hmax := h.max
  unfold maxLen at hmax
  have hmax2 : c ≤ 9223372036854775807 := by omega
  have hnil := h.nil
  have hd := h.rd
  cases A with
  | none =>
    have hc0 := hnil rfl
    subst hc0
    obtain rfl : n = 0 := by omega
    obtain rfl : l = [] := List.eq_nil_of_length_eq_zero HL.out
    have hp : Hid (putI [] z = [z]) := Lib.hid (by simpa using (LowTo.end_ (LowTo.zero [] z)))
    obtain ⟨B1, d1, w1, hr1, o1, b1⟩ := app_is w.heap.size (some ⟨w.heap.size, 0, none⟩) 0 0 [] (w.alloc (.cells #[] 3)) (made_is w) none 0 0 [] (RowsOf.bare _) (by omega) (by simp)
    have s1 : w.heap.size ≤ w1.heap.size := by have := b1.size; simp at this; omega
    obtain ⟨B2, d2, w2, hr2, o2, b2⟩ := app_ints w.heap.size B1 0 d1 [] w1 z o1 (by omega) s1
    have s2 : w.heap.size ≤ w2.heap.size := Nat.le_trans s1 b2.size
    have BA := Lib.hid (((new1 w (.cells #[] 3)).trans (b1.mono (Nat.le_refl _))).trans b2)
    obtain ⟨B3, d3, w3, hr3, o3, b3⟩ := app_is w.heap.size B2 1 d2 [z] w2 o2 none 0 0 [] (RowsOf.bare _) (by omega) s2
    have BE := Lib.hid (BA.out.trans b3)
    have OE := Lib.hid (ownI_is o3)
    clear o1 o2 o3 b1 b2 b3 s1 s2 BA hd hnil
    go_enter Tryz.func21, Tryz.ntmps21
    go_wp2
    refine wp_loop_rounds 1 ?_
    rw [rounds_succ]
    have tk1 : True := trivial
    go_wp2_with (first | (at_builtin; have _t := tk1; clear _t tk1; refine wpList_append_eq _ rfl (.tmp 34) (.tmp 37) _ _ rfl _ _ rfl rfl hr1 ?_; clear hr1; have tk2 : True := trivial) | (at_builtin; have _t := tk2; clear _t tk2; refine wpList_append_eq _ rfl (.tmp 39) (.tmp 41) _ _ rfl _ _ rfl rfl hr2 ?_; clear hr2; have tk3 : True := trivial) | (at_builtin; have _t := tk3; clear _t tk3; refine wpList_append_eq _ rfl (.tmp 43) (.tmp 46) _ _ rfl _ _ rfl rfl hr3 ?_; clear hr3))
    go_ret
    exact ⟨B3, 1, d3, rfl, by rw [hp.out]; exact OE.out, BE.out⟩
  | some a =>
    have HX : ∀ j, j ≤ n → Is w (some a) j c (l.take j) ∧ Is w (if c = j then some a else some (a.add j)) (n - j) (c - j) (l.drop j) := fun j hj => by
      have h1 := RowsOf.take H.out hj
      have h2 := RowsOf.drop H.out hj
      rw [Nat.mul_one] at h2
      exact ⟨h1, h2⟩
    have HXX := Lib.hid HX
    clear HX hd hnil
    go_enter Tryz.func21, Tryz.ntmps21
    go_wp2
    go_loop [5] (fun i => ∃ j : Nat, j ≤ n ∧ i = .int .i64 j ∧ LowTo l z j) (fun i => n - (intOf i).toNat)
    case atStart => exact ⟨0, Nat.zero_le _, rfl, LowTo.zero l z⟩
    case round =>
      obtain ⟨j, hj, rfl, hlo⟩ := hrel
      have LO := Lib.hid hlo
      clear hlo
      obtain ⟨it, id⟩ := HXX.out j hj
      generalize hD : (if c = j then some a else some (a.add j)) = D at id
      have IT := Lib.hid it
      have ID := Lib.hid id
      have hto := fun w => is_to a n c j w hj hle hmax2
      have hfrom := fun w => is_from a n c j D hD w hj hle hmax2
      clear it id hD
      by_cases hlt : j < n
      · obtain ⟨a', y, ha', hbl, hy, c0⟩ := Is.at_ H.out hlt
        obtain rfl := Option.some.inj ha'
        have HY := Lib.hid hy
        have i0 : (0 : Int) ≤ (j : Int) := by omega
        have i1 : (j : Int) < (n : Int) := by omega
        clear hy hbl ha'
        by_cases hyz : y < z
        · have HM := Lib.hid (LO.out.more HY.out hyz)
          clear hto hfrom
          go_wp2
          go_round
          case rel => exact ⟨j + 1, by omega, by go_num, HM.out⟩
          case measure => simp [intOf]; omega
        · by_cases he : y = z
          · subst he
            have PE := Lib.hid (LO.out.there HY.out)
            clear hto hfrom
            go_wp2
            go_ret
            exact ⟨some a, n, c, rfl, by rw [PE.out]; exact H.out, Below.refl _ _⟩
          · have PE : Hid (∀ {w3 : World} {B3 : Option Addr} {d3 : Nat}, Is w3 B3 (j + 1 + (n - j)) d3 ((l.take j ++ [z]) ++ l.drop j) → Is w3 B3 (j + 1 + (n - j)) d3 (putI l z)) := Lib.hid (fun h => by rw [LO.out.not HY.out hyz he]; simpa using h)
            obtain ⟨B1, d1, w1, hr1, o1, b1⟩ := app_is w.heap.size (some ⟨w.heap.size, 0, none⟩) 0 0 [] (w.alloc (.cells #[] 3)) (made_is w) (some a) j c (l.take j) (IT.out.below (new1 w _)) (by omega) (by simp)
            rw [Nat.zero_add] at hr1 o1
            rw [List.nil_append] at o1
            have s1 : w.heap.size ≤ w1.heap.size := by have := b1.size; simp at this; omega
            obtain ⟨B2, d2, w2, hr2, o2, b2⟩ := app_ints w.heap.size B1 j d1 (l.take j) w1 z o1 (by omega) s1
            have s2 : w.heap.size ≤ w2.heap.size := Nat.le_trans s1 b2.size
            have BA := Lib.hid (((new1 w (.cells #[] 3)).trans (b1.mono (Nat.le_refl _))).trans b2)
            obtain ⟨B3, d3, w3, hr3, o3, b3⟩ := app_is w.heap.size B2 (j + 1) d2 (l.take j ++ [z]) w2 o2 D (n - j) (c - j) (l.drop j) (ID.out.below BA.out) (by omega) s2
            have BE := Lib.hid (BA.out.trans b3)
            have OE := Lib.hid (ownI_is o3)
            clear o1 o2 o3 b1 b2 b3 s1 s2 BA
            have tk1 : True := trivial
            go_wp2_with (first | (at_builtin; have _t := tk1; clear _t tk1; refine wpList_append_eq _ rfl (.tmp 34) (.tmp 37) _ _ rfl _ _ rfl rfl hr1 ?_; clear hr1; have tk2 : True := trivial) | (at_builtin; have _t := tk2; clear _t tk2; refine wpList_append_eq _ rfl (.tmp 39) (.tmp 41) _ _ rfl _ _ rfl rfl hr2 ?_; clear hr2; have tk3 : True := trivial) | (at_builtin; have _t := tk3; clear _t tk3; refine wpList_append_eq _ rfl (.tmp 43) (.tmp 46) _ _ rfl _ _ rfl rfl hr3 ?_; clear hr3))
            go_ret
            exact ⟨B3, j + 1 + (n - j), d3, rfl, PE.out OE.out, BE.out⟩
      · obtain rfl : j = n := by omega
        have PE : Hid (∀ {w3 : World} {B3 : Option Addr} {d3 : Nat}, Is w3 B3 (j + 1 + 0) d3 ((l.take j ++ [z]) ++ l.drop j) → Is w3 B3 (j + 1 + 0) d3 (putI l z)) := Lib.hid (fun h => by
          have h1 := LO.out
          rw [← HL.out] at h1
          have hz : l.length = j := HL.out
          rw [h1.end_]
          rw [← hz, List.take_length, List.drop_length, List.append_nil] at h
          rw [← hz]
          exact h)
        have ID0 : Hid (Is w D 0 (c - j) (l.drop j)) := Lib.hid (by have := ID.out; rwa [Nat.sub_self] at this)
        obtain ⟨B1, d1, w1, hr1, o1, b1⟩ := app_is w.heap.size (some ⟨w.heap.size, 0, none⟩) 0 0 [] (w.alloc (.cells #[] 3)) (made_is w) (some a) j c (l.take j) (IT.out.below (new1 w _)) (by omega) (by simp)
        rw [Nat.zero_add] at hr1 o1
        rw [List.nil_append] at o1
        have s1 : w.heap.size ≤ w1.heap.size := by have := b1.size; simp at this; omega
        obtain ⟨B2, d2, w2, hr2, o2, b2⟩ := app_ints w.heap.size B1 j d1 (l.take j) w1 z o1 (by omega) s1
        have s2 : w.heap.size ≤ w2.heap.size := Nat.le_trans s1 b2.size
        have BA := Lib.hid (((new1 w (.cells #[] 3)).trans (b1.mono (Nat.le_refl _))).trans b2)
        obtain ⟨B3, d3, w3, hr3, o3, b3⟩ := app_is w.heap.size B2 (j + 1) d2 (l.take j ++ [z]) w2 o2 D 0 (c - j) (l.drop j) (ID0.out.below BA.out) (by omega) s2
        have BE := Lib.hid (BA.out.trans b3)
        have OE := Lib.hid (ownI_is o3)
        clear o1 o2 o3 b1 b2 b3 s1 s2 BA
        have tk1 : True := trivial
        go_wp2_with (first | (at_builtin; have _t := tk1; clear _t tk1; refine wpList_append_eq _ rfl (.tmp 34) (.tmp 37) _ _ rfl _ _ rfl rfl hr1 ?_; clear hr1; have tk2 : True := trivial) | (at_builtin; have _t := tk2; clear _t tk2; refine wpList_append_eq _ rfl (.tmp 39) (.tmp 41) _ _ rfl _ _ rfl rfl hr2 ?_; clear hr2; have tk3 : True := trivial) | (at_builtin; have _t := tk3; clear _t tk3; refine wpList_append_eq _ rfl (.tmp 43) (.tmp 46) _ _ rfl _ _ rfl rfl hr3 ?_; clear hr3))
        go_ret
        exact ⟨B3, j + 1 + 0, d3, rfl, PE.out OE.out, BE.out⟩
theorem rput_len (l : List Int) : (rputL l).length ≤ l.length := by rw [rput_rise]; exact rise_len l
theorem tokensr_any (r : Rs) (A : Option Addr) (n c : Nat) (w : World) (h : RsAt w r A n c) (hn : n ≤ 60) :
    Calls Tryz.prog 10 #[r.agg A n c] w (IsE (riseL (toksL r.log)) w) := by
  obtain ⟨W1, hW1⟩ : ∃ W1, W1 = w.alloc (.cells (r.arr A n c) 24) := ⟨_, rfl⟩
  have b1 : Below w.heap.size w W1 := by rw [hW1]; exact new1 w _
  have o1 : Own W1 w.heap.size 24 (r.arr A n c) := by rw [hW1]; exact own_new w _ _
  have B1 := Lib.hid b1
  have O1 := Lib.hid o1
  have H := Lib.hid (h.log.keep b1)
  have HL := Lib.hid h.len
  clear h b1 o1
  obtain ⟨hi, va, l⟩ := r
  have HLl : Hid (l.length = n) := HL
  go_enter Tryz.func10, Tryz.ntmps10
  go_wp2
  rw [← hW1]
  clear hW1
  go_loopw [3, 4] (fun v i wr => ∃ (j n2 : Nat) (A2 : Option Addr) (c2 : Nat), j ≤ n ∧ n2 ≤ 60 ∧ i = .int .i64 j ∧ v = .slice A2 n2 c2 ∧ Is wr A2 n2 c2 (rputL (toksL (l.take j))) ∧ Below W1.heap.size W1 wr) (fun _ i _ => n - (intOf i).toNat)
  case atStart => exact ⟨0, 0, none, 0, Nat.zero_le _, by omega, rfl, rfl, RowsOf.bare _, Below.refl _ _⟩
  case round =>
    obtain ⟨j, n2, A2, c2, hj, hn2, rfl, rfl, his, hbel⟩ := hrel
    have HI := Lib.hid his; have HB := Lib.hid hbel
    have X := Lib.hid (O1.out.bel hbel)
    clear his hbel
    have x2 := X.out.cell 2 _ rfl
    by_cases hlt : j < n
    · obtain ⟨a, x, rfl, hbl, hx, hc⟩ := (H.out.keep HB.out).at_ hlt
      obtain ⟨c0, c1, c3⟩ := hc
      have HX := Lib.hid hx
      have i0 : (0 : Int) ≤ (j : Int) := by omega
      have i1 : (j : Int) < (n : Int) := by omega
      have cP := Lib.hid (put_any A2 n2 c2 (rputL (toksL (l.take j))) x.tok wr HI.out (by omega))
      clear hx hbl
      go_wp2_with fail
      refine cP.out.mono ?_; rintro e w2 ⟨A3, n3, c4, rfl, hi3, hb⟩
      have I3 : Hid (Is w2 A3 n3 c4 (rputL (toksL (l.take (j + 1))))) := Lib.hid (by rw [toks_take HX.out, rput_snoc]; exact hi3)
      have B3 := Lib.hid (HB.out.trans (hb.mono HB.out.size))
      have hn3 : n3 ≤ 60 := by
        have h1 := I3.out.len
        have h2 := rput_len (toksL (l.take (j + 1)))
        rw [toks_len, List.length_take] at h2
        omega
      clear hi3 hb
      go_wp2
      go_roundw
      case rel => exact ⟨j + 1, n3, A3, c4, by omega, hn3, by go_num, rfl, I3.out, B3.out⟩
      case measure => simp [intOf]; omega
    · obtain rfl : j = n := by omega
      have HE : Hid (Is wr A2 n2 c2 (riseL (toksL l))) := Lib.hid (by
        have h1 := HI.out
        rw [← HLl.out, List.take_length, rput_rise] at h1
        exact h1)
      go_wp2
      go_ret
      exact ⟨A2, n2, c2, rfl, HE.out, B1.out.trans (HB.out.mono B1.out.size)⟩
theorem ownersr_any (r : Rs) (A : Option Addr) (n c : Nat) (t : Int) (w : World) (h : RsAt w r A n c) (hn : n ≤ 60) :
    Calls Tryz.prog 12 #[r.agg A n c, .int .i64 t] w (IsE (riseL (ownsL r.log t)) w) := by
  obtain ⟨W1, hW1⟩ : ∃ W1, W1 = w.alloc (.cells (r.arr A n c) 24) := ⟨_, rfl⟩
  have b1 : Below w.heap.size w W1 := by rw [hW1]; exact new1 w _
  have o1 : Own W1 w.heap.size 24 (r.arr A n c) := by rw [hW1]; exact own_new w _ _
  have B1 := Lib.hid b1
  have O1 := Lib.hid o1
  have H := Lib.hid (h.log.keep b1)
  have HL := Lib.hid h.len
  clear h b1 o1
  obtain ⟨hi, va, l⟩ := r
  have HLl : Hid (l.length = n) := HL
  go_enter Tryz.func12, Tryz.ntmps12
  go_wp2
  rw [← hW1]
  clear hW1
  go_loopw [5, 6] (fun v i wr => ∃ (j n2 : Nat) (A2 : Option Addr) (c2 : Nat), j ≤ n ∧ n2 ≤ 60 ∧ i = .int .i64 j ∧ v = .slice A2 n2 c2 ∧ Is wr A2 n2 c2 (rputL (ownsL (l.take j) t)) ∧ Below W1.heap.size W1 wr) (fun _ i _ => n - (intOf i).toNat)
  case atStart => exact ⟨0, 0, none, 0, Nat.zero_le _, by omega, rfl, rfl, RowsOf.bare _, Below.refl _ _⟩
  case round =>
    obtain ⟨j, n2, A2, c2, hj, hn2, rfl, rfl, his, hbel⟩ := hrel
    have HI := Lib.hid his; have HB := Lib.hid hbel
    have X := Lib.hid (O1.out.bel hbel)
    clear his hbel
    have x2 := X.out.cell 2 _ rfl
    by_cases hlt : j < n
    · obtain ⟨a, x, rfl, hbl, hx, hc⟩ := (H.out.keep HB.out).at_ hlt
      obtain ⟨c0, c1, c3⟩ := hc
      have HX := Lib.hid hx
      have i0 : (0 : Int) ≤ (j : Int) := by omega
      have i1 : (j : Int) < (n : Int) := by omega
      clear hx hbl
      by_cases ht : x.tok = t
      · have cP := Lib.hid (put_any A2 n2 c2 (rputL (ownsL (l.take j) t)) x.who wr HI.out (by omega))
        have HT := Lib.hid ht
        rw [ht] at c1
        clear ht
        go_wp2_with fail
        refine cP.out.mono ?_; rintro e w2 ⟨A3, n3, c4, rfl, hi3, hb⟩
        have I3 : Hid (Is w2 A3 n3 c4 (rputL (ownsL (l.take (j + 1)) t))) := Lib.hid (by rw [owns_take_yes HX.out HT.out, rput_snoc]; exact hi3)
        have B3 := Lib.hid (HB.out.trans (hb.mono HB.out.size))
        have hn3 : n3 ≤ 60 := by
          have h1 := I3.out.len
          have h2 := rput_len (ownsL (l.take (j + 1)) t)
          have h3 := owns_len (l.take (j + 1)) t
          rw [List.length_take] at h3
          omega
        clear hi3 hb
        go_wp2
        go_roundw
        case rel => exact ⟨j + 1, n3, A3, c4, by omega, hn3, by go_num, rfl, I3.out, B3.out⟩
        case measure => simp [intOf]; omega
      · have I3 : Hid (Is wr A2 n2 c2 (rputL (ownsL (l.take (j + 1)) t))) := Lib.hid (by rw [owns_take_no HX.out ht]; exact HI.out)
        go_wp2
        go_roundw
        case rel => exact ⟨j + 1, n2, A2, c2, by omega, hn2, by go_num, rfl, I3.out, HB.out⟩
        case measure => simp [intOf]; omega
    · obtain rfl : j = n := by omega
      have HE : Hid (Is wr A2 n2 c2 (riseL (ownsL l t))) := Lib.hid (by
        have h1 := HI.out
        rw [← HLl.out, List.take_length, rput_rise] at h1
        exact h1)
      go_wp2
      go_ret
      exact ⟨A2, n2, c2, rfl, HE.out, B1.out.trans (HB.out.mono B1.out.size)⟩
theorem dor_any (r : Rs) (A : Option Addr) (n c : Nat) (b : ByteArray) (w : World) (h : RsAt w r A n c) (hs : b.size ≤ 1000000) :
    Calls Tryz.prog 6 #[r.agg A n c, .string b] w (RsEnd (doRs r b) (doE r b) A n c w) := by
  obtain ⟨W1, hW1⟩ : ∃ W1, W1 = w.alloc (.cells (r.arr A n c) 24) := ⟨_, rfl⟩
  obtain ⟨W2, hW2⟩ : ∃ W2, W2 = W1.alloc (.cells zRs 24) := ⟨_, rfl⟩
  have s1 : W1.heap.size = w.heap.size + 1 := by rw [hW1]; simp
  have b1 : Below w.heap.size w W1 := by rw [hW1]; exact new1 w _
  have b2 : Below w.heap.size w W2 := by rw [hW2]; exact then_ b1 (new1 W1 _)
  have O4 : Own W2 w.heap.size 24 (r.arr A n c) := by rw [hW2, hW1]; exact (own_new w _ _).alloc _
  have O8 : Own W2 (w.heap.size + 1) 24 zRs := by rw [hW2]; have := own_new W1 zRs 24; rwa [s1] at this
  have cA0 := rasked_any b W2 hs
  have B2 := Lib.hid b2
  have P4 := Lib.hid O4; have P8 := Lib.hid O8
  have H := Lib.hid h
  clear h O4 O8 b1 b2 s1
  subst hW1
  obtain ⟨y, bo, hv⟩ : ∃ y bo, askedV b = (y, bo) := ⟨(askedV b).1, (askedV b).2, (Prod.eta (askedV b)).symm⟩
  have HB : WofBy b y bo := ⟨fun h => ⟨by unfold wofB; rw [hv]; exact if_pos h⟩, fun h => ⟨by unfold wofB; rw [hv]; exact if_neg h⟩⟩
  have cA : Hid (Calls Tryz.prog 18 #[.string b] W2 fun e w' => ∃ A0 n0 c0 A1 n1 c1 A2 n2 c2, e = .returned (.tuple #[y.agg A0 n0 c0 A1 n1 c1 A2 n2 c2, .bool bo]) ∧ Below W2.heap.size W2 w') := Lib.hid (cA0.mono fun e w' h => by
    obtain ⟨A0, n0, c0, A1, n1, c1, A2, n2, c2, he, ha, hb⟩ := h
    rw [hv] at he
    exact ⟨A0, n0, c0, A1, n1, c1, A2, n2, c2, he, hb⟩)
  clear hv cA0
  obtain ⟨yk, yw, ysq, yo, ykey, yval, yl, yr, yt, ytok, yi, yth, ye⟩ := y
  cases bo with
  | false =>
    have HF := HB.no (fun h => by simp at h)
    have DI : DoIs r b r 3 := ⟨(do_none HF.eq).2, (do_none HF.eq).1⟩
    clear HB
    go_enter Tryz.func6, Tryz.ntmps6
    go_wp2_with (rw [← hW2])
    clear hW2
    refine cA.out.mono ?_
    rintro e w1 ⟨A0, n0, c0, A1, n1, c1, A2, n2, c2, rfl, hb⟩
    have BB := Lib.hid (B2.out.trans (hb.mono B2.out.size))
    have bz := below_setRow (new1 w1 (.cells zRq 43)) (Nat.le_refl _) #[.int .i64 yk, .int .i64 yw, .int .i64 ysq, .bool yo, .string ykey, .string yval, .int .i64 yl, .int .i64 yr, .int .i64 yt, .int .i64 ytok, .slice A0 n0 c0, .slice A1 n1 c1, .slice A2 n2 c2]
    have N_ := Lib.hid (own_new w1 zRq 43)
    have B3 := Lib.hid (BB.out.trans (bz.mono BB.out.size))
    have P4x := Lib.hid ((P4.out.bel hb).bel bz)
    have P8x := Lib.hid ((P8.out.bel hb).bel bz)
    have Q2 := Lib.hid (fe_row N_.out #[.int .i64 yk, .int .i64 yw, .int .i64 ysq, .bool yo, .string ykey, .string yval, .int .i64 yl, .int .i64 yr, .int .i64 yt, .int .i64 ytok, .slice A0 n0 c0, .slice A1 n1 c1, .slice A2 n2 c2])
    clear hb bz
    have f := P8x.out.frozen
    have r0 := P8x.out.cell 0 _ rfl
    have r1 := P8x.out.cell 1 _ rfl
    have r2 := P8x.out.cell 2 _ rfl
    have hlt := P8x.out.lt
    have x0 := P4x.out.cell 0 _ rfl
    have x1 := P4x.out.cell 1 _ rfl
    have x2 := P4x.out.cell 2 _ rfl
    have q0 := Q2.out.cell 0 _ rfl
    have q1 := Q2.out.cell 1 _ rfl
    have q5 := Q2.out.cell 5 _ rfl
    have q9 := Q2.out.cell 9 _ rfl
    go_wp2_with (refine wpList_store_row rfl 43 _ _ rfl _ _ rfl rfl 43 _ N_.out.ex (by kernel_rfl) rfl (by simp [Value.oneCell']) ?_)
    clear N_
    generalize (w1.alloc (.cells zRq 43)).setRow w1.heap.size #[.int .i64 yk, .int .i64 yw, .int .i64 ysq, .bool yo, .string ykey, .string yval, .int .i64 yl, .int .i64 yr, .int .i64 yt, .int .i64 ytok, .slice A0 n0 c0, .slice A1 n1 c1, .slice A2 n2 c2] = W3 at *
    generalize w1.heap.size = g2 at *
    go_wp2
    exact bodyPost_ret (v := .tuple #[r.agg A n c, .int .i64 3]) (by simp [results, Tryz.results6, go_sem, hlt, r0, r1, r2]) rfl
      (RsEnd.mk DI.st DI.no rfl (H.out.keep (below_set3 B3.out (Nat.le_succ _) _ _ _)) (below_set3 B3.out (Nat.le_succ _) _ _ _) (absurd_num (by decide)) (fun _ => ⟨rfl, rfl, rfl⟩))
  | true =>
    by_cases hk : yk = 8
    · subst hk
      have HF := HB.yes ⟨rfl, rfl⟩
      have DI : DoIs r b (wrR r ⟨yw, ytok, yval⟩) (wrE r ⟨yw, ytok, yval⟩) := ⟨(do_some HF.eq).2, (do_some HF.eq).1⟩
      clear HB
      go_enter Tryz.func6, Tryz.ntmps6
      go_wp2_with (rw [← hW2])
      clear hW2
      refine cA.out.mono ?_
      rintro e w1 ⟨A0, n0, c0, A1, n1, c1, A2, n2, c2, rfl, hb⟩
      have BB := Lib.hid (B2.out.trans (hb.mono B2.out.size))
      have hb0 : Hid (w.heap.size + 1 < w1.heap.size) := Lib.hid (P8.out.bel hb).lt
      have bz := below_setRow (new1 w1 (.cells zRq 43)) (Nat.le_refl _) #[.int .i64 8, .int .i64 yw, .int .i64 ysq, .bool yo, .string ykey, .string yval, .int .i64 yl, .int .i64 yr, .int .i64 yt, .int .i64 ytok, .slice A0 n0 c0, .slice A1 n1 c1, .slice A2 n2 c2]
      have N_ := Lib.hid (own_new w1 zRq 43)
      have B3 := Lib.hid (BB.out.trans (bz.mono BB.out.size))
      have P4x := Lib.hid ((P4.out.bel hb).bel bz)
      have P8x := Lib.hid ((P8.out.bel hb).bel bz)
      have Q2 := Lib.hid (fe_row N_.out #[.int .i64 8, .int .i64 yw, .int .i64 ysq, .bool yo, .string ykey, .string yval, .int .i64 yl, .int .i64 yr, .int .i64 yt, .int .i64 ytok, .slice A0 n0 c0, .slice A1 n1 c1, .slice A2 n2 c2])
      clear hb bz
      have f := P8x.out.frozen
      have r0 := P8x.out.cell 0 _ rfl
      have r1 := P8x.out.cell 1 _ rfl
      have r2 := P8x.out.cell 2 _ rfl
      have hlt := P8x.out.lt
      have x0 := P4x.out.cell 0 _ rfl
      have x1 := P4x.out.cell 1 _ rfl
      have x2 := P4x.out.cell 2 _ rfl
      have q0 := Q2.out.cell 0 _ rfl
      have q1 := Q2.out.cell 1 _ rfl
      have q5 := Q2.out.cell 5 _ rfl
      have q9 := Q2.out.cell 9 _ rfl
      go_wp2_with (refine wpList_store_row rfl 43 _ _ rfl _ _ rfl rfl 43 _ N_.out.ex (by kernel_rfl) rfl (by simp [Value.oneCell']) ?_)
      clear N_
      generalize (w1.alloc (.cells zRq 43)).setRow w1.heap.size #[.int .i64 8, .int .i64 yw, .int .i64 ysq, .bool yo, .string ykey, .string yval, .int .i64 yl, .int .i64 yr, .int .i64 yt, .int .i64 ytok, .slice A0 n0 c0, .slice A1 n1 c1, .slice A2 n2 c2] = W3 at *
      have hg2 := hb0.out
      generalize w1.heap.size = g2 at *
      have cX := Lib.hid (writer_any r A n c ⟨yw, ytok, yval⟩ W3 (H.out.keep B3.out))
      go_wp2_with fail
      refine cX.out.mono ?_
      rintro e w2 ⟨A3, n3, c3, rfl, hat, hb, hf, ho⟩
      have T := Lib.hid hat
      have F := Lib.hid hf
      have OLD := Lib.hid ho
      have P8y := Lib.hid (P8x.out.bel hb)
      have BZ := Lib.hid (B3.out.trans (hb.mono B3.out.size))
      have hsz : Hid (w.heap.size + 1 < W3.heap.size) := Lib.hid P8x.out.lt
      have ER : Hid (wrE r ⟨yw, ytok, yval⟩ ≠ 0 → wrR r ⟨yw, ytok, yval⟩ = r) := Lib.hid wr_err
      clear hat hf ho hb x0 x1 x2 q0 q1 q5 q9 f r0 r1 r2 hlt
      have f := P8y.out.frozen
      have r0 := P8y.out.cell 0 _ rfl
      have r1 := P8y.out.cell 1 _ rfl
      have r2 := P8y.out.cell 2 _ rfl
      have hlt := P8y.out.lt
      generalize wrR r ⟨yw, ytok, yval⟩ = r9 at *
      generalize wrE r ⟨yw, ytok, yval⟩ = er at *
      go_wp2
      have FR : er = 0 → ∀ a, A3 = some a → w.heap.size ≤ a.block ∧ a.block ≠ w.heap.size + 1 := fun h0 a ha => by
        have h1 := F.out h0 a ha
        have h2 := hsz.out
        exact ⟨by omega, by omega⟩
      have BF := below_set3 BZ.out (Nat.le_succ _) (.int .i64 r9.high) (.string r9.val) (.slice A3 n3 c3)
      have AT : RsAt (((w2.setCell ⟨w.heap.size + 1, 0, none⟩ (.int .i64 r9.high)).setCell ⟨w.heap.size + 1, 1, none⟩ (.string r9.val)).setCell ⟨w.heap.size + 1, 2, none⟩ (.slice A3 n3 c3)) r9 A3 n3 c3 := by
        by_cases h0 : er = 0
        · exact ⟨T.out.high, T.out.val, T.out.log.other3 _ _ _ _ (fun a ha => (FR h0 a ha).2)⟩
        · obtain ⟨rfl, rfl, rfl⟩ := OLD.out h0
          have hr := ER.out h0
          rw [hr]
          exact H.out.keep (by rw [hr] at BF; exact BF)
      exact bodyPost_ret (v := .tuple #[r9.agg A3 n3 c3, .int .i64 er]) (by simp [results, Tryz.results6, go_sem, hlt, r0, r1, r2]) rfl
        (RsEnd.mk DI.st DI.no rfl AT BF (fun h0 a ha => (FR h0 a ha).1) (fun h0 => OLD.out h0))
    · have HF := HB.no (fun h => hk h.2)
      have DI : DoIs r b r 3 := ⟨(do_none HF.eq).2, (do_none HF.eq).1⟩
      clear HB
      go_enter Tryz.func6, Tryz.ntmps6
      go_wp2_with (rw [← hW2])
      clear hW2
      refine cA.out.mono ?_
      rintro e w1 ⟨A0, n0, c0, A1, n1, c1, A2, n2, c2, rfl, hb⟩
      have BB := Lib.hid (B2.out.trans (hb.mono B2.out.size))
      have bz := below_setRow (new1 w1 (.cells zRq 43)) (Nat.le_refl _) #[.int .i64 yk, .int .i64 yw, .int .i64 ysq, .bool yo, .string ykey, .string yval, .int .i64 yl, .int .i64 yr, .int .i64 yt, .int .i64 ytok, .slice A0 n0 c0, .slice A1 n1 c1, .slice A2 n2 c2]
      have N_ := Lib.hid (own_new w1 zRq 43)
      have B3 := Lib.hid (BB.out.trans (bz.mono BB.out.size))
      have P4x := Lib.hid ((P4.out.bel hb).bel bz)
      have P8x := Lib.hid ((P8.out.bel hb).bel bz)
      have Q2 := Lib.hid (fe_row N_.out #[.int .i64 yk, .int .i64 yw, .int .i64 ysq, .bool yo, .string ykey, .string yval, .int .i64 yl, .int .i64 yr, .int .i64 yt, .int .i64 ytok, .slice A0 n0 c0, .slice A1 n1 c1, .slice A2 n2 c2])
      clear hb bz
      have f := P8x.out.frozen
      have r0 := P8x.out.cell 0 _ rfl
      have r1 := P8x.out.cell 1 _ rfl
      have r2 := P8x.out.cell 2 _ rfl
      have hlt := P8x.out.lt
      have x0 := P4x.out.cell 0 _ rfl
      have x1 := P4x.out.cell 1 _ rfl
      have x2 := P4x.out.cell 2 _ rfl
      have q0 := Q2.out.cell 0 _ rfl
      have q1 := Q2.out.cell 1 _ rfl
      have q5 := Q2.out.cell 5 _ rfl
      have q9 := Q2.out.cell 9 _ rfl
      go_wp2_with (refine wpList_store_row rfl 43 _ _ rfl _ _ rfl rfl 43 _ N_.out.ex (by kernel_rfl) rfl (by simp [Value.oneCell']) ?_)
      clear N_
      generalize (w1.alloc (.cells zRq 43)).setRow w1.heap.size #[.int .i64 yk, .int .i64 yw, .int .i64 ysq, .bool yo, .string ykey, .string yval, .int .i64 yl, .int .i64 yr, .int .i64 yt, .int .i64 ytok, .slice A0 n0 c0, .slice A1 n1 c1, .slice A2 n2 c2] = W3 at *
      generalize w1.heap.size = g2 at *
      go_wp2
      exact bodyPost_ret (v := .tuple #[r.agg A n c, .int .i64 3]) (by simp [results, Tryz.results6, go_sem, hlt, r0, r1, r2]) rfl
        (RsEnd.mk DI.st DI.no rfl (H.out.keep (below_set3 B3.out (Nat.le_succ _) _ _ _)) (below_set3 B3.out (Nat.le_succ _) _ _ _) (absurd_num (by decide)) (fun _ => ⟨rfl, rfl, rfl⟩))
end Go.Proofs.YtimbklggifbibaaGreatDoor.P
