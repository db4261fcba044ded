/- Numbers, neighbours that are the same as one: slices.Compact over a row of the call's own. -/
import Derived.Test.YtjjngablalnbeaaDoorGenInts
import Derived.Test.YtjjngablalnbeaaDoorRowOwn
import Derived.Laws.IdiomCopy
namespace Go.Proofs.YtjjngablalnbeaaDoor.P
open Go.RowKit Go.Sort
set_option maxHeartbeats 2000000
set_option linter.unusedVariables false
set_option linter.unusedSimpArgs false
set_option maxRecDepth 100000

/-- The first j numbers, neighbours that are the same as one. -/
def termsTo (l : List Int) : Nat → List Int
  | 0 => []
  | j + 1 => termsTo l j ++ (match l[j]? with | some a => if 0 < j ∧ l[j - 1]? = some a then [] else [a] | none => [])
def termsL (l : List Int) : List Int := termsTo l l.length
theorem terms_new (l : List Int) (j : Nat) (a : Int) (ha : l[j]? = some a) (h : ¬ (0 < j ∧ l[j - 1]? = some a)) : termsTo l (j + 1) = termsTo l j ++ [a] := by
  show termsTo l j ++ (match l[j]? with | some a => if 0 < j ∧ l[j - 1]? = some a then [] else [a] | none => []) = _
  rw [ha]; simp only [if_neg h]
theorem terms_old (l : List Int) (j : Nat) (a : Int) (ha : l[j]? = some a) (h : 0 < j ∧ l[j - 1]? = some a) : termsTo l (j + 1) = termsTo l j := by
  show termsTo l j ++ (match l[j]? with | some a => if 0 < j ∧ l[j - 1]? = some a then [] else [a] | none => []) = _
  rw [ha]; simp only [if_pos h]; simp
theorem terms_len (l : List Int) : ∀ j, (termsTo l j).length ≤ j
  | 0 => by simp [termsTo]
  | j + 1 => by
    have := terms_len l j
    unfold termsTo
    rw [List.length_append]
    cases l[j]? with
    | none => simp; omega
    | some a => simp only; split <;> simp <;> omega
abbrev arrI (L : List Int) : Array Value := (L.map (Value.int .i64)).toArray
theorem arrI_get (L : List Int) (i : Nat) (a : Int) (h : L[i]? = some a) : (arrI L)[i]? = some (.int .i64 a) := by simp [arrI, h]
theorem arrI_set (L : List Int) (i : Nat) (a : Int) : (arrI L).setIfInBounds i (.int .i64 a) = arrI (L.set i a) := by simp [arrI, List.map_set]
theorem own_int {w : World} {g : Nat} {t : TypeId} {L : List Int} (h : Own w g t (arrI L)) (i : Nat) (a : Int) (ha : L[i]? = some a) : w.cell? ⟨g, i, none⟩ = some (.int .i64 a) := h.cell i _ (arrI_get L i a ha)
/-- A row of numbers, read out of its block. -/
theorem is_of_cells {w : World} {g m n : Nat} (T : List Int) (hT : T.length = m) (hm : m ≤ n) (hn : n ≤ maxLen) (hg : g < w.heap.size) (h : ∀ i a, T[i]? = some a → w.cell? ⟨g, i, none⟩ = some (.int .i64 a)) : Is w (some ⟨g, 0, none⟩) m n T :=
  ⟨hT, hm, hn, fun _ => ⟨_, rfl, hg, fun i x hx j v hv => by
    have hj : j = 0 := by
      have := (List.getElem?_eq_some_iff.1 hv).1
      simp [intC] at this
      exact this
    subst hj
    simp [intC] at hv
    subst hv
    rw [Nat.mul_one]
    have := h i x hx
    unfold subA
    rw [if_pos rfl, show (⟨g, 0, none⟩ : Addr).add i = ⟨g, i, none⟩ by unfold Addr.add; split <;> simp_all]
    exact this⟩, fun h0 => by cases h0⟩
theorem zero_int_ (w : World) : (zeroValue 3).run Tryd.prog w = .ok (.int .i64 0) w := by kernel_rfl
theorem grown_setCells (w : World) (g : Nat) : ∀ (o : Nat) (vs : List Value), w.grownBy (w.setCells g o vs) (some g) := by
  intro o vs
  have : ∀ (vs : List Value) (o : Nat) (w : World), w.grownBy (w.setCells g o vs) (some g) := by
    intro vs
    induction vs with
    | nil => intro o w; exact grown_refl _ _
    | cons v r ih => intro o w; exact Lib.grownBy_trans (Lib.grownBy_setCell w g o v) (ih _ _)
  exact this vs o w
def CompEnd (w : World) (g n : Nat) (T : List Int) (e : Ending) (w' : World) : Prop := e = .returned (.slice (some ⟨g, 0, none⟩) T.length n) ∧ Is w' (some ⟨g, 0, none⟩) T.length n T ∧ w.grownBy w' (some g)
theorem compact_any (g n : Nat) (L : List Int) (w : World) (O : Own w g 3 (arrI L)) (hL : L.length = n) (hn : n ≤ 100000) :
    Calls Tryd.prog 35 #[.slice (some ⟨g, 0, none⟩) n n] w (CompEnd w g n (termsL L)) := by
  have HL := Lib.hid hL
  have OW := Lib.hid O
  have hmx : n ≤ maxLen := by unfold maxLen; omega
  have HMX := Lib.hid hmx
  have hlt0 := O.lt
  clear hL O hmx
  by_cases h2 : n < 2
  · have hT : Hid (termsL L = L) := Lib.hid (by
      unfold termsL
      have h1 := HL.out
      match L, h1 with
      | [], _ => rfl
      | [a], _ => rfl
      | a :: b :: r, h1 => simp at h1; omega)
    have h3 : (n : Int) < 2 := by omega
    go_enter Tryd.func35, Tryd.ntmps35
    go_wp2
    go_ret
    rw [hT.out]
    have hl : L.length = n := HL.out
    subst hl
    exact ⟨rfl, is_of_cells L rfl (Nat.le_refl _) HMX.out hlt0 (fun i a ha => own_int OW.out i a ha), grown_refl _ _⟩
  · have h3 : ¬ ((n : Int) < 2) := by omega
    go_enter Tryd.func35, Tryd.ntmps35
    go_wp2
    go_loopw [3] (fun i wr => ∃ k : Nat, 1 ≤ k ∧ k ≤ n ∧ i = .int .i64 k ∧ Hid (termsTo L k = L.take k) ∧ Own wr g 3 (arrI L) ∧ w.grownBy wr (some g)) (fun i _ => n - (intOf i).toNat)
    case atStart => exact ⟨1, Nat.le_refl _, by omega, rfl, Lib.hid (by
      have h1 := HL.out
      match L, h1 with
      | [], h1 => simp at h1; omega
      | a :: r, _ => rfl), OW.out, grown_refl _ _⟩
    case round =>
      rename World => wr
      obtain ⟨k, hk1, hkn, rfl, HT, hO, hG⟩ := hrel
      have O1 := Lib.hid hO
      have G1 := Lib.hid hG
      clear hO hG
      by_cases hlt : k < n
      · obtain ⟨i, hi⟩ : ∃ i, i + 1 = k := ⟨k - 1, by omega⟩
        obtain ⟨x, hx⟩ : ∃ x, L[k]? = some x := ⟨_, List.getElem?_eq_getElem (by rw [HL.out]; exact hlt)⟩
        obtain ⟨y, hy⟩ : ∃ y, L[i]? = some y := ⟨_, List.getElem?_eq_getElem (by rw [HL.out]; omega)⟩
        have cx := own_int O1.out k x hx
        have cy := own_int O1.out i y hy
        have hki : (k : Int) - 1 = (i : Int) := by omega
        have hkn1 : (k : Int) < n := by omega
        have hin1 : (i : Int) < n := by omega
        have HX := Lib.hid hx
        have HY := Lib.hid hy
        have HI := Lib.hid hi
        have hki0 : k - 1 = i := by omega
        have HK0 := Lib.hid hki0
        clear hx hy hi hki0
        by_cases hxy : x = y
        · have hb : (x == y) = true := by simp [hxy]
          have HD := Lib.hid (show 0 < k ∧ L[k - 1]? = some x from ⟨by omega, by rw [HK0.out, hxy]; exact HY.out⟩)
          have hkn2 : k ≤ n := by omega
          have hkn3 : (k : Int) ≤ n := by omega
          have hknc : ¬ n = k := by omega
          have hnk : ((n - k : Nat) : Int) = (n : Int) - k := by omega
          clear hxy
          go_wp2
          go_quiet (fail)
          go_wp2
          have GW : Hid (w.grownBy (wr.drewN nq) (some g)) := Lib.hid (Lib.grownBy_trans G1.out (grown_drewN wr nq _))
          have OD : Hid (Own (wr.drewN nq) g 3 (arrI L)) := Lib.hid ⟨O1.out.ex⟩
          clear cx cy
          generalize wr.drewN nq = wd at *
          go_loopw [3, 5] (fun v i wq => ∃ (q m : Nat) (M : List Int), 1 ≤ q ∧ k + q ≤ n ∧ m < k + q ∧ v = .int .i64 m ∧ i = .int .i64 q ∧ Hid (M.length = n ∧ M.take m = termsTo L (k + q) ∧ ∀ j, k + q ≤ j + 1 → M[j]? = L[j]?) ∧ Own wq g 3 (arrI M) ∧ w.grownBy wq (some g)) (fun _ i _ => n - (intOf i).toNat)
          case atStart => exact ⟨1, k, L, Nat.le_refl _, by omega, by omega, rfl, rfl, Lib.hid ⟨HL.out, by rw [terms_old L k x HX.out HD.out, HT.out], fun j _ => rfl⟩, OD.out, GW.out⟩
          case round =>
            clear OD GW
            rename World => wq
            obtain ⟨q, m, M, hq1, hqn, hmq, rfl, rfl, HM, hO, hG⟩ := hrel
            have O2 := Lib.hid hO
            have G2 := Lib.hid hG
            clear hO hG
            by_cases hqk : k + q < n
            · obtain ⟨p, hp⟩ : ∃ p, p + 1 = q := ⟨q - 1, by omega⟩
              obtain ⟨u, hu⟩ : ∃ u, L[k + q]? = some u := ⟨_, List.getElem?_eq_getElem (by rw [HL.out]; exact hqk)⟩
              obtain ⟨v, hv⟩ : ∃ v, L[k + p]? = some v := ⟨_, List.getElem?_eq_getElem (by rw [HL.out]; omega)⟩
              have cu := own_int O2.out (k + q) u (by rw [HM.out.2.2 (k + q) (by omega)]; exact hu)
              have cv := own_int O2.out (k + p) v (by rw [HM.out.2.2 (k + p) (by omega)]; exact hv)
              have hqi : (q : Int) < ((n - k : Nat) : Int) := by omega
              have hqi2 : q < n - k := by omega
              have hpi2 : p < n - k := by omega
              have hpi : (p : Int) < ((n - k : Nat) : Int) := by omega
              have hqp : (q : Int) - 1 = (p : Int) := by omega
              have hmn : (m : Int) < n := by omega
              have HU := Lib.hid hu
              have HV := Lib.hid hv
              have HP := Lib.hid hp
              clear hu hv hp
              by_cases huv : u = v
              · have hb2 : (u != v) = false := by simp [huv]
                have HN := Lib.hid (terms_old L (k + q) u HU.out ⟨by omega, by rw [show k + q - 1 = k + p by have := HP.out; omega, huv]; exact HV.out⟩)
                clear huv
                go_wp2
                go_quiet (fail)
                go_wp2
                go_roundw
                case rel => exact ⟨q + 1, m, M, by omega, by omega, by omega, rfl, by go_num, Lib.hid ⟨HM.out.1, by rw [show k + (q + 1) = k + q + 1 by omega, HN.out]; exact HM.out.2.1, fun j hj => HM.out.2.2 j (by omega)⟩, ⟨O2.out.ex⟩, Lib.grownBy_trans G2.out (grown_drewN wq nq _)⟩
                case measure => simp [intOf]; omega
              · have hb2 : (u != v) = true := by simp [huv]
                have HN := Lib.hid (terms_new L (k + q) u HU.out (fun h => by
                  rw [show k + q - 1 = k + p by have := HP.out; omega, HV.out] at h
                  exact huv (Option.some.inj h.2).symm))
                have fm := O2.out.frozen m
                obtain ⟨z, hz⟩ : ∃ z, M[m]? = some z := ⟨_, List.getElem?_eq_getElem (by rw [HM.out.1]; omega)⟩
                have cm := own_int O2.out m z hz
                have cur := fun (N : Nat) => (show Own (wq.drewN N) g 3 (arrI M) from ⟨O2.out.ex⟩)
                have SET := Lib.hid (show M.set m u = M.take m ++ u :: M.drop (m + 1) by rw [List.set_eq_take_append_cons_drop, if_pos (by rw [HM.out.1]; omega)])
                clear huv
                go_wp2
                go_quiet (fail)
                go_wp2
                go_roundw
                case rel => exact ⟨q + 1, m + 1, M.set m u, by omega, by omega, by omega, by go_num, by go_num, Lib.hid ⟨by rw [List.length_set]; exact HM.out.1, by
                  rw [show k + (q + 1) = k + q + 1 by omega, HN.out, ← HM.out.2.1, SET.out]
                  have : (M.take m).length = m := by rw [List.length_take, HM.out.1]; omega
                  rw [List.take_append, this, List.take_of_length_le (by rw [this]; omega), show m + 1 - m = 1 by omega]
                  rfl, fun j hj => by rw [List.getElem?_set_ne (by omega)]; exact HM.out.2.2 j (by omega)⟩, by rw [← arrI_set]; exact (cur nq).set m _, Lib.grownBy_setB (Lib.grownBy_trans G2.out (grown_drewN wq nq _)) m _⟩
                case measure => simp [intOf]; omega
            · obtain rfl : q = n - k := by omega
              have hkn4 : k + (n - k) = n := by omega
              have hM1 := HM.out.1
              have hM2 := HM.out.2.1
              rw [hkn4] at hM2 hmq
              have hml : (termsL L).length = m := by
                unfold termsL
                rw [HL.out, ← hM2, List.length_take, hM1]
                omega
              have hT : termsL L = M.take m := by unfold termsL; rw [HL.out, hM2]
              have hrow : RowAt wq g 3 (arrI M) := O2.out.ex
              obtain ⟨zs, hzl, hcl⟩ := run_clear_rows (P := Tryd.prog) wq 32 3 (.int .i64 0) 1 Tryd.underlying32 zero_int_ rfl (by intro v hv; simp [Value.cells] at hv; subst hv; rfl) (by omega) g m (n - m) (by omega)
                (fun t ht => by rw [hrow.cell, Array.getElem?_eq_getElem (by simp [arrI]; omega)]; rfl) (fun t ht => hrow.frozen _)
              have FIN : Hid (CompEnd w g n (termsL L) (.returned (.slice (some ⟨g, 0, none⟩) m n)) (wq.setCells g m zs)) := Lib.hid (by
                refine ⟨by rw [hml], ?_, ?_⟩
                · refine is_of_cells (termsL L) rfl (by rw [hml]; omega) HMX.out (by
                    have := O2.out.lt
                    have h2 := (RowAt.setCells zs wq (arrI M) m hrow)
                    exact (Own.mk h2).lt) (fun i a ha => ?_)
                  have him : i < m := by have := (List.getElem?_eq_some_iff.1 ha).1; omega
                  rw [World.cell?_setCells_out _ _ _ _ _ (fun _ _ => .inl him)]
                  rw [hT, List.getElem?_take_of_lt him] at ha
                  exact own_int O2.out i a ha
                · exact Lib.grownBy_trans G2.out (grown_setCells wq g m zs))
              have hmn : m ≤ n := by omega
              have hmn2 : (m : Int) ≤ n := by omega
              have hmn3 : ¬ n = m := by omega
              clear hrow hM1 hM2 hml hT hzl
              go_wp2
              go_ret
              exact FIN.out
        · have hb : (x == y) = false := by simp [hxy]
          have HN := Lib.hid (terms_new L k x HX.out (fun h => by
            rw [HK0.out, HY.out] at h
            exact hxy (Option.some.inj h.2).symm))
          clear hxy
          go_wp2
          go_quiet (fail)
          go_wp2
          go_roundw
          case rel => exact ⟨k + 1, by omega, by omega, by go_num, Lib.hid (by rw [HN.out, HT.out, take_succ L k x HX.out]), ⟨O1.out.ex⟩, Lib.grownBy_trans G1.out (grown_drewN wr nq _)⟩
          case measure => simp [intOf]; omega
      · obtain rfl : k = n := by omega
        go_wp2
        go_ret
        have hT : termsL L = L := by
          unfold termsL
          rw [HL.out, HT.out, List.take_of_length_le (by rw [HL.out]; omega)]
        rw [hT]
        have hl : L.length = k := HL.out
        subst hl
        exact ⟨rfl, is_of_cells L rfl (Nat.le_refl _) HMX.out O1.out.lt (fun i a ha => own_int O1.out i a ha), G1.out⟩
end Go.Proofs.YtjjngablalnbeaaDoor.P
