/- Tickets: the document's place, what is ahead, who is ready. -/
import Derived.Test.YtefldchhopgliaaTkRef
namespace Go.Proofs.Ytefldchhopgliaa.P
open Go.RowKit Go.Sort
set_option maxHeartbeats 1000000
set_option linter.unusedVariables false
set_option linter.unusedSimpArgs false
set_option maxRecDepth 100000

theorem placeR_any (A : Option Addr) (n c : Nat) (l : List KV) (k : ByteArray) (w : World) (h : KVs w A n c l) (hn : n ≤ 100000) :
    Calls Try.prog 15 #[.slice A n c, .string k] w fun e w' => e = .returned (.int .i64 (idxL k (ordL befB l))) ∧ Below w.heap.size w w' := by
  have c1 := orderR_any A n c l w h hn
  have HI := fun i (h : IdxIs (ordL befB l) k i) => idxL_eq h
  have HO := Lib.hid (ordL_len (lt := befB) l)
  rw [h.len] at HO
  generalize ordL befB l = o at *
  clear h
  go_enter Try.func15, Try.ntmps15
  go_wp2_with fail
  refine c1.mono ?_
  rintro e w1 ⟨B, m, d, rfl, hk, hb⟩
  obtain rfl : m = n := hk.len.symm.trans HO.out
  have K := Lib.hid hk
  have B1 := Lib.hid hb
  clear hk hb c1
  go_wp2
  go_loopw [6] (fun i wr => ∃ j : Nat, j ≤ m ∧ i = .int .i64 j ∧ AllTo (fun y => !teq y.key k) o j ∧ Below w1.heap.size w1 wr) (fun i _ => m - (intOf i).toNat)
  case atStart => exact ⟨0, Nat.zero_le _, rfl, rfl, Below.refl _ _⟩
  case round =>
    rename World => wr
    obtain ⟨j, hj, rfl, hall, hbel⟩ := hrel
    have HA := Lib.hid hall
    have HB := Lib.hid hbel
    clear hall hbel
    by_cases hlt : j < m
    · obtain ⟨a, x, rfl, hbl, hx, hok, hc⟩ := (K.out.keep HB.out).at_ hlt
      obtain ⟨c0, c1, c2, c3, c4, c5⟩ := hc
      have HX := Lib.hid hx
      have hlt1 : (j : Int) < m := by omega
      clear hok hx
      cases ht : teq x.key k with
      | true =>
        have HT := Lib.hid ht
        have ht' : (x.key.toList == k.toList) = true := ht
        clear ht
        go_wp2
        go_ret
        exact ⟨by rw [← HI _ (.inr ⟨j, x, rfl, HX.out, HT.out, none_of_all HA.out⟩)]; rfl, then_ B1.out HB.out⟩
      | false =>
        have HT := Lib.hid ht
        have ht' : (x.key.toList == k.toList) = false := ht
        clear ht
        go_wp2
        go_roundw
        case rel => exact ⟨j + 1, by omega, by go_num, by show _ = true; rw [all_take_s o _ j x HX.out, HA.out.out, HT.out]; rfl, HB.out⟩
        case measure => simp [intOf]; omega
    · obtain rfl : j = m := by omega
      go_wp2
      go_ret
      exact ⟨by rw [← HI _ (.inl ⟨rfl, by have := none_of_all HA.out; rwa [take_full o j HO.out] at this⟩)]; rfl, then_ B1.out HB.out⟩
theorem aheadR_any (A : Option Addr) (n c : Nat) (l : List KV) (k : ByteArray) (w : World) (h : KVs w A n c l) (hn : n ≤ 100000) :
    Calls Try.prog 17 #[.slice A n c, .string k] w (SomeKVs w (aheadL l k)) := by
  have HL := Lib.hid h.len
  have H := Lib.hid h
  have c1 := placeR_any A n c l k w h hn
  have c2 := fun w1 (hb : Below w.heap.size w w1) => orderR_any A n c l w1 (H.out.keep hb) hn
  have hr := idxL_range k (ordL befB l)
  rw [ordL_len, HL.out] at hr
  have HA : Hid (aheadL l k = (ordL befB l).take (idxL k (ordL befB l)).toNat) := Lib.hid rfl
  have HO := Lib.hid (ordL_len (lt := befB) l)
  rw [HL.out] at HO
  generalize idxL k (ordL befB l) = i at *
  generalize ordL befB l = o at *
  clear h
  by_cases hi : i < 0
  · go_enter Try.func17, Try.ntmps17
    go_wp2_with fail
    refine c1.mono ?_
    rintro e w1 ⟨rfl, hb⟩
    have B1 := Lib.hid hb
    clear hb c1 c2
    go_wp2
    go_ret
    exact ⟨none, 0, 0, rfl, by rw [HA.out, show i.toNat = 0 by omega]; exact KVs.bare _, B1.out⟩
  · obtain ⟨j, rfl⟩ : ∃ j : Nat, i = j := ⟨i.toNat, by omega⟩
    have hjn : j < n := by omega
    go_enter Try.func17, Try.ntmps17
    go_wp2_with fail
    refine c1.mono ?_
    rintro e w1 ⟨rfl, hb⟩
    have B1 := Lib.hid hb
    have c3 := c2 w1 hb
    clear hb c1 c2
    go_wp2_with fail
    refine c3.mono ?_
    rintro e w2 ⟨B, m, d, rfl, hk, hb⟩
    obtain rfl : m = n := hk.len.symm.trans HO.out
    have K := Lib.hid hk
    have B2 := Lib.hid (then_ B1.out hb)
    obtain ⟨a, x, rfl, _⟩ := hk.at_ hjn
    have hmd : m ≤ d := hk.le
    have h1 : (j : Int) ≤ d := by omega
    have h2 : j ≤ d := by omega
    clear hb c3 hk
    go_wp2
    go_ret
    exact ⟨some a, j, d, rfl, by rw [HA.out]; exact K.out.take (by omega), B2.out⟩
theorem ord_mem_iff (z : KV) (l : List KV) : z ∈ ordL befB l ↔ z ∈ l := by
  have : ∀ (l acc : List KV), z ∈ l.foldl (fun o x => insL befB x o) acc ↔ z ∈ acc ∨ z ∈ l := by
    intro l
    induction l with
    | nil => intro acc; simp
    | cons x r ih =>
      intro acc
      rw [List.foldl_cons, ih, insL_mem, List.mem_cons]
      constructor
      · rintro ((h | h) | h)
        · exact .inr (.inl h)
        · exact .inl h
        · exact .inr (.inr h)
      · rintro (h | h | h)
        · exact .inl (.inr h)
        · exact .inl (.inl h)
        · exact .inr h
  have h := this l []
  simpa [ordL] using h
theorem find_any_iff (k : ByteArray) : ∀ l : List KV, (findL l k).isSome = l.any fun y => teq y.key k
  | [] => rfl
  | y :: r => by
    unfold findL
    rw [List.any_cons]
    cases h : teq y.key k with
    | true => simp
    | false => simpa using find_any_iff k r
theorem place_neg (l : List KV) (k : ByteArray) : idxL k (ordL befB l) < 0 ↔ (findL l k).isSome = false := by
  rw [find_any_iff]
  rcases idxL_is k (ordL befB l) with ⟨e, h⟩ | ⟨j, x, e, hx, ht, _⟩
  · rw [e]
    refine ⟨fun _ => ?_, fun _ => by omega⟩
    rw [List.any_eq_false]
    intro y hy
    rw [h y ((ord_mem_iff y l).2 hy)]
    simp
  · rw [e]
    refine ⟨fun h => by omega, fun h => ?_⟩
    rw [List.any_eq_false] at h
    exact absurd ht (h x ((ord_mem_iff x l).1 (List.mem_of_getElem? hx)))
theorem any_none {l : List KV} (j : Nat) (h : AllTo (fun y => !writesB y) l j) (hj : l.length ≤ j) : l.any writesB = false := by
  have h' := h.out
  rw [List.take_of_length_le hj, List.all_eq_true] at h'
  rw [List.any_eq_false]
  intro y hy
  have := h' y hy
  simpa using this
theorem readyR_any (kind m : Int) (A : Option Addr) (n c : Nat) (l : List KV) (k : ByteArray) (w : World) (h : KVs w A n c l) (hn : n ≤ 100000) :
    Calls Try.prog 19 #[.int .i64 kind, .int .i64 m, .slice A n c, .string k] w fun e w' => e = .returned (.bool (readyB kind m l k)) ∧ Below w.heap.size w w' := by
  have H := Lib.hid h
  have HL := Lib.hid h.len
  have c1 := placeR_any A n c l k w h hn
  have hp := place_neg l k
  have c2 := fun w1 (hb : Below w.heap.size w w1) => aheadR_any A n c l k w1 (H.out.keep hb) hn
  have HV : Hid (readyB kind m l k = ((findL l k).isSome && letsB kind m ((aheadL l k).length : Int) ((aheadL l k).any writesB))) := Lib.hid rfl
  have HQ : Hid ((aheadL l k).length ≤ n) := Lib.hid (by unfold aheadL; rw [List.length_take, ordL_len, HL.out]; omega)
  generalize readyB kind m l k = res at *
  generalize aheadL l k = al at *
  generalize idxL k (ordL befB l) = i at *
  clear h
  cases hf : (findL l k).isSome with
  | false =>
    have hi : i < 0 := hp.2 hf
    rw [hf, Bool.false_and] at HV
    go_enter Try.func19, Try.ntmps19
    go_wp2_with fail
    refine c1.mono ?_
    rintro e w1 ⟨rfl, hb⟩
    have B1 := Lib.hid hb
    clear hb c1 c2
    go_wp2
    go_ret
    exact ⟨by rw [HV.out]; rfl, B1.out⟩
  | true =>
    have hi : ¬ i < 0 := fun h => by rw [hp.1 h] at hf; cases hf
    rw [hf, Bool.true_and] at HV
    go_enter Try.func19, Try.ntmps19
    go_wp2_with fail
    refine c1.mono ?_
    rintro e w1 ⟨rfl, hb⟩
    have B1 := Lib.hid hb
    have c3 := c2 w1 hb
    clear hb c1 c2
    go_wp2_with fail
    refine c3.mono ?_
    rintro e w2 ⟨B, q, d, rfl, hk, hb⟩
    obtain rfl := hk.len
    have K := Lib.hid hk
    have B2 := Lib.hid (then_ B1.out hb)
    clear hb c3 hk
    by_cases h1 : kind = 1 ∨ kind = 3 ∨ kind = 5
    · have HV2 : Hid (res = ((al.length : Int) == 0)) := Lib.hid (by rw [HV.out]; unfold letsB; rw [if_pos h1]; exact (Bool.beq_eq_decide_eq _ _).symm)
      rcases h1 with rfl | rfl | rfl
      all_goals (go_wp2; go_ret; exact ⟨by rw [HV2.out]; rfl, B2.out⟩)
    · have k1 : (kind == 1) = false := by simp; omega
      have k3 : (kind == 3) = false := by simp; omega
      have k5 : (kind == 5) = false := by simp; omega
      by_cases h2 : kind = 2
      · have hal : al.length ≤ n := HQ.out
        have HV2 : Hid (res = !(al.any writesB)) := Lib.hid (by rw [HV.out]; unfold letsB; rw [if_neg h1, if_pos h2])
        subst h2
        go_wp2
        go_loopw [10] (fun i wr => ∃ j : Nat, j ≤ al.length ∧ i = .int .i64 j ∧ AllTo (fun y => !writesB y) al j ∧ Below w2.heap.size w2 wr) (fun i _ => al.length - (intOf i).toNat)
        case atStart => exact ⟨0, Nat.zero_le _, rfl, rfl, Below.refl _ _⟩
        case round =>
          rename World => wr
          obtain ⟨j, hj, rfl, hall, hbel⟩ := hrel
          have HA := Lib.hid hall
          have HB := Lib.hid hbel
          clear hall hbel
          by_cases hlt : j < al.length
          · obtain ⟨a, x, rfl, hbl, hx, hok, hc⟩ := (K.out.keep HB.out).at_ hlt
            obtain ⟨c0, c1, c2, c3, c4, c5⟩ := hc
            have HX := Lib.hid hx
            have hlt1 : (j : Int) < al.length := by omega
            have HW : Hid ((x.val.toList == [119]) = writesB x) := Lib.hid (by unfold writesB teq; rw [show (⟨#[119]⟩ : ByteArray).toList = [119] by rw [ByteArray.toList_eq]])
            clear hok hx
            cases ht : writesB x with
            | true =>
              have HT := Lib.hid ht
              have ht' : (x.val.toList == [119]) = true := HW.out.trans ht
              clear ht
              go_wp2
              go_ret
              exact ⟨by rw [HV2.out, show al.any writesB = true from List.any_eq_true.2 ⟨x, List.mem_of_getElem? HX.out, HT.out⟩]; rfl, then_ B2.out HB.out⟩
            | false =>
              have HT := Lib.hid ht
              have ht' : (x.val.toList == [119]) = false := HW.out.trans ht
              clear ht
              go_wp2
              go_roundw
              case rel => exact ⟨j + 1, by omega, by go_num, by show _ = true; rw [all_take_s al _ j x HX.out, HA.out.out, HT.out]; rfl, HB.out⟩
              case measure => simp [intOf]; omega
          · have e : j = al.length := by omega
            subst e
            go_wp2
            go_ret
            exact ⟨by rw [HV2.out, any_none _ HA.out (Nat.le_refl _)]; rfl, then_ B2.out HB.out⟩
      · have k2 : (kind == 2) = false := by simp; omega
        by_cases h4 : kind = 4
        · have HV2 : Hid (res = decide ((al.length : Int) < m)) := Lib.hid (by rw [HV.out]; unfold letsB; rw [if_neg h1, if_neg h2, if_pos h4])
          subst h4
          go_wp2
          go_ret
          exact ⟨by rw [HV2.out]; rfl, B2.out⟩
        · have HV2 : Hid (res = false) := Lib.hid (by rw [HV.out]; unfold letsB; rw [if_neg h1, if_neg h2, if_neg h4])
          have k4 : (kind == 4) = false := by simp; omega
          clear h1 h2 h4
          go_wp2
          go_ret
          exact ⟨by rw [HV2.out]; rfl, B2.out⟩
theorem signR_any (kind : Int) (w : World) :
    Calls Try.prog 24 #[.int .i64 kind] w fun e w' => e = .returned (.string (signB kind)) ∧ w = w' := by
  by_cases h2 : kind = 2
  · have HV : Hid (signB kind = ⟨#[114]⟩) := Lib.hid (by unfold signB; rw [if_pos h2])
    subst h2
    go_enter Try.func24, Try.ntmps24
    go_wp2
    go_ret
    exact ⟨by rw [HV.out]; rfl, rfl⟩
  · by_cases h3 : kind = 3
    · have HV : Hid (signB kind = ⟨#[119]⟩) := Lib.hid (by unfold signB; rw [if_neg h2, if_pos h3])
      subst h3
      go_enter Try.func24, Try.ntmps24
      go_wp2
      go_ret
      exact ⟨by rw [HV.out]; rfl, rfl⟩
    · have HV : Hid (signB kind = ⟨#[]⟩) := Lib.hid (by unfold signB; rw [if_neg h2, if_neg h3])
      have k2 : (kind == 2) = false := by simp; omega
      have k3 : (kind == 3) = false := by simp; omega
      clear h2 h3
      go_enter Try.func24, Try.ntmps24
      go_wp2
      go_ret
      exact ⟨by rw [HV.out]; rfl, rfl⟩
end Go.Proofs.Ytefldchhopgliaa.P
