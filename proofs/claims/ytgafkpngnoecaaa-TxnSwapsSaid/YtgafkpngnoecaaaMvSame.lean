/- Stores: the same; few; things to be done that are short. -/
import Derived.Test.YtgafkpngnoecaaaMvShrink
namespace Go.Proofs.Ytgafkpngnoecaaa.P
open Go.RowKit Go.Sort
set_option maxHeartbeats 1000000
set_option linter.unusedVariables false
set_option linter.unusedSimpArgs false
set_option maxRecDepth 100000

theorem neq_ev_same (w : World) (r : Int) (g : Bool) (a b : ByteArray) (i j k m : Int) :
    (binOp .neq 74 (.agg #[.int .i64 r, .bool g, .string a, .string b, .int .i64 i, .int .i64 j, .int .i64 k, .int .i64 m]) (.agg #[.int .i64 r, .bool g, .string a, .string b, .int .i64 i, .int .i64 j, .int .i64 k, .int .i64 m])).run Try.prog w = .ok (.bool false) w := by
  simp [go_sem, Try.underlying74, Try.underlying63]
theorem evs_same (A B : Option Addr) (n c d : Nat) (l : List Ev) (w : World) (h : Evs w A n c l) (g : Evs w B n d l) (hm : n ≤ 1000000) :
    Calls Try.prog 23 #[.slice A n c, .slice B n d] w fun e w' => e = .returned (.bool true) ∧ Below w.heap.size w w' := by
  have H := Lib.hid h
  have G := Lib.hid g
  clear h g
  go_enter Try.func23, Try.ntmps23
  go_wp2
  go_loopw [5] (fun i wr => ∃ k q : Nat, k ≤ n ∧ i = .int .i64 k ∧ wr = w.drewN q) (fun i _ => n - (intOf i).toNat)
  case atStart => exact ⟨0, 0, Nat.zero_le _, rfl, rfl⟩
  case round =>
    obtain ⟨k, q, hk, rfl, rfl⟩ := hrel
    by_cases hlt : k < n
    · obtain ⟨a, x, rfl, hbl, hx, hok, hc⟩ := H.out.at_ hlt
      obtain ⟨b, y, rfl, gbl, hy, gok, gc⟩ := G.out.at_ hlt
      obtain rfl : x = y := Option.some.inj (hx.symm.trans hy)
      obtain ⟨c0, c1, c2, c3, c4, c5, c6, c7⟩ := hc
      obtain ⟨d0, d1, d2, d3, d4, d5, d6, d7⟩ := gc
      have hne := neq_ev_same
      clear hx hy hok gok hbl gbl
      go_wp2
      go_quiet (fail)
      go_wp2
      go_roundw
      case rel => exact ⟨k + 1, _, by omega, by go_num, rfl⟩
      case measure => simp [intOf]; omega
    · obtain rfl : k = n := by omega
      go_wp2
      go_ret
      exact ⟨rfl, below_drewN (Below.refl _ _) _⟩
theorem st_same (s : St) (A A' : Option Addr) (n c c' : Nat) (B B' : Option Addr) (m d d' : Nat) (w : World) (h : StAt w s A n c B m d) (g : StAt w s A' n c' B' m d') (hn : n ≤ 1000000) (hm : m ≤ 1000000) :
    Calls Try.prog 22 #[s.agg A n c B m d, s.agg A' n c' B' m d'] w fun e w' => e = .returned (.bool true) ∧ Below w.heap.size w w' := by
  have bn := then_ (new1 w (.cells (stCells s A n c B m d) 25)) (new1 _ (.cells (stCells s A' n c' B' m d') 25))
  have H := Lib.hid (h.keep bn)
  have G := Lib.hid (g.keep bn)
  have B0 := Lib.hid bn
  have O := Lib.hid ((own_new w (stCells s A n c B m d) 25).alloc (.cells (stCells s A' n c' B' m d') 25))
  have R := Lib.hid (own_new2 w (.cells (stCells s A n c B m d) 25) (stCells s A' n c' B' m d') 25)
  have q0 := O.out.cell 0 _ rfl
  have q1 := O.out.cell 1 _ rfl
  have q2 := O.out.cell 2 _ rfl
  have q3 := O.out.cell 3 _ rfl
  have r0 := R.out.cell 0 _ rfl
  have r1 := R.out.cell 1 _ rfl
  have r2 := R.out.cell 2 _ rfl
  have r3 := R.out.cell 3 _ rfl
  have e0 : (s.rev == s.rev) = true := by simp
  have e1 : (s.low == s.low) = true := by simp
  clear h g bn
  go_enter Try.func22, Try.ntmps22
  go_wp2_with fail
  refine (kvs_same A A' n c c' s.base _ H.out.kv G.out.kv hn).mono ?_; rintro e w1 ⟨rfl, hb⟩
  have B1 := Lib.hid (then_ B0.out hb)
  have H1 := Lib.hid (H.out.keep hb)
  have G1 := Lib.hid (G.out.keep hb)
  have O1 := Lib.hid (O.out.below hb)
  have R1 := Lib.hid (R.out.below hb)
  clear hb q0 q1 q2 q3 r0 r1 r2 r3
  have q3 := O1.out.cell 3 _ rfl
  have r3 := R1.out.cell 3 _ rfl
  go_wp2_with fail
  refine (evs_same B B' m d d' s.log _ H1.out.ev G1.out.ev hm).mono ?_; rintro e w2 ⟨rfl, hb⟩
  have B2 := Lib.hid (then_ B1.out hb); clear hb
  go_wp2
  go_ret
  exact ⟨rfl, B2.out⟩
def fewS (s : St) : Bool := fewB 40 s.base && fewE 70 s.log
theorem few_st (s : St) (A : Option Addr) (n c : Nat) (B : Option Addr) (m d : Nat) (w : World) (h : StAt w s A n c B m d) :
    Calls Try.prog 8 #[s.agg A n c B m d] w fun e w' => e = .returned (.bool (fewS s)) ∧ Below w.heap.size w w' := by
  have B0 := Lib.hid (new1 w (.cells (stCells s A n c B m d) 25))
  have H := Lib.hid (h.keep (new1 w (.cells (stCells s A n c B m d) 25)))
  have O := Lib.hid (own_new w (stCells s A n c B m d) 25)
  have q2 := O.out.cell 2 _ rfl
  have q3 := O.out.cell 3 _ rfl
  clear h
  cases hf : fewB 40 s.base with
  | false =>
    have HR : Hid (fewS s = false) := Lib.hid (by unfold fewS; rw [hf]; rfl)
    have HF := Lib.hid hf; clear hf
    go_enter Try.func8, Try.ntmps8
    go_wp2_with fail
    refine (few_any A n c s.base 40 _ H.out.kv (by omega)).mono ?_; rintro e w1 ⟨rfl, rfl⟩
    rw [HF.out]
    go_wp2
    go_ret
    exact ⟨retB HR.out.symm, B0.out⟩
  | true =>
    have HR : Hid (fewS s = fewE 70 s.log) := Lib.hid (by unfold fewS; rw [hf]; rfl)
    have HF := Lib.hid hf; clear hf
    go_enter Try.func8, Try.ntmps8
    go_wp2_with fail
    refine (few_any A n c s.base 40 _ H.out.kv (by omega)).mono ?_; rintro e w1 ⟨rfl, rfl⟩
    rw [HF.out]
    go_wp2_with fail
    refine (fewe_any B m d s.log 70 _ H.out.ev (by omega)).mono ?_; rintro e w1 ⟨rfl, rfl⟩
    go_wp2
    go_ret
    exact ⟨retB HR.out.symm, B0.out⟩
def shMu (x : Mu) : Bool := decide (x.key.size ≤ 60) && decide (x.val.size ≤ 60)
theorem short_any (A : Option Addr) (n c : Nat) (l : List Mu) (w : World) (h : Mus w A n c l) :
    Calls Try.prog 17 #[.slice A n c] w fun e w' => e = .returned (.bool (l.all shMu)) ∧ w = w' := by
  have hmax := Nat.le_trans h.le h.max
  unfold maxLen at hmax
  have HL := Lib.hid h.len
  have H := Lib.hid h
  clear h
  go_enter Try.func17, Try.ntmps17
  go_wp2
  go_loop [3] (fun i => ∃ k : Nat, k ≤ n ∧ i = .int .i64 k ∧ AllTo shMu l k) (fun i => n - (intOf i).toNat)
  case atStart => exact ⟨0, Nat.zero_le _, rfl, rfl⟩
  case round =>
    obtain ⟨k, hk, rfl, hall⟩ := hrel
    have HA := Lib.hid hall
    clear hall
    by_cases hlt : k < n
    · obtain ⟨a, x, rfl, hbl, hx, hok, hc⟩ := H.out.at_ hlt
      obtain ⟨c0, c1, c2, c3⟩ := hc
      have z0 := hok.key; have z1 := hok.val
      unfold maxLen at z0 z1
      have HX := Lib.hid hx
      have HS := Lib.hid (fun (e : shMu x = false) => all_stop_s l shMu k x hx e)
      have HT := Lib.hid (all_take_s l shMu k x hx)
      clear hx hbl hok
      by_cases hs : x.key.size ≤ 60
      · by_cases hv : x.val.size ≤ 60
        · have HM : Hid (AllTo shMu l (k + 1)) := Lib.hid (by show _ = true; rw [HT.out, HA.out.out]; simp [shMu, hs, hv])
          go_wp2
          go_round
          case rel => exact ⟨k + 1, by omega, by go_num, HM.out⟩
          case measure => simp [intOf]; omega
        · have HF : Hid (l.all shMu = false) := Lib.hid (HS.out (by simp [shMu, hv]))
          go_wp2
          go_ret
          exact ⟨retB HF.out.symm, rfl⟩
      · have HF : Hid (l.all shMu = false) := Lib.hid (HS.out (by simp [shMu, hs]))
        go_wp2
        go_ret
        exact ⟨retB HF.out.symm, rfl⟩
    · obtain rfl : k = n := by omega
      have HF : Hid (l.all shMu = true) := Lib.hid (by have h' := HA.out.out; rwa [take_full _ _ HL.out] at h')
      go_wp2
      go_ret
      exact ⟨retB HF.out.symm, rfl⟩
end Go.Proofs.Ytgafkpngnoecaaa.P
