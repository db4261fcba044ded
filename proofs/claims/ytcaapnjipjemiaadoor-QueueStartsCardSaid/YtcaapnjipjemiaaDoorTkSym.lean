/- The library's stable sort of a row of things of k cells: what lies there behind it, function by function. -/
import Derived.Test.YtcaapnjipjemiaaDoorTkSort
import Derived.Shelf.SlSortCmp.KitK
import Derived.Deep.LoopGhost
namespace Go.Proofs.YtcaapnjipjemiaaDoor.P
open Go.Shelf Go.RowKit Go.Lib Go.Sort
set_option linter.unusedVariables false
set_option linter.unusedSimpArgs false
variable {P : Program} {α : Type} [Inhabited α]
/-- What a call leaves of the row. -/
def SortEnd (enc : α → List Value) (k : Nat) (w0 : World) (blk off : Nat) (lt : α → α → Bool) (a b : Nat) (d : Array α) (e : Ending) (w' : World) : Prop :=
  e = .returned (.tuple #[]) ∧ ∃ d', Merged lt a b d d' ∧ SWK enc k w0 blk off d' w'
set_option maxHeartbeats 4000000 in
set_option maxRecDepth 1000000 in
theorem sym_one {k : Nat} (L : StT P k) (enc : α → List Value) (g : Nat) (cb : Array Value) (blk off cap : Nat) (d0 d : Array α) (w0 w : World)
    (R : RowK enc k w0 blk off d0) (hs : d0.size = d.size) (S : SWK enc k w0 blk off d w) (hsz : d.size < 4611686018427387904) (cf : α → α → Int) (hS : SWO (ltOf cf)) (eg : ∀ args w, (callFunc g args).run P w = .ok (.enter g args) w) (hcmp : CmpLays P g cb enc k cf blk off d0.size w0) (a m b : Nat) (hm : m ≤ a + 1) (hm' : a + 1 ≤ m) (hmb : m < b) (hb : b ≤ d.size) (h1 : SortedIn (ltOf cf) a m d) (h2 : SortedIn (ltOf cf) m b d) :
    Calls P 63 #[.slice (some ⟨blk, off, none⟩) d.size cap, .int .i64 (a), .int .i64 (m), .int .i64 (b), .func (.func g) #[] cb] w (SortEnd enc k w0 blk off (ltOf cf) (a) (b) d) := by
  have mixed := L.mixed; have t0 := L.t0; have a0 := L.a0; have z0 := L.z0; have v0 := L.v0; have t3 := L.t3; have a3 := L.a3; have z3 := L.z3; have v3 := L.v3; have t4 := L.t4; have a4 := L.a4; have z4 := L.z4; have v4 := L.v4; have t22 := L.t22; have a22 := L.a22; have z22 := L.z22; have v22 := L.v22; have t25 := L.t25; have a25 := L.a25; have z25 := L.z25; have v25 := L.v25; have t66 := L.t66; have a66 := L.a66; have z66 := L.z66; have aE := L.aE; have zE := L.zE
  have u22 := run_underlying L.t22; have u3 := run_underlying L.t3; have u66 := run_underlying L.t66
  have FG := L.fSym
  have S0 : Aside (SWK enc k w0 blk off d w) := S
  have HC : Aside _ := hcmp
  have H1 : Aside (SortedIn (ltOf cf) a m d) := h1
  have H2 : Aside (SortedIn (ltOf cf) m b d) := h2
  have HS : Aside (SWO (ltOf cf)) := hS
  clear S hcmp h1 h2 hS
  have r0 : IntKind.i64.wrap ((m : Int) - (a : Int)) = 1 := by rw [IntKind.wrap_i64]; omega
  go_enter FG, Tryd.ntmps63
  go_wp2
  clear r0
  go_loopg [10, 11] (b - m) (fun kx s10 s11 wr => ∃ i j : Nat, s10 = .int .i64 i ∧ s11 = .int .i64 j ∧ m ≤ i ∧ i ≤ j ∧ j ≤ b ∧ j - i ≤ kx ∧ Aside (SWK enc k w0 blk off d wr) ∧
    Aside ((∀ t, m ≤ t → t < i → ltOf cf d[t]! d[a]! = true) ∧ (∀ t, j ≤ t → t < b → ltOf cf d[t]! d[a]! = false)))
  case atStart => exact ⟨m, b, rfl, rfl, Nat.le_refl _, by omega, Nat.le_refl _, Nat.le_refl _, S0, (⟨fun t q1 q2 => by omega, fun t q1 q2 => by omega⟩ : (∀ t, m ≤ t → t < m → ltOf cf d[t]! d[a]! = true) ∧ (∀ t, b ≤ t → t < b → ltOf cf d[t]! d[a]! = false))⟩
  case round =>
    clear S0
    obtain ⟨i, j, rfl, rfl, hmi, hij, hjb, hkx, S1, I⟩ := hrel
    by_cases hlt : i < j
    · have hltz : (i : Int) < (j : Int) := by omega
      obtain ⟨h, hh⟩ : ∃ h, h = (i + j) / 2 := ⟨_, rfl⟩
      have hhz : ((i : Int) + (j : Int)) / 2 = (h : Int) := by omega
      have h3 : i ≤ h := by omega
      have h4 : h < j := by omega
      have HH : Aside (h = (i + j) / 2) := hh
      clear hh
      by_cases hlv : cf d[h]! d[a]! < 0
      · go_wp2_with fail
        have ea44 : ((h : Int)).toNat = h := by omega
        have pa44 : (0 : Int) ≤ (h : Int) := by omega
        have ba44 : (h : Int) < (d.size : Int) := by omega
        have ra44 : IntKind.i64.wrap ((h : Int)) = (h : Int) := by rw [IntKind.wrap_i64]; omega
        have ec44 : ((a : Int)).toNat = a := by omega
        have pc44 : (0 : Int) ≤ (a : Int) := by omega
        have bc44 : (a : Int) < (d.size : Int) := by omega
        have rc44 : IntKind.i64.wrap ((a : Int)) = (a : Int) := by rw [IntKind.wrap_i64]; omega
        have l44a := fun n os => S1.out.ld R (by omega) P (h) (by omega) n os
        have l44b := fun n os => S1.out.ld R (by omega) P (a) (by omega) n os
        have hcg := fun n os => S1.out.cmp HC.out (by omega) d[h]! d[a]! n os
        have n44a : (enc d[h]!).length = k := R.hk _
        have n44b : (enc d[a]!).length = k := R.hk _
        go_wp2_with fail
        go_quiet_grown (first | (go_at_fn g; refine Calls.grown_of (hcg _ _)))
        have S2 : Aside (SWK enc k w0 blk off d (grow (wr.drewN nq) osq)) := S1.out.grown nq osq
        clear l44a l44b hcg S1
        generalize grow (wr.drewN nq) osq = w2 at S2 ⊢
        go_wp2
        go_roundg (j - (h + 1))
        case measure => omega
        case rel =>
          have I2 : Aside ((∀ t, m ≤ t → t < h + 1 → ltOf cf d[t]! d[a]! = true) ∧ (∀ t, j ≤ t → t < b → ltOf cf d[t]! d[a]! = false)) := ⟨fun t q1 q2 => search_up HS.out (decide_eq_true hlv) (sorted_le HS.out H2.out q1 (by omega) (by omega)), I.out.2⟩
          exact ⟨h + 1, j, by first | rfl | go_num, rfl, by omega, by omega, hjb, Nat.le_refl _, S2, I2⟩
      · go_wp2_with fail
        have ea44 : ((h : Int)).toNat = h := by omega
        have pa44 : (0 : Int) ≤ (h : Int) := by omega
        have ba44 : (h : Int) < (d.size : Int) := by omega
        have ra44 : IntKind.i64.wrap ((h : Int)) = (h : Int) := by rw [IntKind.wrap_i64]; omega
        have ec44 : ((a : Int)).toNat = a := by omega
        have pc44 : (0 : Int) ≤ (a : Int) := by omega
        have bc44 : (a : Int) < (d.size : Int) := by omega
        have rc44 : IntKind.i64.wrap ((a : Int)) = (a : Int) := by rw [IntKind.wrap_i64]; omega
        have l44a := fun n os => S1.out.ld R (by omega) P (h) (by omega) n os
        have l44b := fun n os => S1.out.ld R (by omega) P (a) (by omega) n os
        have hcg := fun n os => S1.out.cmp HC.out (by omega) d[h]! d[a]! n os
        have n44a : (enc d[h]!).length = k := R.hk _
        have n44b : (enc d[a]!).length = k := R.hk _
        go_wp2_with fail
        go_quiet_grown (first | (go_at_fn g; refine Calls.grown_of (hcg _ _)))
        have S2 : Aside (SWK enc k w0 blk off d (grow (wr.drewN nq) osq)) := S1.out.grown nq osq
        clear l44a l44b hcg S1
        generalize grow (wr.drewN nq) osq = w2 at S2 ⊢
        go_wp2
        go_roundg (h - i)
        case measure => omega
        case rel =>
          have I2 : Aside ((∀ t, m ≤ t → t < i → ltOf cf d[t]! d[a]! = true) ∧ (∀ t, h ≤ t → t < b → ltOf cf d[t]! d[a]! = false)) := ⟨I.out.1, fun t q1 q2 => HS.out.ntrans _ _ _ (sorted_le HS.out H2.out (by omega) q1 q2) (decide_eq_false (by omega))⟩
          exact ⟨i, h, rfl, rfl, hmi, by omega, by omega, Nat.le_refl _, S2, I2⟩
    · obtain rfl : j = i := by omega
      have I2 : Aside (Merged (ltOf cf) a b d (rotA d a m j)) := by
        show Merged _ _ _ _ _
        rw [show m = a + 1 by omega]
        exact merged_one HS.out (by omega) hjb hb (by have := H2.out; rw [show m = a + 1 by omega] at this; exact this) (fun t q1 q2 => I.out.1 t (by omega) q2) I.out.2
      have S2 : Aside (SWK enc k w0 blk off (rotA d a m (a + 1)) wr) := by
        show SWK _ _ _ _ _ _ _
        rw [rot_none d a m (a + 1) (by omega) (by omega) (by omega) (.inr (by omega))]
        exact S1.out
      clear I H1 H2 HC
      have r1 : IntKind.i64.wrap ((j : Int) - 1) = (j : Int) - 1 := by rw [IntKind.wrap_i64]; omega
      go_wp2
      go_loopg [13] (j - 1 - a) (fun kx s13 wr => ∃ q : Nat, s13 = .int .i64 q ∧ a ≤ q ∧ q + 1 ≤ j ∧ j - 1 - q ≤ kx ∧ Aside (SWK enc k w0 blk off (rotA d a m (q + 1)) wr))
      case atStart => exact ⟨a, rfl, Nat.le_refl _, by omega, Nat.le_refl _, S2⟩
      case round =>
        clear S2 S1
        obtain ⟨q, rfl, haq, hqj, hkx, S1⟩ := hrel
        by_cases hlt : q + 1 < j
        · have hltz : (q : Int) < (j : Int) - 1 := by omega
          obtain ⟨dk, hdk⟩ : ∃ dk, dk = rotA d a m (q + 1) := ⟨_, rfl⟩
          have hds : dk.size = d.size := by rw [hdk, rotA_size]
          rw [← hdk] at S1
          have HD : Aside (dk = rotA d a m (q + 1)) := hdk
          clear hdk
          go_wp2_with fail
          have ea45 : ((q : Int)).toNat = q := by omega
          have pa45 : (0 : Int) ≤ (q : Int) := by omega
          have ba45 : (q : Int) < (d.size : Int) := by omega
          have ra45 : IntKind.i64.wrap ((q : Int)) = (q : Int) := by rw [IntKind.wrap_i64]; omega
          have ec45 : ((q : Int) + 1).toNat = q + 1 := by omega
          have pc45 : (0 : Int) ≤ (q : Int) + 1 := by omega
          have bc45 : (q : Int) + 1 < (d.size : Int) := by omega
          have rc45 : IntKind.i64.wrap ((q : Int) + 1) = (q : Int) + 1 := by rw [IntKind.wrap_i64]; omega
          have S2 : Aside (SWK enc k w0 blk off (swp dk (q) (q + 1)) ((wr.drew.setCells blk (off + (q) * k) (enc dk[q + 1]!)).setCells blk (off + (q + 1) * k) (enc dk[q]!))) := S1.out.swapped R (q) (q + 1) (by omega) (by omega)
          have l45a := S1.out.ld1 R (by omega) P (q) (by omega)
          have l45b := S1.out.ld1 R (by omega) P (q + 1) (by omega)
          have s45a := S1.out.st1 R (by omega) P (q) (by omega) dk[q + 1]!
          have s45b := S1.out.st2 R (by omega) P (q) (q + 1) (by omega) (by omega) dk[q + 1]! dk[q]!
          have n45a : (enc dk[q]!).length = k := R.hk _
          have n45b : (enc dk[q + 1]!).length = k := R.hk _
          generalize enc dk[q]! = cI45 at S2 l45a s45b n45a
          generalize enc dk[q + 1]! = cJ45 at S2 l45b s45a s45b n45b
          clear S1
          go_wp2_with fail
          go_big_region_o
          clear l45a l45b s45a s45b
          generalize (wr.drew.setCells blk (off + (q) * k) cJ45).setCells blk (off + (q + 1) * k) cI45 = w2 at S2 ⊢
          go_wp2
          go_roundg (j - 1 - (q + 1))
          case measure => omega
          case rel => exact ⟨q + 1, by first | rfl | go_num, by omega, by omega, Nat.le_refl _, by
            show SWK _ _ _ _ _ _ _
            have := S2.out
            rw [HD.out, show m = a + 1 by omega, swp_rot1 d a q haq (by omega)] at this
            rw [show m = a + 1 by omega]; exact this⟩
        · have hltz : ¬ (q : Int) < (j : Int) - 1 := by omega
          go_wp2
          go_end0
          exact ⟨rfl, _, I2.out, by have := S1.out; rwa [show q + 1 = j by omega] at this⟩
set_option maxHeartbeats 4000000 in
set_option maxRecDepth 1000000 in
theorem sym_last {k : Nat} (L : StT P k) (enc : α → List Value) (g : Nat) (cb : Array Value) (blk off cap : Nat) (d0 d : Array α) (w0 w : World)
    (R : RowK enc k w0 blk off d0) (hs : d0.size = d.size) (S : SWK enc k w0 blk off d w) (hsz : d.size < 4611686018427387904) (cf : α → α → Int) (hS : SWO (ltOf cf)) (eg : ∀ args w, (callFunc g args).run P w = .ok (.enter g args) w) (hcmp : CmpLays P g cb enc k cf blk off d0.size w0) (a m b : Nat) (hm : a + 1 < m) (hmb : b ≤ m + 1) (hmb' : m + 1 ≤ b) (hb : b ≤ d.size) (h1 : SortedIn (ltOf cf) a m d) (h2 : SortedIn (ltOf cf) m b d) :
    Calls P 63 #[.slice (some ⟨blk, off, none⟩) d.size cap, .int .i64 (a), .int .i64 (m), .int .i64 (b), .func (.func g) #[] cb] w (SortEnd enc k w0 blk off (ltOf cf) (a) (b) d) := by
  have mixed := L.mixed; have t0 := L.t0; have a0 := L.a0; have z0 := L.z0; have v0 := L.v0; have t3 := L.t3; have a3 := L.a3; have z3 := L.z3; have v3 := L.v3; have t4 := L.t4; have a4 := L.a4; have z4 := L.z4; have v4 := L.v4; have t22 := L.t22; have a22 := L.a22; have z22 := L.z22; have v22 := L.v22; have t25 := L.t25; have a25 := L.a25; have z25 := L.z25; have v25 := L.v25; have t66 := L.t66; have a66 := L.a66; have z66 := L.z66; have aE := L.aE; have zE := L.zE
  have u22 := run_underlying L.t22; have u3 := run_underlying L.t3; have u66 := run_underlying L.t66
  have FG := L.fSym
  have S0 : Aside (SWK enc k w0 blk off d w) := S
  have HC : Aside _ := hcmp
  have H1 : Aside (SortedIn (ltOf cf) a m d) := h1
  have H2 : Aside (SortedIn (ltOf cf) m b d) := h2
  have HS : Aside (SWO (ltOf cf)) := hS
  clear S hcmp h1 h2 hS
  have r0 : IntKind.i64.wrap ((m : Int) - (a : Int)) = (m : Int) - (a : Int) := by rw [IntKind.wrap_i64]; omega
  have r0' : (((m : Int) - (a : Int)) == 1) = false := by simp; omega
  have r1 : IntKind.i64.wrap ((b : Int) - (m : Int)) = 1 := by rw [IntKind.wrap_i64]; omega
  go_enter FG, Tryd.ntmps63
  go_wp2
  clear r0 r0' r1
  go_loopg [14, 15] (m - a) (fun kx s14 s15 wr => ∃ i j : Nat, s14 = .int .i64 i ∧ s15 = .int .i64 j ∧ a ≤ i ∧ i ≤ j ∧ j ≤ m ∧ j - i ≤ kx ∧ Aside (SWK enc k w0 blk off d wr) ∧
    Aside ((∀ t, a ≤ t → t < i → ltOf cf d[m]! d[t]! = false) ∧ (∀ t, j ≤ t → t < m → ltOf cf d[m]! d[t]! = true)))
  case atStart => exact ⟨a, m, rfl, rfl, Nat.le_refl _, by omega, Nat.le_refl _, Nat.le_refl _, S0, (⟨fun t q1 q2 => by omega, fun t q1 q2 => by omega⟩ : (∀ t, a ≤ t → t < a → ltOf cf d[m]! d[t]! = false) ∧ (∀ t, m ≤ t → t < m → ltOf cf d[m]! d[t]! = true))⟩
  case round =>
    clear S0
    obtain ⟨i, j, rfl, rfl, hmi, hij, hjb, hkx, S1, I⟩ := hrel
    by_cases hlt : i < j
    · have hltz : (i : Int) < (j : Int) := by omega
      obtain ⟨h, hh⟩ : ∃ h, h = (i + j) / 2 := ⟨_, rfl⟩
      have hhz : ((i : Int) + (j : Int)) / 2 = (h : Int) := by omega
      have h3 : i ≤ h := by omega
      have h4 : h < j := by omega
      have HH : Aside (h = (i + j) / 2) := hh
      clear hh
      by_cases hlv : cf d[m]! d[h]! < 0
      · go_wp2_with fail
        have ea44 : ((m : Int)).toNat = m := by omega
        have pa44 : (0 : Int) ≤ (m : Int) := by omega
        have ba44 : (m : Int) < (d.size : Int) := by omega
        have ra44 : IntKind.i64.wrap ((m : Int)) = (m : Int) := by rw [IntKind.wrap_i64]; omega
        have ec44 : ((h : Int)).toNat = h := by omega
        have pc44 : (0 : Int) ≤ (h : Int) := by omega
        have bc44 : (h : Int) < (d.size : Int) := by omega
        have rc44 : IntKind.i64.wrap ((h : Int)) = (h : Int) := by rw [IntKind.wrap_i64]; omega
        have l44a := fun n os => S1.out.ld R (by omega) P (m) (by omega) n os
        have l44b := fun n os => S1.out.ld R (by omega) P (h) (by omega) n os
        have hcg := fun n os => S1.out.cmp HC.out (by omega) d[m]! d[h]! n os
        have n44a : (enc d[m]!).length = k := R.hk _
        have n44b : (enc d[h]!).length = k := R.hk _
        go_wp2_with fail
        go_quiet_grown (first | (go_at_fn g; refine Calls.grown_of (hcg _ _)))
        have S2 : Aside (SWK enc k w0 blk off d (grow (wr.drewN nq) osq)) := S1.out.grown nq osq
        clear l44a l44b hcg S1
        generalize grow (wr.drewN nq) osq = w2 at S2 ⊢
        go_wp2
        go_roundg (h - i)
        case measure => omega
        case rel =>
          have I2 : Aside ((∀ t, a ≤ t → t < i → ltOf cf d[m]! d[t]! = false) ∧ (∀ t, h ≤ t → t < m → ltOf cf d[m]! d[t]! = true)) := ⟨I.out.1, fun t q1 q2 => by
            have e2 : ltOf cf d[t]! d[h]! = false := sorted_le HS.out H1.out (by omega) q1 q2
            cases hx : ltOf cf d[m]! d[t]! with
            | true => rfl
            | false => have := HS.out.ntrans _ _ _ hx e2; rw [show ltOf cf d[m]! d[h]! = true from decide_eq_true hlv] at this; cases this⟩
          exact ⟨i, h, rfl, rfl, hmi, by omega, by omega, Nat.le_refl _, S2, I2⟩
      · go_wp2_with fail
        have ea44 : ((m : Int)).toNat = m := by omega
        have pa44 : (0 : Int) ≤ (m : Int) := by omega
        have ba44 : (m : Int) < (d.size : Int) := by omega
        have ra44 : IntKind.i64.wrap ((m : Int)) = (m : Int) := by rw [IntKind.wrap_i64]; omega
        have ec44 : ((h : Int)).toNat = h := by omega
        have pc44 : (0 : Int) ≤ (h : Int) := by omega
        have bc44 : (h : Int) < (d.size : Int) := by omega
        have rc44 : IntKind.i64.wrap ((h : Int)) = (h : Int) := by rw [IntKind.wrap_i64]; omega
        have l44a := fun n os => S1.out.ld R (by omega) P (m) (by omega) n os
        have l44b := fun n os => S1.out.ld R (by omega) P (h) (by omega) n os
        have hcg := fun n os => S1.out.cmp HC.out (by omega) d[m]! d[h]! n os
        have n44a : (enc d[m]!).length = k := R.hk _
        have n44b : (enc d[h]!).length = k := R.hk _
        have hdb : decide (cf d[m]! d[h]! < 0) = false := decide_eq_false (by omega)
        go_wp2_with fail
        go_quiet_grown (first | (go_at_fn g; refine Calls.grown_of (hcg _ _)))
        have S2 : Aside (SWK enc k w0 blk off d (grow (wr.drewN nq) osq)) := S1.out.grown nq osq
        clear l44a l44b hcg S1
        generalize grow (wr.drewN nq) osq = w2 at S2 ⊢
        go_wp2
        go_roundg (j - (h + 1))
        case measure => omega
        case rel =>
          have I2 : Aside ((∀ t, a ≤ t → t < h + 1 → ltOf cf d[m]! d[t]! = false) ∧ (∀ t, j ≤ t → t < m → ltOf cf d[m]! d[t]! = true)) := ⟨fun t q1 q2 => HS.out.ntrans _ d[h]! _ (show ltOf cf d[m]! d[h]! = false from decide_eq_false (by omega)) (sorted_le HS.out H1.out q1 (by omega) (by omega)), I.out.2⟩
          exact ⟨h + 1, j, by first | rfl | go_num, rfl, by omega, by omega, hjb, Nat.le_refl _, S2, I2⟩
    · obtain rfl : j = i := by omega
      have I2 : Aside (Merged (ltOf cf) a b d (rotA d j m b)) := by
        show Merged _ _ _ _ _
        rw [show b = m + 1 by omega]
        exact merged_last HS.out hmi hjb (by omega) H1.out I.out.1 I.out.2
      have S2 : Aside (SWK enc k w0 blk off (rotA d m m b) wr) := by
        show SWK _ _ _ _ _ _ _
        rw [rot_none d m m b hb (Nat.le_refl _) (by omega) (.inl rfl)]
        exact S1.out
      clear I H1 H2 HC
      go_wp2
      go_loopg [17] (m - j) (fun kx s17 wr => ∃ q : Nat, s17 = .int .i64 q ∧ j ≤ q ∧ q ≤ m ∧ q - j ≤ kx ∧ Aside (SWK enc k w0 blk off (rotA d q m b) wr))
      case atStart => exact ⟨m, rfl, hjb, Nat.le_refl _, Nat.le_refl _, S2⟩
      case round =>
        clear S2 S1
        obtain ⟨q, rfl, haq, hqj, hkx, S1⟩ := hrel
        by_cases hlt : j < q
        · have hltz : (j : Int) < (q : Int) := by omega
          obtain ⟨p, rfl⟩ : ∃ p, q = p + 1 := ⟨q - 1, by omega⟩
          obtain ⟨dk, hdk⟩ : ∃ dk, dk = rotA d (p + 1) m b := ⟨_, rfl⟩
          have hds : dk.size = d.size := by rw [hdk, rotA_size]
          rw [← hdk] at S1
          have HD : Aside (dk = rotA d (p + 1) m b) := hdk
          clear hdk
          go_wp2_with fail
          have ea45 : ((p : Int) + 1).toNat = p + 1 := by omega
          have pa45 : (0 : Int) ≤ (p : Int) + 1 := by omega
          have ba45 : (p : Int) + 1 < (d.size : Int) := by omega
          have ra45 : IntKind.i64.wrap ((p : Int) + 1) = (p : Int) + 1 := by rw [IntKind.wrap_i64]; omega
          have ec45 : ((p : Int)).toNat = p := by omega
          have pc45 : (0 : Int) ≤ (p : Int) := by omega
          have bc45 : (p : Int) < (d.size : Int) := by omega
          have rc45 : IntKind.i64.wrap ((p : Int)) = (p : Int) := by rw [IntKind.wrap_i64]; omega
          have S2 : Aside (SWK enc k w0 blk off (swp dk (p + 1) (p)) ((wr.drew.setCells blk (off + (p + 1) * k) (enc dk[p]!)).setCells blk (off + (p) * k) (enc dk[p + 1]!))) := S1.out.swapped R (p + 1) (p) (by omega) (by omega)
          have l45a := S1.out.ld1 R (by omega) P (p + 1) (by omega)
          have l45b := S1.out.ld1 R (by omega) P (p) (by omega)
          have s45a := S1.out.st1 R (by omega) P (p + 1) (by omega) dk[p]!
          have s45b := S1.out.st2 R (by omega) P (p + 1) (p) (by omega) (by omega) dk[p]! dk[p + 1]!
          have n45a : (enc dk[p + 1]!).length = k := R.hk _
          have n45b : (enc dk[p]!).length = k := R.hk _
          generalize enc dk[p + 1]! = cI45 at S2 l45a s45b n45a
          generalize enc dk[p]! = cJ45 at S2 l45b s45a s45b n45b
          clear S1
          go_wp2_with fail
          go_big_region_o
          clear l45a l45b s45a s45b
          generalize (wr.drew.setCells blk (off + (p + 1) * k) cJ45).setCells blk (off + (p) * k) cI45 = w2 at S2 ⊢
          go_wp2
          go_roundg (p - j)
          case measure => omega
          case rel => exact ⟨p, by first | rfl | go_num | (congr 1; omega), by omega, by omega, Nat.le_refl _, by
            show SWK _ _ _ _ _ _ _
            have := S2.out
            rw [HD.out, show b = m + 1 by omega, swp_rot2 d p m (by omega) (by omega)] at this
            rw [show b = m + 1 by omega]; exact this⟩
        · have hltz : ¬ (j : Int) < (q : Int) := by omega
          obtain rfl : q = j := by omega
          go_wp2
          go_end0
          exact ⟨rfl, _, I2.out, S1.out⟩
/-- The call by induction: what stands of shorter parts. -/
def SymUpto (P : Program) (N : Nat) (enc : α → List Value) (k : Nat) (w0 : World) (blk off cap g : Nat) (cb : Array Value) (cf : α → α → Int) (size : Nat) : Prop :=
  ∀ (d : Array α) (w : World) (a m b : Nat), d.size = size → b - a < N → a < m → m < b → b ≤ size → SortedIn (ltOf cf) a m d → SortedIn (ltOf cf) m b d → SWK enc k w0 blk off d w →
    Calls P 63 #[.slice (some ⟨blk, off, none⟩) size cap, .int .i64 a, .int .i64 m, .int .i64 b, .func (.func g) #[] cb] w (SortEnd enc k w0 blk off (ltOf cf) a b d)
set_option maxHeartbeats 4000000 in
set_option maxRecDepth 1000000 in
theorem sym_lo {k : Nat} (L : StT P k) (enc : α → List Value) (g : Nat) (cb : Array Value) (blk off cap : Nat) (d0 d : Array α) (w0 w : World)
    (R : RowK enc k w0 blk off d0) (hs : d0.size = d.size) (S : SWK enc k w0 blk off d w) (hsz : d.size < 4611686018427387904) (cf : α → α → Int) (hS : SWO (ltOf cf)) (eg : ∀ args w, (callFunc g args).run P w = .ok (.enter g args) w) (hcmp : CmpLays P g cb enc k cf blk off d0.size w0) (a m b : Nat) (ham : a + 1 < m) (hmb : m + 1 < b) (hb : b ≤ d.size) (h1 : SortedIn (ltOf cf) a m d) (h2 : SortedIn (ltOf cf) m b d) (mid : Nat) (hmid : mid = (a + b) / 2) (hcase : m ≤ mid)
    (IH : SymUpto P (b - a) enc k w0 blk off cap g cb cf d.size) :
    Calls P 63 #[.slice (some ⟨blk, off, none⟩) d.size cap, .int .i64 (a), .int .i64 (m), .int .i64 (b), .func (.func g) #[] cb] w (SortEnd enc k w0 blk off (ltOf cf) (a) (b) d) := by
  have mixed := L.mixed; have t0 := L.t0; have a0 := L.a0; have z0 := L.z0; have v0 := L.v0; have t3 := L.t3; have a3 := L.a3; have z3 := L.z3; have v3 := L.v3; have t4 := L.t4; have a4 := L.a4; have z4 := L.z4; have v4 := L.v4; have t22 := L.t22; have a22 := L.a22; have z22 := L.z22; have v22 := L.v22; have t25 := L.t25; have a25 := L.a25; have z25 := L.z25; have v25 := L.v25; have t66 := L.t66; have a66 := L.a66; have z66 := L.z66; have aE := L.aE; have zE := L.zE
  have u22 := run_underlying L.t22; have u3 := run_underlying L.t3; have u66 := run_underlying L.t66
  have FG := L.fSym
  have S0 : Aside (SWK enc k w0 blk off d w) := S
  have HC : Aside _ := hcmp
  have H1 : Aside (SortedIn (ltOf cf) a m d) := h1
  have H2 : Aside (SortedIn (ltOf cf) m b d) := h2
  have HS : Aside (SWO (ltOf cf)) := hS
  clear S hcmp h1 h2 hS
  have eRot : ∀ args w, (callFunc 66 args).run P w = .ok (.enter 66 args) w := enters_of L.fRot (by kernel_rfl) rfl
  have eSym : ∀ args w, (callFunc 63 args).run P w = .ok (.enter 63 args) w := enters_of L.fSym (by kernel_rfl) rfl
  have HI : Aside (SymUpto P (b - a) enc k w0 blk off cap g cb cf d.size) := IH
  have HM : Aside (mid = (a + b) / 2) := hmid
  have hmz : ((a : Int) + (b : Int)) / 2 = (mid : Int) := by omega
  have m1 : a < mid := by omega
  have m2 : mid < b := by omega
  have m3 : 2 * mid ≤ a + b := by omega
  have m4 : a + b ≤ 2 * mid + 1 := by omega
  clear IH hmid
  have r0 : IntKind.i64.wrap ((m : Int) - (a : Int)) = (m : Int) - (a : Int) := by rw [IntKind.wrap_i64]; omega
  have r0' : (((m : Int) - (a : Int)) == 1) = false := by simp; omega
  have r1 : IntKind.i64.wrap ((b : Int) - (m : Int)) = (b : Int) - (m : Int) := by rw [IntKind.wrap_i64]; omega
  have r1' : (((b : Int) - (m : Int)) == 1) = false := by simp; omega
  have r2 : IntKind.i64.wrap ((mid : Int) + (m : Int)) = (mid : Int) + (m : Int) := by rw [IntKind.wrap_i64]; omega
  have r3 : IntKind.i64.wrap ((mid : Int) + (m : Int) - 1) = (mid : Int) + (m : Int) - 1 := by rw [IntKind.wrap_i64]; omega
  have r4 : IntKind.i64.wrap ((mid : Int) + (m : Int) - (b : Int)) = (mid : Int) + (m : Int) - (b : Int) := by rw [IntKind.wrap_i64]; omega
  have hcz : decide (mid < m) = false := decide_eq_false (by omega)
  go_enter FG, Tryd.ntmps63
  go_wp2
  clear r0 r0' r1 r1' r3 r4 hcz
  go_loopg [20, 21] (m - (a)) (fun kx s20 s21 wr => ∃ i j : Nat, s20 = .int .i64 i ∧ s21 = .int .i64 j ∧ a ≤ i ∧ i ≤ j ∧ j ≤ m ∧ j - i ≤ kx ∧ Aside (SWK enc k w0 blk off d wr) ∧
    Aside ((∀ c, a ≤ c → c < i → ltOf cf d[mid + m - 1 - c]! d[c]! = false) ∧ (∀ c, j ≤ c → c < m → ltOf cf d[mid + m - 1 - c]! d[c]! = true)))
  case atStart => exact ⟨a, m, by first | rfl | (congr 1; omega), rfl, Nat.le_refl _, by omega, Nat.le_refl _, Nat.le_refl _, S0, (⟨fun c q1 q2 => by omega, fun c q1 q2 => by omega⟩ : (∀ c, a ≤ c → c < a → ltOf cf d[mid + m - 1 - c]! d[c]! = false) ∧ (∀ c, m ≤ c → c < m → ltOf cf d[mid + m - 1 - c]! d[c]! = true))⟩
  case round =>
    clear S0
    obtain ⟨i, j, rfl, rfl, hmi, hij, hjb, hkx, S1, I⟩ := hrel
    by_cases hlt : i < j
    · have hltz : (i : Int) < (j : Int) := by omega
      obtain ⟨h, hh⟩ : ∃ h, h = (i + j) / 2 := ⟨_, rfl⟩
      have hhz : ((i : Int) + (j : Int)) / 2 = (h : Int) := by omega
      have h3 : i ≤ h := by omega
      have h4 : h < j := by omega
      have HH : Aside (h = (i + j) / 2) := hh
      clear hh
      obtain ⟨v, hv⟩ : ∃ v, v = mid + m - 1 - h := ⟨_, rfl⟩
      have hvz : (mid : Int) + (m : Int) - 1 - (h : Int) = (v : Int) := by omega
      have v1 : v + h + 1 ≤ mid + m := by omega
      have v2 : mid + m ≤ v + h + 1 := by omega
      have HV : Aside (v = mid + m - 1 - h) := hv
      clear hv
      by_cases hlv : cf d[v]! d[h]! < 0
      · go_wp2_with fail
        have ea44 : ((v : Int)).toNat = v := by omega
        have pa44 : (0 : Int) ≤ (v : Int) := by omega
        have ba44 : (v : Int) < (d.size : Int) := by omega
        have ra44 : IntKind.i64.wrap ((v : Int)) = (v : Int) := by rw [IntKind.wrap_i64]; omega
        have ec44 : ((h : Int)).toNat = h := by omega
        have pc44 : (0 : Int) ≤ (h : Int) := by omega
        have bc44 : (h : Int) < (d.size : Int) := by omega
        have rc44 : IntKind.i64.wrap ((h : Int)) = (h : Int) := by rw [IntKind.wrap_i64]; omega
        have l44a := fun n os => S1.out.ld R (by omega) P (v) (by omega) n os
        have l44b := fun n os => S1.out.ld R (by omega) P (h) (by omega) n os
        have hcg := fun n os => S1.out.cmp HC.out (by omega) d[v]! d[h]! n os
        have n44a : (enc d[v]!).length = k := R.hk _
        have n44b : (enc d[h]!).length = k := R.hk _
        go_wp2_with fail
        go_quiet_grown (first | (go_at_fn g; refine Calls.grown_of (hcg _ _)))
        have S2 : Aside (SWK enc k w0 blk off d (grow (wr.drewN nq) osq)) := S1.out.grown nq osq
        clear l44a l44b hcg S1
        generalize grow (wr.drewN nq) osq = w2 at S2 ⊢
        go_wp2
        go_roundg (h - i)
        case measure => omega
        case rel =>
          have I2 : Aside ((∀ c, a ≤ c → c < i → ltOf cf d[mid + m - 1 - c]! d[c]! = false) ∧ (∀ c, h ≤ c → c < m → ltOf cf d[mid + m - 1 - c]! d[c]! = true)) := ⟨I.out.1, cut_hi HS.out H1.out H2.out (by omega) (by omega) (by omega) (by omega) (show ltOf cf d[mid + m - 1 - h]! d[h]! = true from by rw [← HV.out]; exact decide_eq_true hlv)⟩
          exact ⟨i, h, rfl, rfl, hmi, by omega, by omega, Nat.le_refl _, S2, I2⟩
      · go_wp2_with fail
        have ea44 : ((v : Int)).toNat = v := by omega
        have pa44 : (0 : Int) ≤ (v : Int) := by omega
        have ba44 : (v : Int) < (d.size : Int) := by omega
        have ra44 : IntKind.i64.wrap ((v : Int)) = (v : Int) := by rw [IntKind.wrap_i64]; omega
        have ec44 : ((h : Int)).toNat = h := by omega
        have pc44 : (0 : Int) ≤ (h : Int) := by omega
        have bc44 : (h : Int) < (d.size : Int) := by omega
        have rc44 : IntKind.i64.wrap ((h : Int)) = (h : Int) := by rw [IntKind.wrap_i64]; omega
        have l44a := fun n os => S1.out.ld R (by omega) P (v) (by omega) n os
        have l44b := fun n os => S1.out.ld R (by omega) P (h) (by omega) n os
        have hcg := fun n os => S1.out.cmp HC.out (by omega) d[v]! d[h]! n os
        have n44a : (enc d[v]!).length = k := R.hk _
        have n44b : (enc d[h]!).length = k := R.hk _
        have hdb : decide (cf d[v]! d[h]! < 0) = false := decide_eq_false (by omega)
        go_wp2_with fail
        go_quiet_grown (first | (go_at_fn g; refine Calls.grown_of (hcg _ _)))
        have S2 : Aside (SWK enc k w0 blk off d (grow (wr.drewN nq) osq)) := S1.out.grown nq osq
        clear l44a l44b hcg S1
        generalize grow (wr.drewN nq) osq = w2 at S2 ⊢
        go_wp2
        go_roundg (j - (h + 1))
        case measure => omega
        case rel =>
          have I2 : Aside ((∀ c, a ≤ c → c < h + 1 → ltOf cf d[mid + m - 1 - c]! d[c]! = false) ∧ (∀ c, j ≤ c → c < m → ltOf cf d[mid + m - 1 - c]! d[c]! = true)) := ⟨cut_lo HS.out H1.out H2.out (by omega) (by omega) (by omega) (by omega) (by omega) (show ltOf cf d[mid + m - 1 - h]! d[h]! = false from by rw [← HV.out]; exact decide_eq_false (by omega)), I.out.2⟩
          exact ⟨h + 1, j, by first | rfl | go_num, rfl, by omega, by omega, hjb, Nat.le_refl _, S2, I2⟩
    · obtain rfl : j = i := by omega
      obtain ⟨⟨b1, b2, b3, b4, b5⟩, flt, fge⟩ := found HS.out (a := a) (m := m) (b := b) (mid := mid) (s := j) (s0 := a) (r0 := m) (by omega) (by omega) HM.out H1.out H2.out (.inr ⟨by omega, rfl, rfl⟩) hmi hjb I.out.1 I.out.2
      obtain ⟨e, he⟩ : ∃ e, e = mid + m - j := ⟨_, rfl⟩
      have hez : (mid : Int) + (m : Int) - (j : Int) = (e : Int) := by omega
      rw [← he] at b3 b4 flt fge
      have FL : Aside (∀ i q, j ≤ i → i < m → m ≤ q → q < e → ltOf cf d[q]! d[i]! = true) := flt
      have TU : Aside (Turned (ltOf cf) (rotA d j m e) a j mid e b) := by
        have := turned HS.out d a j m e b b1 b2 b3 b4 hb H1.out H2.out flt fge
        rw [show j + (e - m) = mid by omega] at this; exact this
      have e1 : mid + m ≤ e + j := by omega
      have e2 : e + j ≤ mid + m := by omega
      have rE : IntKind.i64.wrap (e : Int) = (e : Int) := by rw [IntKind.wrap_i64]; omega
      clear flt fge I H1 H2 HC he
      have fin : ∀ (f g : Array α), Merged (ltOf cf) a mid (rotA d j m e) f → Merged (ltOf cf) mid b f g → Merged (ltOf cf) a b d g := fun f g q1 q2 =>
        merged_all HS.out b1 b2 b3 b4 hb (show mid = j + (e - m) by omega) FL.out TU.out q1 q2
      have FIN : Aside (∀ (f g : Array α), Merged (ltOf cf) a mid (rotA d j m e) f → Merged (ltOf cf) mid b f g → Merged (ltOf cf) a b d g) := fin
      have hsz2 : (rotA d j m e).size = d.size := rotA_size _ _ _ _
      have HZ : Aside ((rotA d j m e).size = d.size) := hsz2
      clear fin FL hsz2
      by_cases c1 : j < m
      · by_cases c2 : j < mid
        · by_cases c3 : a < j
          · by_cases c4 : e < b
            · first
              | omega
              | (have q1 : (j : Int) < (m : Int) := by omega
                 have q2 : (m : Int) < (e : Int) := by omega
                 have q3 : (a : Int) < (j : Int) := by omega
                 have q4 : (j : Int) < (mid : Int) := by omega
                 have q5 : (mid : Int) < (e : Int) := by omega
                 have q6 : (e : Int) < (b : Int) := by omega
                 have hcR := rot_any L enc g cb blk off cap d0 d w0 wr R hs S1.out hsz j m e (by omega) (by omega) (by omega)
                 go_wp2_with (first | (go_at_call 66; refine hcR.mono ?_; rintro x1 w2 ⟨rfl, S2'⟩; have S2 : Aside _ := S2'; clear S2' hcR S1 q1 q2))
                 have hcA := HI.out (rotA d j m e) _ a j mid HZ.out (by omega) (by omega) (by omega) (by omega) TU.out.p1 TU.out.p2 S2.out
                 go_wp2_with (first | (go_at_call 63; refine hcA.mono ?_; rintro x1 w3 ⟨rfl, f, M1', S3'⟩; have M1 : Aside _ := M1'; have S3 : Aside _ := S3'; clear M1' S3' hcA q3 q4 S2))
                 have hcB := HI.out f _ mid e b (M1.out.perm.1.trans HZ.out) (by omega) (by omega) (by omega) hb (sorted_congr TU.out.p3 fun x q1 q2 => M1.out.perm.2.1 x (.inr q1)) (sorted_congr TU.out.p4 fun x q1 q2 => M1.out.perm.2.1 x (.inr (by omega))) S3.out
                 go_wp2_with (first | (go_at_call 63; refine hcB.mono ?_; rintro x1 w4 ⟨rfl, q, M2, S4⟩))
                 go_end0
                 exact ⟨rfl, q, FIN.out _ _ M1.out M2, S4⟩)
            · first
              | omega
              | (have q1 : (j : Int) < (m : Int) := by omega
                 have q2 : (m : Int) < (e : Int) := by omega
                 have q3 : (a : Int) < (j : Int) := by omega
                 have q4 : (j : Int) < (mid : Int) := by omega
                 have q5 : (mid : Int) < (e : Int) := by omega
                 have q6 : ¬ (e : Int) < (b : Int) := by omega
                 have hcR := rot_any L enc g cb blk off cap d0 d w0 wr R hs S1.out hsz j m e (by omega) (by omega) (by omega)
                 go_wp2_with (first | (go_at_call 66; refine hcR.mono ?_; rintro x1 w2 ⟨rfl, S2'⟩; have S2 : Aside _ := S2'; clear S2' hcR S1 q1 q2))
                 have hcA := HI.out (rotA d j m e) _ a j mid HZ.out (by omega) (by omega) (by omega) (by omega) TU.out.p1 TU.out.p2 S2.out
                 go_wp2_with (first | (go_at_call 63; refine hcA.mono ?_; rintro x1 w3 ⟨rfl, f, M1', S3'⟩; have M1 : Aside _ := M1'; have S3 : Aside _ := S3'; clear M1' S3' hcA q3 q4 S2))
                 have M2 : Merged (ltOf cf) mid b f f := Merged.same (sorted_congr (right_half TU.out (by omega) b4 (by omega)) fun x q1 q2 => M1.out.perm.2.1 x (.inr q1))
                 go_wp2
                 go_end0
                 exact ⟨rfl, f, FIN.out _ _ M1.out M2, S3.out⟩)
          · by_cases c4 : e < b
            · first
              | omega
              | (have q1 : (j : Int) < (m : Int) := by omega
                 have q2 : (m : Int) < (e : Int) := by omega
                 have q3 : ¬ (a : Int) < (j : Int) := by omega
                 have q4 : (j : Int) < (mid : Int) := by omega
                 have q5 : (mid : Int) < (e : Int) := by omega
                 have q6 : (e : Int) < (b : Int) := by omega
                 have hcR := rot_any L enc g cb blk off cap d0 d w0 wr R hs S1.out hsz j m e (by omega) (by omega) (by omega)
                 go_wp2_with (first | (go_at_call 66; refine hcR.mono ?_; rintro x1 w2 ⟨rfl, S2'⟩; have S2 : Aside _ := S2'; clear S2' hcR S1 q1 q2))
                 have M1 : Aside (Merged (ltOf cf) a mid (rotA d j m e) (rotA d j m e)) := Merged.same (left_half TU.out b1 b5 (by omega))
                 have S3 := S2
                 have hcB := HI.out (rotA d j m e) _ mid e b (M1.out.perm.1.trans HZ.out) (by omega) (by omega) (by omega) hb (sorted_congr TU.out.p3 fun x q1 q2 => M1.out.perm.2.1 x (.inr q1)) (sorted_congr TU.out.p4 fun x q1 q2 => M1.out.perm.2.1 x (.inr (by omega))) S3.out
                 go_wp2_with (first | (go_at_call 63; refine hcB.mono ?_; rintro x1 w4 ⟨rfl, q, M2, S4⟩))
                 go_end0
                 exact ⟨rfl, q, FIN.out _ _ M1.out M2, S4⟩)
            · first
              | omega
              | (have q1 : (j : Int) < (m : Int) := by omega
                 have q2 : (m : Int) < (e : Int) := by omega
                 have q3 : ¬ (a : Int) < (j : Int) := by omega
                 have q4 : (j : Int) < (mid : Int) := by omega
                 have q5 : (mid : Int) < (e : Int) := by omega
                 have q6 : ¬ (e : Int) < (b : Int) := by omega
                 have hcR := rot_any L enc g cb blk off cap d0 d w0 wr R hs S1.out hsz j m e (by omega) (by omega) (by omega)
                 go_wp2_with (first | (go_at_call 66; refine hcR.mono ?_; rintro x1 w2 ⟨rfl, S2'⟩; have S2 : Aside _ := S2'; clear S2' hcR S1 q1 q2))
                 have M1 : Aside (Merged (ltOf cf) a mid (rotA d j m e) (rotA d j m e)) := Merged.same (left_half TU.out b1 b5 (by omega))
                 have S3 := S2
                 have M2 : Merged (ltOf cf) mid b (rotA d j m e) (rotA d j m e) := Merged.same (sorted_congr (right_half TU.out (by omega) b4 (by omega)) fun x q1 q2 => M1.out.perm.2.1 x (.inr q1))
                 go_wp2
                 go_end0
                 exact ⟨rfl, (rotA d j m e), FIN.out _ _ M1.out M2, S3.out⟩)
        · by_cases c3 : a < j
          · by_cases c4 : e < b
            · first
              | omega
              | (have q1 : (j : Int) < (m : Int) := by omega
                 have q2 : ¬ (m : Int) < (e : Int) := by omega
                 have q3 : (a : Int) < (j : Int) := by omega
                 have q4 : ¬ (j : Int) < (mid : Int) := by omega
                 have q5 : (mid : Int) < (e : Int) := by omega
                 have q6 : (e : Int) < (b : Int) := by omega
                 have S2 : Aside (SWK enc k w0 blk off (rotA d j m e) wr) := by
                   show SWK _ _ _ _ _ _ _
                   rw [rot_none d j m e (by omega) b2 b3 (by omega)]; exact S1.out
                 clear S1
                 have M1 : Aside (Merged (ltOf cf) a mid (rotA d j m e) (rotA d j m e)) := Merged.same (left_half TU.out b1 b5 (by omega))
                 have S3 := S2
                 have hcB := HI.out (rotA d j m e) _ mid e b (M1.out.perm.1.trans HZ.out) (by omega) (by omega) (by omega) hb (sorted_congr TU.out.p3 fun x q1 q2 => M1.out.perm.2.1 x (.inr q1)) (sorted_congr TU.out.p4 fun x q1 q2 => M1.out.perm.2.1 x (.inr (by omega))) S3.out
                 go_wp2_with (first | (go_at_call 63; refine hcB.mono ?_; rintro x1 w4 ⟨rfl, q, M2, S4⟩))
                 go_end0
                 exact ⟨rfl, q, FIN.out _ _ M1.out M2, S4⟩)
            · first
              | omega
              | (have q1 : (j : Int) < (m : Int) := by omega
                 have q2 : ¬ (m : Int) < (e : Int) := by omega
                 have q3 : (a : Int) < (j : Int) := by omega
                 have q4 : ¬ (j : Int) < (mid : Int) := by omega
                 have q5 : (mid : Int) < (e : Int) := by omega
                 have q6 : ¬ (e : Int) < (b : Int) := by omega
                 have S2 : Aside (SWK enc k w0 blk off (rotA d j m e) wr) := by
                   show SWK _ _ _ _ _ _ _
                   rw [rot_none d j m e (by omega) b2 b3 (by omega)]; exact S1.out
                 clear S1
                 have M1 : Aside (Merged (ltOf cf) a mid (rotA d j m e) (rotA d j m e)) := Merged.same (left_half TU.out b1 b5 (by omega))
                 have S3 := S2
                 have M2 : Merged (ltOf cf) mid b (rotA d j m e) (rotA d j m e) := Merged.same (sorted_congr (right_half TU.out (by omega) b4 (by omega)) fun x q1 q2 => M1.out.perm.2.1 x (.inr q1))
                 go_wp2
                 go_end0
                 exact ⟨rfl, (rotA d j m e), FIN.out _ _ M1.out M2, S3.out⟩)
          · by_cases c4 : e < b
            · first
              | omega
              | (have q1 : (j : Int) < (m : Int) := by omega
                 have q2 : ¬ (m : Int) < (e : Int) := by omega
                 have q3 : ¬ (a : Int) < (j : Int) := by omega
                 have q4 : ¬ (j : Int) < (mid : Int) := by omega
                 have q5 : (mid : Int) < (e : Int) := by omega
                 have q6 : (e : Int) < (b : Int) := by omega
                 have S2 : Aside (SWK enc k w0 blk off (rotA d j m e) wr) := by
                   show SWK _ _ _ _ _ _ _
                   rw [rot_none d j m e (by omega) b2 b3 (by omega)]; exact S1.out
                 clear S1
                 have M1 : Aside (Merged (ltOf cf) a mid (rotA d j m e) (rotA d j m e)) := Merged.same (left_half TU.out b1 b5 (by omega))
                 have S3 := S2
                 have hcB := HI.out (rotA d j m e) _ mid e b (M1.out.perm.1.trans HZ.out) (by omega) (by omega) (by omega) hb (sorted_congr TU.out.p3 fun x q1 q2 => M1.out.perm.2.1 x (.inr q1)) (sorted_congr TU.out.p4 fun x q1 q2 => M1.out.perm.2.1 x (.inr (by omega))) S3.out
                 go_wp2_with (first | (go_at_call 63; refine hcB.mono ?_; rintro x1 w4 ⟨rfl, q, M2, S4⟩))
                 go_end0
                 exact ⟨rfl, q, FIN.out _ _ M1.out M2, S4⟩)
            · first
              | omega
              | (have q1 : (j : Int) < (m : Int) := by omega
                 have q2 : ¬ (m : Int) < (e : Int) := by omega
                 have q3 : ¬ (a : Int) < (j : Int) := by omega
                 have q4 : ¬ (j : Int) < (mid : Int) := by omega
                 have q5 : (mid : Int) < (e : Int) := by omega
                 have q6 : ¬ (e : Int) < (b : Int) := by omega
                 have S2 : Aside (SWK enc k w0 blk off (rotA d j m e) wr) := by
                   show SWK _ _ _ _ _ _ _
                   rw [rot_none d j m e (by omega) b2 b3 (by omega)]; exact S1.out
                 clear S1
                 have M1 : Aside (Merged (ltOf cf) a mid (rotA d j m e) (rotA d j m e)) := Merged.same (left_half TU.out b1 b5 (by omega))
                 have S3 := S2
                 have M2 : Merged (ltOf cf) mid b (rotA d j m e) (rotA d j m e) := Merged.same (sorted_congr (right_half TU.out (by omega) b4 (by omega)) fun x q1 q2 => M1.out.perm.2.1 x (.inr q1))
                 go_wp2
                 go_end0
                 exact ⟨rfl, (rotA d j m e), FIN.out _ _ M1.out M2, S3.out⟩)
      · by_cases c2 : j < mid
        · by_cases c3 : a < j
          · by_cases c4 : e < b
            · first
              | omega
              | (have q1 : ¬ (j : Int) < (m : Int) := by omega
                 have q2 : (m : Int) < (e : Int) := by omega
                 have q3 : (a : Int) < (j : Int) := by omega
                 have q4 : (j : Int) < (mid : Int) := by omega
                 have q5 : ¬ (mid : Int) < (e : Int) := by omega
                 have q6 : (e : Int) < (b : Int) := by omega
                 have S2 : Aside (SWK enc k w0 blk off (rotA d j m e) wr) := by
                   show SWK _ _ _ _ _ _ _
                   rw [rot_none d j m e (by omega) b2 b3 (by omega)]; exact S1.out
                 clear S1
                 have hcA := HI.out (rotA d j m e) _ a j mid HZ.out (by omega) (by omega) (by omega) (by omega) TU.out.p1 TU.out.p2 S2.out
                 go_wp2_with (first | (go_at_call 63; refine hcA.mono ?_; rintro x1 w3 ⟨rfl, f, M1', S3'⟩; have M1 : Aside _ := M1'; have S3 : Aside _ := S3'; clear M1' S3' hcA q3 q4 S2))
                 have M2 : Merged (ltOf cf) mid b f f := Merged.same (sorted_congr (right_half TU.out (by omega) b4 (by omega)) fun x q1 q2 => M1.out.perm.2.1 x (.inr q1))
                 go_wp2
                 go_end0
                 exact ⟨rfl, f, FIN.out _ _ M1.out M2, S3.out⟩)
            · first
              | omega
              | (have q1 : ¬ (j : Int) < (m : Int) := by omega
                 have q2 : (m : Int) < (e : Int) := by omega
                 have q3 : (a : Int) < (j : Int) := by omega
                 have q4 : (j : Int) < (mid : Int) := by omega
                 have q5 : ¬ (mid : Int) < (e : Int) := by omega
                 have q6 : ¬ (e : Int) < (b : Int) := by omega
                 have S2 : Aside (SWK enc k w0 blk off (rotA d j m e) wr) := by
                   show SWK _ _ _ _ _ _ _
                   rw [rot_none d j m e (by omega) b2 b3 (by omega)]; exact S1.out
                 clear S1
                 have hcA := HI.out (rotA d j m e) _ a j mid HZ.out (by omega) (by omega) (by omega) (by omega) TU.out.p1 TU.out.p2 S2.out
                 go_wp2_with (first | (go_at_call 63; refine hcA.mono ?_; rintro x1 w3 ⟨rfl, f, M1', S3'⟩; have M1 : Aside _ := M1'; have S3 : Aside _ := S3'; clear M1' S3' hcA q3 q4 S2))
                 have M2 : Merged (ltOf cf) mid b f f := Merged.same (sorted_congr (right_half TU.out (by omega) b4 (by omega)) fun x q1 q2 => M1.out.perm.2.1 x (.inr q1))
                 go_wp2
                 go_end0
                 exact ⟨rfl, f, FIN.out _ _ M1.out M2, S3.out⟩)
          · by_cases c4 : e < b
            · first
              | omega
              | (have q1 : ¬ (j : Int) < (m : Int) := by omega
                 have q2 : (m : Int) < (e : Int) := by omega
                 have q3 : ¬ (a : Int) < (j : Int) := by omega
                 have q4 : (j : Int) < (mid : Int) := by omega
                 have q5 : ¬ (mid : Int) < (e : Int) := by omega
                 have q6 : (e : Int) < (b : Int) := by omega
                 have S2 : Aside (SWK enc k w0 blk off (rotA d j m e) wr) := by
                   show SWK _ _ _ _ _ _ _
                   rw [rot_none d j m e (by omega) b2 b3 (by omega)]; exact S1.out
                 clear S1
                 have M1 : Aside (Merged (ltOf cf) a mid (rotA d j m e) (rotA d j m e)) := Merged.same (left_half TU.out b1 b5 (by omega))
                 have S3 := S2
                 have M2 : Merged (ltOf cf) mid b (rotA d j m e) (rotA d j m e) := Merged.same (sorted_congr (right_half TU.out (by omega) b4 (by omega)) fun x q1 q2 => M1.out.perm.2.1 x (.inr q1))
                 go_wp2
                 go_end0
                 exact ⟨rfl, (rotA d j m e), FIN.out _ _ M1.out M2, S3.out⟩)
            · first
              | omega
              | (have q1 : ¬ (j : Int) < (m : Int) := by omega
                 have q2 : (m : Int) < (e : Int) := by omega
                 have q3 : ¬ (a : Int) < (j : Int) := by omega
                 have q4 : (j : Int) < (mid : Int) := by omega
                 have q5 : ¬ (mid : Int) < (e : Int) := by omega
                 have q6 : ¬ (e : Int) < (b : Int) := by omega
                 have S2 : Aside (SWK enc k w0 blk off (rotA d j m e) wr) := by
                   show SWK _ _ _ _ _ _ _
                   rw [rot_none d j m e (by omega) b2 b3 (by omega)]; exact S1.out
                 clear S1
                 have M1 : Aside (Merged (ltOf cf) a mid (rotA d j m e) (rotA d j m e)) := Merged.same (left_half TU.out b1 b5 (by omega))
                 have S3 := S2
                 have M2 : Merged (ltOf cf) mid b (rotA d j m e) (rotA d j m e) := Merged.same (sorted_congr (right_half TU.out (by omega) b4 (by omega)) fun x q1 q2 => M1.out.perm.2.1 x (.inr q1))
                 go_wp2
                 go_end0
                 exact ⟨rfl, (rotA d j m e), FIN.out _ _ M1.out M2, S3.out⟩)
        · by_cases c3 : a < j
          · by_cases c4 : e < b
            · first
              | omega
              | (have q1 : ¬ (j : Int) < (m : Int) := by omega
                 have q2 : ¬ (m : Int) < (e : Int) := by omega
                 have q3 : (a : Int) < (j : Int) := by omega
                 have q4 : ¬ (j : Int) < (mid : Int) := by omega
                 have q5 : ¬ (mid : Int) < (e : Int) := by omega
                 have q6 : (e : Int) < (b : Int) := by omega
                 have S2 : Aside (SWK enc k w0 blk off (rotA d j m e) wr) := by
                   show SWK _ _ _ _ _ _ _
                   rw [rot_none d j m e (by omega) b2 b3 (by omega)]; exact S1.out
                 clear S1
                 have M1 : Aside (Merged (ltOf cf) a mid (rotA d j m e) (rotA d j m e)) := Merged.same (left_half TU.out b1 b5 (by omega))
                 have S3 := S2
                 have M2 : Merged (ltOf cf) mid b (rotA d j m e) (rotA d j m e) := Merged.same (sorted_congr (right_half TU.out (by omega) b4 (by omega)) fun x q1 q2 => M1.out.perm.2.1 x (.inr q1))
                 go_wp2
                 go_end0
                 exact ⟨rfl, (rotA d j m e), FIN.out _ _ M1.out M2, S3.out⟩)
            · first
              | omega
              | (have q1 : ¬ (j : Int) < (m : Int) := by omega
                 have q2 : ¬ (m : Int) < (e : Int) := by omega
                 have q3 : (a : Int) < (j : Int) := by omega
                 have q4 : ¬ (j : Int) < (mid : Int) := by omega
                 have q5 : ¬ (mid : Int) < (e : Int) := by omega
                 have q6 : ¬ (e : Int) < (b : Int) := by omega
                 have S2 : Aside (SWK enc k w0 blk off (rotA d j m e) wr) := by
                   show SWK _ _ _ _ _ _ _
                   rw [rot_none d j m e (by omega) b2 b3 (by omega)]; exact S1.out
                 clear S1
                 have M1 : Aside (Merged (ltOf cf) a mid (rotA d j m e) (rotA d j m e)) := Merged.same (left_half TU.out b1 b5 (by omega))
                 have S3 := S2
                 have M2 : Merged (ltOf cf) mid b (rotA d j m e) (rotA d j m e) := Merged.same (sorted_congr (right_half TU.out (by omega) b4 (by omega)) fun x q1 q2 => M1.out.perm.2.1 x (.inr q1))
                 go_wp2
                 go_end0
                 exact ⟨rfl, (rotA d j m e), FIN.out _ _ M1.out M2, S3.out⟩)
          · by_cases c4 : e < b
            · first
              | omega
              | (have q1 : ¬ (j : Int) < (m : Int) := by omega
                 have q2 : ¬ (m : Int) < (e : Int) := by omega
                 have q3 : ¬ (a : Int) < (j : Int) := by omega
                 have q4 : ¬ (j : Int) < (mid : Int) := by omega
                 have q5 : ¬ (mid : Int) < (e : Int) := by omega
                 have q6 : (e : Int) < (b : Int) := by omega
                 have S2 : Aside (SWK enc k w0 blk off (rotA d j m e) wr) := by
                   show SWK _ _ _ _ _ _ _
                   rw [rot_none d j m e (by omega) b2 b3 (by omega)]; exact S1.out
                 clear S1
                 have M1 : Aside (Merged (ltOf cf) a mid (rotA d j m e) (rotA d j m e)) := Merged.same (left_half TU.out b1 b5 (by omega))
                 have S3 := S2
                 have M2 : Merged (ltOf cf) mid b (rotA d j m e) (rotA d j m e) := Merged.same (sorted_congr (right_half TU.out (by omega) b4 (by omega)) fun x q1 q2 => M1.out.perm.2.1 x (.inr q1))
                 go_wp2
                 go_end0
                 exact ⟨rfl, (rotA d j m e), FIN.out _ _ M1.out M2, S3.out⟩)
            · first
              | omega
              | (have q1 : ¬ (j : Int) < (m : Int) := by omega
                 have q2 : ¬ (m : Int) < (e : Int) := by omega
                 have q3 : ¬ (a : Int) < (j : Int) := by omega
                 have q4 : ¬ (j : Int) < (mid : Int) := by omega
                 have q5 : ¬ (mid : Int) < (e : Int) := by omega
                 have q6 : ¬ (e : Int) < (b : Int) := by omega
                 have S2 : Aside (SWK enc k w0 blk off (rotA d j m e) wr) := by
                   show SWK _ _ _ _ _ _ _
                   rw [rot_none d j m e (by omega) b2 b3 (by omega)]; exact S1.out
                 clear S1
                 have M1 : Aside (Merged (ltOf cf) a mid (rotA d j m e) (rotA d j m e)) := Merged.same (left_half TU.out b1 b5 (by omega))
                 have S3 := S2
                 have M2 : Merged (ltOf cf) mid b (rotA d j m e) (rotA d j m e) := Merged.same (sorted_congr (right_half TU.out (by omega) b4 (by omega)) fun x q1 q2 => M1.out.perm.2.1 x (.inr q1))
                 go_wp2
                 go_end0
                 exact ⟨rfl, (rotA d j m e), FIN.out _ _ M1.out M2, S3.out⟩)
end Go.Proofs.YtcaapnjipjemiaaDoor.P
