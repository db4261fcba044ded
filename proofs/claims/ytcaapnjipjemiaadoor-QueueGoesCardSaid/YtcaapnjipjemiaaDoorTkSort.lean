/- The library's stable sort of a row of things of k cells: what lies there behind it, function by function. -/
import Derived.Test.YtcaapnjipjemiaaDoorChecked
import Derived.Test.YtcaapnjipjemiaaDoorTkSrt
import Derived.Shelf.SlSortCmp.KitK
import Derived.Deep.LoopGhost
namespace Go.Proofs.YtcaapnjipjemiaaDoor.P
open Go.Shelf Go.RowKit Go.Lib Go.Sort
set_option linter.unusedVariables false
set_option linter.unusedSimpArgs false
/-- What the bodies ask of the program. -/
structure StT (P : Program) (k : Nat) : Prop where
  mixed : P.follows .mixedOrders = true
  t0 : P.underlying 0 = some (TypeDesc.tuple #[])
  a0 : ∀ w, (isAgg 0).run P w = .ok false w
  z0 : ∀ w, (Go.sizeOf 0).run P w = .ok 1 w
  v0 : ∀ w, (zeroValue 0).run P w = .ok (Value.tuple #[]) w
  t3 : P.underlying 3 = some (TypeDesc.int IntKind.i64)
  a3 : ∀ w, (isAgg 3).run P w = .ok false w
  z3 : ∀ w, (Go.sizeOf 3).run P w = .ok 1 w
  v3 : ∀ w, (zeroValue 3).run P w = .ok (Value.int IntKind.i64 0) w
  t4 : P.underlying 4 = some (TypeDesc.bool)
  a4 : ∀ w, (isAgg 4).run P w = .ok false w
  z4 : ∀ w, (Go.sizeOf 4).run P w = .ok 1 w
  v4 : ∀ w, (zeroValue 4).run P w = .ok (Value.bool false) w
  t22 : P.underlying 85 = some (TypeDesc.slice 86)
  a22 : ∀ w, (isAgg 85).run P w = .ok false w
  z22 : ∀ w, (Go.sizeOf 85).run P w = .ok 1 w
  v22 : ∀ w, (zeroValue 85).run P w = .ok (Value.slice none 0 0) w
  t25 : P.underlying 88 = some (TypeDesc.func #[86, 86] #[3] false)
  a25 : ∀ w, (isAgg 88).run P w = .ok false w
  z25 : ∀ w, (Go.sizeOf 88).run P w = .ok 1 w
  v25 : ∀ w, (zeroValue 88).run P w = .ok (Value.nilFunc) w
  t66 : P.underlying 84 = some (TypeDesc.int IntKind.u64)
  a66 : ∀ w, (isAgg 84).run P w = .ok false w
  z66 : ∀ w, (Go.sizeOf 84).run P w = .ok 1 w
  aE : ∀ w, (isAgg 86).run P w = .ok true w
  zE : ∀ w, (Go.sizeOf 86).run P w = .ok k w
  fSwr : P.funcs[68]? = some Tryd.f68
  fRot : P.funcs[66]? = some Tryd.f66
  fSym : P.funcs[63]? = some Tryd.f63
  fIns : P.funcs[62]? = some Tryd.f62
  fSta : P.funcs[58]? = some Tryd.f58
  fSor : P.funcs[55]? = some Tryd.f55
variable {P : Program} {α : Type} [Inhabited α]
set_option maxHeartbeats 4000000 in
set_option maxRecDepth 1000000 in
theorem swr_any {k : Nat} (L : StT P k) (enc : α → List Value) (g : Nat) (cb : Array Value) (blk off cap : Nat) (d0 d : Array α) (w0 w : World)
    (R : RowK enc k w0 blk off d0) (hs : d0.size = d.size) (S : SWK enc k w0 blk off d w) (hsz : d.size < 4611686018427387904) (x y n : Nat) (hxy : x + n ≤ y) (hb : y + n ≤ d.size) :
    Calls P 68 #[.slice (some ⟨blk, off, none⟩) d.size cap, .int .i64 x, .int .i64 y, .int .i64 n, .func (.func g) #[] cb] w fun e w' => e = .returned (.tuple #[]) ∧ SWK enc k w0 blk off (swpN d x y n) w' := by
  have mixed := L.mixed; have t0 := L.t0; have a0 := L.a0; have z0 := L.z0; have v0 := L.v0; have t3 := L.t3; have a3 := L.a3; have z3 := L.z3; have v3 := L.v3; have t4 := L.t4; have a4 := L.a4; have z4 := L.z4; have v4 := L.v4; have t22 := L.t22; have a22 := L.a22; have z22 := L.z22; have v22 := L.v22; have t25 := L.t25; have a25 := L.a25; have z25 := L.z25; have v25 := L.v25; have t66 := L.t66; have a66 := L.a66; have z66 := L.z66; have aE := L.aE; have zE := L.zE
  have u22 := run_underlying L.t22; have u3 := run_underlying L.t3; have u66 := run_underlying L.t66
  have FG := L.fSwr
  have S0 : Aside (SWK enc k w0 blk off d w) := S
  clear S
  go_enter FG, Tryd.ntmps68
  go_wp2
  go_loopg [10] n (fun kx s10 wr => ∃ i : Nat, s10 = .int .i64 i ∧ i ≤ n ∧ n - i ≤ kx ∧ Aside (SWK enc k w0 blk off (swpN d x y i) wr))
  case atStart => exact ⟨0, rfl, Nat.zero_le _, Nat.le_refl _, S0⟩
  case round =>
    clear S0
    obtain ⟨i, rfl, hin, hkx, S1⟩ := hrel
    by_cases hlt : i < n
    · have hltz : (i : Int) < (n : Int) := by omega
      obtain ⟨dk, hdk⟩ : ∃ dk, dk = swpN d x y i := ⟨_, rfl⟩
      have hds : dk.size = d.size := by rw [hdk, swpN_size]
      rw [← hdk] at S1
      have HD : Aside (dk = swpN d x y i) := hdk
      clear hdk
      go_wp2_with fail
      have ea44 : ((x : Int) + (i : Int)).toNat = x + i := by omega
      have pa44 : (0 : Int) ≤ (x : Int) + (i : Int) := by omega
      have ba44 : (x : Int) + (i : Int) < (d.size : Int) := by omega
      have ra44 : IntKind.i64.wrap ((x : Int) + (i : Int)) = (x : Int) + (i : Int) := by rw [IntKind.wrap_i64]; omega
      have ec44 : ((y : Int) + (i : Int)).toNat = y + i := by omega
      have pc44 : (0 : Int) ≤ (y : Int) + (i : Int) := by omega
      have bc44 : (y : Int) + (i : Int) < (d.size : Int) := by omega
      have rc44 : IntKind.i64.wrap ((y : Int) + (i : Int)) = (y : Int) + (i : Int) := by rw [IntKind.wrap_i64]; omega
      have S2 : Aside (SWK enc k w0 blk off (swp dk (x + i) (y + i)) ((wr.drew.setCells blk (off + (x + i) * k) (enc dk[y + i]!)).setCells blk (off + (y + i) * k) (enc dk[x + i]!))) := S1.out.swapped R (x + i) (y + i) (by omega) (by omega)
      have l44a := S1.out.ld1 R (by omega) P (x + i) (by omega)
      have l44b := S1.out.ld1 R (by omega) P (y + i) (by omega)
      have s44a := S1.out.st1 R (by omega) P (x + i) (by omega) dk[y + i]!
      have s44b := S1.out.st2 R (by omega) P (x + i) (y + i) (by omega) (by omega) dk[y + i]! dk[x + i]!
      have n44a : (enc dk[x + i]!).length = k := R.hk _
      have n44b : (enc dk[y + i]!).length = k := R.hk _
      generalize enc dk[x + i]! = cI44 at S2 l44a s44b n44a
      generalize enc dk[y + i]! = cJ44 at S2 l44b s44a s44b n44b
      clear S1
      go_wp2_with fail
      go_big_region_o
      clear l44a l44b s44a s44b
      generalize (wr.drew.setCells blk (off + (x + i) * k) cJ44).setCells blk (off + (y + i) * k) cI44 = w2 at S2 ⊢
      go_wp2
      go_roundg (n - (i + 1))
      case measure => omega
      case rel => exact ⟨i + 1, by first | rfl | go_num, hlt, Nat.le_refl _, by rw [HD.out] at S2; exact S2⟩
    · obtain rfl : i = n := by omega
      go_wp2
      go_end0
      exact ⟨rfl, S1.out⟩
set_option maxHeartbeats 4000000 in
set_option maxRecDepth 1000000 in
theorem rot_any {k : Nat} (L : StT P k) (enc : α → List Value) (g : Nat) (cb : Array Value) (blk off cap : Nat) (d0 d : Array α) (w0 w : World)
    (R : RowK enc k w0 blk off d0) (hs : d0.size = d.size) (S : SWK enc k w0 blk off d w) (hsz : d.size < 4611686018427387904) (a m b : Nat) (ham : a < m) (hmb : m < b) (hb : b ≤ d.size) :
    Calls P 66 #[.slice (some ⟨blk, off, none⟩) d.size cap, .int .i64 a, .int .i64 m, .int .i64 b, .func (.func g) #[] cb] w fun e w' => e = .returned (.tuple #[]) ∧ SWK enc k w0 blk off (rotA d a m b) w' := by
  have mixed := L.mixed; have t0 := L.t0; have a0 := L.a0; have z0 := L.z0; have v0 := L.v0; have t3 := L.t3; have a3 := L.a3; have z3 := L.z3; have v3 := L.v3; have t4 := L.t4; have a4 := L.a4; have z4 := L.z4; have v4 := L.v4; have t22 := L.t22; have a22 := L.a22; have z22 := L.z22; have v22 := L.v22; have t25 := L.t25; have a25 := L.a25; have z25 := L.z25; have v25 := L.v25; have t66 := L.t66; have a66 := L.a66; have z66 := L.z66; have aE := L.aE; have zE := L.zE
  have u22 := run_underlying L.t22; have u3 := run_underlying L.t3; have u66 := run_underlying L.t66
  have FG := L.fRot
  have eSwr : ∀ args w, (callFunc 68 args).run P w = .ok (.enter 68 args) w := enters_of L.fSwr (by kernel_rfl) rfl
  have S0 : Aside (SWK enc k w0 blk off d w) := S
  clear S
  have r0 : IntKind.i64.wrap ((m : Int) - (a : Int)) = (m : Int) - (a : Int) := by rw [IntKind.wrap_i64]; omega
  have r1 : IntKind.i64.wrap ((b : Int) - (m : Int)) = (b : Int) - (m : Int) := by rw [IntKind.wrap_i64]; omega
  go_enter FG, Tryd.ntmps66
  go_wp2
  clear r0 r1
  go_loopg [10, 11] (b - a) (fun kx s10 s11 wr => ∃ (i j : Nat) (dk : Array α), s10 = .int .i64 i ∧ s11 = .int .i64 j ∧ 1 ≤ i ∧ 1 ≤ j ∧ i ≤ m ∧ m + j ≤ d.size ∧ i + j ≤ kx ∧ dk.size = d.size ∧ Aside (SWK enc k w0 blk off dk wr) ∧ Aside (rotA dk (m - i) m (m + j) = rotA d a m b))
  case atStart => exact ⟨m - a, b - m, d, by congr 1; omega, by congr 1; omega, by omega, by omega, by omega, by omega, by omega, rfl, S0, (show rotA d (m - (m - a)) m (m + (b - m)) = _ by rw [show m - (m - a) = a by omega, show m + (b - m) = b by omega])⟩
  case round =>
    clear S0
    obtain ⟨i, j, dk, rfl, rfl, hi, hj, him, hjs, hkx, hds, S1, E1⟩ := hrel
    by_cases hij : i = j
    · subst hij
      have hc := swr_any L enc g cb blk off cap d0 dk w0 wr R (by omega) S1.out (by omega) (m - i) (m) (i) (by omega) (by omega)
      rw [hds, show ((m - i : Nat) : Int) = (m : Int) - (i : Int) by omega, show ((m : Nat) : Int) = (m : Int) by omega] at hc
      have rA : IntKind.i64.wrap ((m : Int) - (i : Int)) = (m : Int) - (i : Int) := by rw [IntKind.wrap_i64]; omega
      have rB : IntKind.i64.wrap ((m : Int)) = (m : Int) := by rw [IntKind.wrap_i64]; omega
      go_wp2_with (go_at_call 68; refine hc.mono ?_; rintro e w' ⟨rfl, S2⟩)
      go_end0
      refine ⟨rfl, ?_⟩
      rw [← E1.out, ← rot_even dk m i him (by omega)]
      exact S2
    · have hne : ((i : Int) != (j : Int)) = true := by simp; omega
      by_cases hlt : j < i
      · have hltz : (j : Int) < (i : Int) := by omega
        have hc := swr_any L enc g cb blk off cap d0 dk w0 wr R (by omega) S1.out (by omega) (m - i) (m) (j) (by omega) (by omega)
        rw [hds, show ((m - i : Nat) : Int) = (m : Int) - (i : Int) by omega, show ((m : Nat) : Int) = (m : Int) by omega] at hc
        have rA : IntKind.i64.wrap ((m : Int) - (i : Int)) = (m : Int) - (i : Int) := by rw [IntKind.wrap_i64]; omega
        have rB : IntKind.i64.wrap ((m : Int)) = (m : Int) := by rw [IntKind.wrap_i64]; omega
        have rC : IntKind.i64.wrap ((i : Int) - (j : Int)) = (i : Int) - (j : Int) := by rw [IntKind.wrap_i64]; omega
        clear hij
        go_wp2_with (go_at_call 68; refine hc.mono ?_; rintro e w' ⟨rfl, S2'⟩; have S2 : Aside _ := S2'; clear S2')
        go_roundg (i - j + j)
        case measure => omega
        case rel => exact ⟨i - j, j, swpN dk (m - i) m j, by congr 1; omega, rfl, by omega, hj, by omega, hjs, Nat.le_refl _, by rw [swpN_size]; exact hds, S2.out, (show rotA (swpN dk (m - i) m j) (m - (i - j)) m (m + j) = _ by rw [← E1.out, ← rot_big dk m i j hlt him (by omega), show m - (i - j) = m - i + j by omega])⟩
      · have hltz : ¬ (j : Int) < (i : Int) := by omega
        have hc := swr_any L enc g cb blk off cap d0 dk w0 wr R (by omega) S1.out (by omega) (m - i) (m + j - i) (i) (by omega) (by omega)
        rw [hds, show ((m - i : Nat) : Int) = (m : Int) - (i : Int) by omega, show ((m + j - i : Nat) : Int) = (m : Int) + (j : Int) - (i : Int) by omega] at hc
        have rA : IntKind.i64.wrap ((m : Int) - (i : Int)) = (m : Int) - (i : Int) := by rw [IntKind.wrap_i64]; omega
        have rB : IntKind.i64.wrap ((m : Int) + (j : Int) - (i : Int)) = (m : Int) + (j : Int) - (i : Int) := by rw [IntKind.wrap_i64]; omega
        have rD : IntKind.i64.wrap ((m : Int) + (j : Int)) = (m : Int) + (j : Int) := by rw [IntKind.wrap_i64]; omega
        have rC : IntKind.i64.wrap ((j : Int) - (i : Int)) = (j : Int) - (i : Int) := by rw [IntKind.wrap_i64]; omega
        go_wp2_with (go_at_call 68; refine hc.mono ?_; rintro e w' ⟨rfl, S2'⟩; have S2 : Aside _ := S2'; clear S2')
        go_roundg (i + (j - i))
        case measure => omega
        case rel => exact ⟨i, j - i, swpN dk (m - i) (m + j - i) i, rfl, by congr 1; omega, hi, by omega, him, by omega, Nat.le_refl _, by rw [swpN_size]; exact hds, S2.out, (show rotA (swpN dk (m - i) (m + j - i) i) (m - i) m (m + (j - i)) = _ by rw [← E1.out, ← rot_less dk m i j (by omega) him (by omega)])⟩
end Go.Proofs.YtcaapnjipjemiaaDoor.P
