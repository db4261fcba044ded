/- The library's stable sort of a row of things of k cells: what lies there behind it, function by function. -/
import Derived.Test.YtcaapnjipjemiaaDoorTkSymAll
import Derived.Shelf.SlSortCmp.KitK
import Derived.Deep.LoopGhost
namespace Go.Proofs.YtcaapnjipjemiaaDoor.P
open Go.Shelf Go.RowKit Go.Lib Go.Sort
set_option linter.unusedVariables false
set_option linter.unusedSimpArgs false
variable {P : Program} {α : Type} [Inhabited α]
/-- What the sort leaves of the row. -/
def StabEnd (enc : α → List Value) (k : Nat) (w0 : World) (blk off : Nat) (lt : α → α → Bool) (d : Array α) (e : Ending) (w' : World) : Prop :=
  e = .returned (.tuple #[]) ∧ ∃ d', d'.size = d.size ∧ SortedIn lt 0 d'.size d' ∧ Stab lt d d' ∧ SWK enc k w0 blk off d' w'
set_option maxHeartbeats 4000000 in
set_option maxRecDepth 1000000 in
theorem stable_any {k : Nat} (L : StT P k) (I : SlLaysF0.n20 P renT) (enc : α → List Value) (g : Nat) (cb : Array Value) (blk off cap : Nat) (d0 d : Array α) (w0 w : World)
    (R : RowK enc k w0 blk off d0) (hs : d0.size = d.size) (S : SWK enc k w0 blk off d w) (hsz : d.size < 4611686018427387904) (cf : α → α → Int) (hS : SWO (ltOf cf)) (eg : ∀ args w, (callFunc g args).run P w = .ok (.enter g args) w) (hcmp : CmpLays P g cb enc k cf blk off d0.size w0) (hbig : d.size < 2305843009213693952) :
    Calls P 58 #[.slice (some ⟨blk, off, none⟩) d.size cap, .int .i64 d.size, .func (.func g) #[] cb] w (StabEnd enc k w0 blk off (ltOf cf) d) := by
  have mixed := L.mixed; have t0 := L.t0; have a0 := L.a0; have z0 := L.z0; have v0 := L.v0; have t3 := L.t3; have a3 := L.a3; have z3 := L.z3; have v3 := L.v3; have t4 := L.t4; have a4 := L.a4; have z4 := L.z4; have v4 := L.v4; have t22 := L.t22; have a22 := L.a22; have z22 := L.z22; have v22 := L.v22; have t25 := L.t25; have a25 := L.a25; have z25 := L.z25; have v25 := L.v25; have t66 := L.t66; have a66 := L.a66; have z66 := L.z66; have aE := L.aE; have zE := L.zE
  have u22 := run_underlying L.t22; have u3 := run_underlying L.t3; have u66 := run_underlying L.t66
  have FG := L.fSta
  have eIns : ∀ args w, (callFunc 62 args).run P w = .ok (.enter 62 args) w := enters_of L.fIns (by kernel_rfl) rfl
  have eSym : ∀ args w, (callFunc 63 args).run P w = .ok (.enter 63 args) w := enters_of L.fSym (by kernel_rfl) rfl
  have S0 : Aside (SWK enc k w0 blk off d w) := S
  have CI : Aside (∀ (dk : Array α) (wr : World) (a b : Nat), dk.size = d.size → SWK enc k w0 blk off dk wr → a ≤ b → b ≤ d.size →
      Calls P 62 #[.slice (some ⟨blk, off, none⟩) d.size cap, .int .i64 a, .int .i64 b, .func (.func g) #[] cb] wr (SortEnd enc k w0 blk off (ltOf cf) a b dk)) := fun dk wr a b h1 h2 h3 h4 => by
    have := ins_any L I enc g cb blk off cap d0 dk w0 wr R (by omega) h2 (by omega) cf hS eg hcmp a b h3 (by omega)
    rw [h1] at this; exact this
  have CS : Aside (∀ (dk : Array α) (wr : World) (a m b : Nat), dk.size = d.size → SWK enc k w0 blk off dk wr → a < m → m < b → b ≤ d.size → SortedIn (ltOf cf) a m dk → SortedIn (ltOf cf) m b dk →
      Calls P 63 #[.slice (some ⟨blk, off, none⟩) d.size cap, .int .i64 a, .int .i64 m, .int .i64 b, .func (.func g) #[] cb] wr (SortEnd enc k w0 blk off (ltOf cf) a b dk)) := fun dk wr a m b h1 h2 h3 h4 h5 h6 h7 => by
    have := sym_all L enc g cb blk off cap d0 w0 R (by omega) cf hS eg hcmp (b - a + 1) dk wr a m b (by omega) (by omega) h3 h4 (by omega) h6 h7 h2
    rw [hs] at this; exact this
  clear S hcmp hS
  go_enter FG, Tryd.ntmps58
  go_wp2
  go_loopg [7, 8] d.size (fun kx s7 s8 wr => ∃ (a : Nat) (dk : Array α), s7 = .int .i64 a ∧ s8 = .int .i64 ((a : Int) + 20) ∧ a ≤ d.size ∧ d.size - a ≤ kx ∧ dk.size = d.size ∧ Aside (Pre (ltOf cf) 20 dk a) ∧ Aside (Stab (ltOf cf) d dk) ∧ Aside (SWK enc k w0 blk off dk wr))
  case atStart => exact ⟨0, d, rfl, rfl, Nat.zero_le _, Nat.le_refl _, rfl, (Pre.zero : Pre (ltOf cf) 20 d 0), Stab.refl d, S0⟩
  case round =>
    clear S0
    obtain ⟨a, dk, rfl, rfl, had, hkx, hds, H1, H2, S1⟩ := hrel
    by_cases hlt : a + 20 ≤ d.size
    · have hltz : (a : Int) + 20 ≤ (d.size : Int) := by omega
      have r1 : IntKind.i64.wrap ((a : Int) + 20 + 20) = (a : Int) + 20 + 20 := by rw [IntKind.wrap_i64]; omega
      have hc := CI.out dk wr a (a + 20) hds S1.out (by omega) hlt
      rw [show ((a + 20 : Nat) : Int) = (a : Int) + 20 by omega] at hc
      go_wp2_with (go_at_call 62; refine hc.mono ?_; rintro e w' ⟨rfl, d2, M2', S2'⟩; have S2 : Aside _ := S2'; have M2 : Aside _ := M2'; clear S2' M2')
      go_roundg (d.size - (a + 20))
      case measure => omega
      case rel =>
        have e2 : d2.size = d.size := M2.out.perm.1.trans hds
        have P2 : Aside (Pre (ltOf cf) 20 d2 (a + 20)) := Pre.step a (H1.out.congr fun i h => M2.out.perm.2.1 i (.inl h)) M2.out.sort
        exact ⟨a + 20, d2, by first | rfl | go_num, by first | rfl | go_num | (congr 1; omega), hlt, Nat.le_refl _, e2, P2, H2.out.trans M2.out.stab, S2⟩
    · have hltz : ¬ (a : Int) + 20 ≤ (d.size : Int) := by omega
      have hc := CI.out dk wr a d.size hds S1.out had (Nat.le_refl _)
      have hn : d.size < a + 20 := by omega
      go_wp2_with (go_at_call 62; refine hc.mono ?_; rintro e w' ⟨rfl, d2, M2', S2'⟩; have S2 : Aside _ := S2'; have M2 : Aside _ := M2'; clear S2' M2'; clear hc)
      have e2 : d2.size = d.size := M2.out.perm.1.trans hds
      have B2 : Aside (Blk (ltOf cf) 20 d.size d2 0) := (H1.out.congr (e := d2) fun i h => M2.out.perm.2.1 i (.inl h)).all had (.last a (by omega) M2.out.sort)
      have T2 : Aside (Stab (ltOf cf) d d2) := H2.out.trans M2.out.stab
      clear H1 H2 M2 S1
      rename World => wz
      go_loopg [6] d.size (fun kx s6 wr => ∃ (q : Nat) (dk : Array α), s6 = .int .i64 q ∧ 20 ≤ q ∧ q < 4611686018427387904 ∧ d.size - q ≤ kx ∧ dk.size = d.size ∧ Aside (Blk (ltOf cf) q d.size dk 0) ∧ Aside (Stab (ltOf cf) d dk) ∧ Aside (SWK enc k w0 blk off dk wr))
      case atStart => exact ⟨20, d2, rfl, Nat.le_refl _, by omega, by omega, e2, B2, T2, S2⟩
      case round =>
        clear S2 B2 T2 e2
        obtain ⟨q, dk, rfl, hq, hqb, hkx, hds, H1, H2, S1⟩ := hrel
        by_cases hlt : q < d.size
        · have hltz : (q : Int) < (d.size : Int) := by omega
          have r0 : IntKind.i64.wrap (2 * (q : Int)) = 2 * (q : Int) := by rw [IntKind.wrap_i64]; omega
          go_wp2
          go_loopg [7, 8] d.size (fun kx s7 s8 wr => ∃ (a : Nat) (dj : Array α), s7 = .int .i64 a ∧ s8 = .int .i64 ((a : Int) + 2 * (q : Int)) ∧ a ≤ d.size ∧ d.size - a ≤ kx ∧ dj.size = d.size ∧ Aside (Pre (ltOf cf) (q + q) dj a) ∧ Aside (Blk (ltOf cf) q d.size dj a) ∧ Aside (Stab (ltOf cf) d dj) ∧ Aside (SWK enc k w0 blk off dj wr))
          case atStart => exact ⟨0, dk, rfl, by first | rfl | (congr 1; omega), Nat.zero_le _, Nat.le_refl _, hds, (Pre.zero : Pre (ltOf cf) (q + q) dk 0), H1, H2, S1⟩
          case round =>
            clear S1 H1 H2 hds
            obtain ⟨a, dj, rfl, rfl, had, hkx, hds, H1, H3, H2, S1⟩ := hrel
            have r1 : IntKind.i64.wrap ((a : Int) + (q : Int)) = (a : Int) + (q : Int) := by rw [IntKind.wrap_i64]; omega
            by_cases hlt2 : a + q + q ≤ d.size
            · have hltz2 : (a : Int) + 2 * (q : Int) ≤ (d.size : Int) := by omega
              have r2 : IntKind.i64.wrap ((a : Int) + 2 * (q : Int) + 2 * (q : Int)) = (a : Int) + 2 * (q : Int) + 2 * (q : Int) := by rw [IntKind.wrap_i64]; omega
              have hT := H3.out.two (by omega) hlt2
              have hc := CS.out dj wr a (a + q) (a + q + q) hds S1.out (by omega) (by omega) hlt2 hT.1 hT.2.1
              rw [show ((a + q + q : Nat) : Int) = (a : Int) + 2 * (q : Int) by omega, show ((a + q : Nat) : Int) = (a : Int) + (q : Int) by omega] at hc
              have T3 : Aside (Blk (ltOf cf) q d.size dj (a + q + q)) := hT.2.2
              clear hT
              go_wp2_with (go_at_call 63; refine hc.mono ?_; rintro e w' ⟨rfl, d2, M2', S2'⟩; have S2 : Aside _ := S2'; have M2 : Aside _ := M2'; clear S2' M2')
              go_roundg (d.size - (a + q + q))
              case measure => omega
              case rel =>
                have e2 : d2.size = d.size := M2.out.perm.1.trans hds
                have P2 : Aside (Pre (ltOf cf) (q + q) d2 (a + q + q)) := by
                  have := Pre.step a (H1.out.congr (e := d2) fun i h => M2.out.perm.2.1 i (.inl h)) (by have := M2.out.sort; rwa [Nat.add_assoc] at this)
                  rw [← Nat.add_assoc] at this; exact this
                exact ⟨a + q + q, d2, by first | rfl | (congr 1; omega), by first | rfl | (congr 1; omega), hlt2, Nat.le_refl _, e2, P2, T3.out.congr (fun i h1 h2 => M2.out.perm.2.1 i (.inr h1)), H2.out.trans M2.out.stab, S2⟩
            · have hltz2 : ¬ (a : Int) + 2 * (q : Int) ≤ (d.size : Int) := by omega
              have r3 : IntKind.i64.wrap ((q : Int) * 2) = (q : Int) * 2 := by rw [IntKind.wrap_i64]; omega
              by_cases hlt3 : a + q < d.size
              · have hltz3 : (a : Int) + (q : Int) < (d.size : Int) := by omega
                have hT := H3.out.one (by omega) hlt3 (by omega)
                have hc := CS.out dj wr a (a + q) d.size hds S1.out (by omega) hlt3 (Nat.le_refl _) hT.1 hT.2
                rw [show ((a + q : Nat) : Int) = (a : Int) + (q : Int) by omega] at hc
                clear hT
                go_wp2_with (go_at_call 63; refine hc.mono ?_; rintro e w' ⟨rfl, d2, M2', S2'⟩; have S2 : Aside _ := S2'; have M2 : Aside _ := M2'; clear S2' M2')
                go_roundg (d.size - (q + q))
                case measure => omega
                case rel =>
                  have e2 : d2.size = d.size := M2.out.perm.1.trans hds
                  have B2 : Aside (Blk (ltOf cf) (q + q) d.size d2 0) := (H1.out.congr (e := d2) fun i h => M2.out.perm.2.1 i (.inl h)).all had (.last a (by omega) M2.out.sort)
                  exact ⟨q + q, d2, by first | rfl | (congr 1; omega), by omega, by omega, Nat.le_refl _, e2, B2, H2.out.trans M2.out.stab, S2⟩
              · have hltz3 : ¬ (a : Int) + (q : Int) < (d.size : Int) := by omega
                go_wp2
                go_roundg (d.size - (q + q))
                case measure => omega
                case rel =>
                  have B2 : Aside (Blk (ltOf cf) (q + q) d.size dj 0) := H1.out.all had (.last a (by omega) (H3.out.end_ (by omega)))
                  exact ⟨q + q, dj, by first | rfl | (congr 1; omega), by omega, by omega, Nat.le_refl _, hds, B2, H2, S1⟩
        · have hltz : ¬ (q : Int) < (d.size : Int) := by omega
          go_wp2
          go_end0
          exact ⟨rfl, dk, hds, by rw [hds]; exact H1.out.end_ (by omega), H2.out, S1.out⟩
set_option maxHeartbeats 1000000 in
set_option maxRecDepth 1000000 in
theorem sortst_any {k : Nat} (L : StT P k) (I : SlLaysF0.n20 P renT) (enc : α → List Value) (g : Nat) (cb : Array Value) (blk off cap : Nat) (d0 d : Array α) (w0 w : World)
    (R : RowK enc k w0 blk off d0) (hs : d0.size = d.size) (S : SWK enc k w0 blk off d w) (hsz : d.size < 4611686018427387904) (cf : α → α → Int) (hS : SWO (ltOf cf)) (eg : ∀ args w, (callFunc g args).run P w = .ok (.enter g args) w) (hcmp : CmpLays P g cb enc k cf blk off d0.size w0) (hbig : d.size < 2305843009213693952) :
    Calls P 55 #[.slice (some ⟨blk, off, none⟩) d.size cap, .func (.func g) #[] cb] w (StabEnd enc k w0 blk off (ltOf cf) d) := by
  have mixed := L.mixed; have t0 := L.t0; have a0 := L.a0; have z0 := L.z0; have v0 := L.v0; have t3 := L.t3; have a3 := L.a3; have z3 := L.z3; have v3 := L.v3; have t4 := L.t4; have a4 := L.a4; have z4 := L.z4; have v4 := L.v4; have t22 := L.t22; have a22 := L.a22; have z22 := L.z22; have v22 := L.v22; have t25 := L.t25; have a25 := L.a25; have z25 := L.z25; have v25 := L.v25; have t66 := L.t66; have a66 := L.a66; have z66 := L.z66; have aE := L.aE; have zE := L.zE
  have u22 := run_underlying L.t22; have u3 := run_underlying L.t3; have u66 := run_underlying L.t66
  have FG := L.fSor
  have eSta : ∀ args w, (callFunc 58 args).run P w = .ok (.enter 58 args) w := enters_of L.fSta (by kernel_rfl) rfl
  have hc := stable_any L I enc g cb blk off cap d0 d w0 w R hs S hsz cf hS eg hcmp hbig
  clear hcmp hS S
  go_enter FG, Tryd.ntmps55
  go_wp2_with (go_at_call 58; refine hc.mono ?_; rintro e w' ⟨rfl, h⟩)
  go_end0
  exact ⟨rfl, h⟩
end Go.Proofs.YtcaapnjipjemiaaDoor.P
