/- For every store that may be, every key and any two values the law TxnPuts answers true: of two Puts of one key the second one changes nothing; a Drop takes away what the first one made, and a second Drop nothing more. No condition. -/
import Derived.Deep.RegionHeld3
import Derived.Deep.Cut
import Derived.Deep.DeepCutAuto
import Derived.Test.YtlffhehpeeiogaaTxLive
import Derived.Test.YtlffhehpeeiogaaTxPutPure
import Derived.Test.YtlffhehpeeiogaaTxRef
import Derived.Test.YtlffhehpeeiogaaKeyTwo
import Derived.Test.YtlffhehpeeiogaaMvOpen
import Derived.Test.YtlffhehpeeiogaaTxPutsA
import Derived.Test.YtlffhehpeeiogaaTxPutsB
import Derived.Test.YtlffhehpeeiogaaTxPutsC
import Derived.Test.YtlffhehpeeiogaaRows
namespace Go.Proofs.Ytlffhehpeeiogaa.txnPuts
open Go.ChangeShapes Go.WideShapes Go.ChangeAt Go.RowKit Go.Proofs.Ytlffhehpeeiogaa.P
open Go.ChangeMaps (open_string shut_string)
set_option linter.unusedVariables false
set_option linter.unusedSimpArgs false
set_option maxHeartbeats 20000000
set_option maxRecDepth 100000

theorem walk (w : World) (s0 : St) (A0 : Option Addr) (n0 c0 : Nat) (B0 : Option Addr) (m0 d0 : Nat) (a1 a2 b2 : ByteArray) (k0 : StAt w s0 A0 n0 c0 B0 m0 d0) (w1 : a1.size ≤ maxLen) (w2 : a2.size ≤ maxLen) (u2 : b2.size ≤ maxLen) :
    Calls Try.prog 13 #[s0.agg A0 n0 c0 B0 m0 d0, .string a1, .agg #[.string a2, .string b2]] w fun e w' => e = .returned (.bool true) ∧ Below w.heap.size w w' := by
  cases hf : fewS s0 with
  | false => exact no_few w s0 A0 n0 c0 B0 m0 d0 a1 a2 b2 k0 w1 w2 u2 hf
  | true =>
    cases hm : mayB s0 with
    | false => exact no_may w s0 A0 n0 c0 B0 m0 d0 a1 a2 b2 k0 w1 w2 u2 hf hm
    | true =>
      by_cases h1 : a1.size ≤ 60
      · by_cases h2 : a2.size ≤ 60
        · by_cases h3 : b2.size ≤ 60
          · by_cases he : doE s0 (putT a1 a2 1) = 0
            · cases hy : doY s0 (putT a1 a2 1) with
              | false => exact idle w s0 A0 n0 c0 B0 m0 d0 a1 a2 b2 k0 w1 w2 u2 hf hm h1 h2 h3 he hy
              | true =>
                by_cases hd : doE (doS s0 (putT a1 a2 1)) (dropT a1 (doS s0 (putT a1 a2 1)).rev) = 0
                · exact gone w s0 A0 n0 c0 B0 m0 d0 a1 a2 b2 k0 w1 w2 u2 hf hm h1 h2 h3 he hy hd
                · exact full w s0 A0 n0 c0 B0 m0 d0 a1 a2 b2 k0 w1 w2 u2 hf hm h1 h2 h3 he hy hd
            · exact err w s0 A0 n0 c0 B0 m0 d0 a1 a2 b2 k0 w1 w2 u2 hf hm h1 h2 h3 he
          · exact no_l3 w s0 A0 n0 c0 B0 m0 d0 a1 a2 b2 k0 w1 w2 u2 hf hm h1 h2 (by omega)
        · exact no_l2 w s0 A0 n0 c0 B0 m0 d0 a1 a2 b2 k0 w1 w2 u2 hf hm h1 (by omega)
      · exact no_l1 w s0 A0 n0 c0 B0 m0 d0 a1 a2 b2 k0 w1 w2 u2 hf hm (by omega)

theorem own : ownKnob Try.prog.godebug = none := by kernel_rfl
theorem laidOut : laidOutB Try.prog = true := by kernel_rfl

set_option maxRecDepth 100000 in
theorem lifted (os : Os) (started : os.Started) (H : Type) (enc : TypeId × Value → H) :
    ReturnsInHanded {} Try.checked os 13 .any (Rows.txnPutsSpec.pre6 enc Try.prog Try.f13 Rows.txnPutsRow.domain false) (Rows.txnPutsSpec.post enc Try.prog Try.f13 false true false false) := by
  refine returnsInHanded_of_change (C := Try.checked) own started (by kernel_rfl) Try.func13
    (ChangeSpec.witness6 (enc := enc) (C := Try.checked) false ⟨#[], #[.agg #[.int .i64 0, .int .i64 0, .slice none 0 0, .slice none 0 0], .string ByteArray.empty, .agg #[.string ByteArray.empty, .string ByteArray.empty]], []⟩ 8 (by kernel_rfl) (by kernel_rfl) (by kernel_rfl) (by kernel_rfl)) ?_
  intro W base args ds gs before hval0 hW hcnd _
  have hval : ∀ (j : Nat) t v, Try.f13.params[j]? = some t → args[j]? = some v → Value.okWide Try.prog W .any base t v := hval0
  have hW' := hW
  obtain ⟨p, q, hA0, hV, rfl, hfz, hnd⟩ := hW
  have hA : DataW.TrodAll enc Try.prog W 0 (fun _ => true) true Try.f13.params.toList args.toList ds p := hA0
  rw [Try.params13] at hA hval
  obtain ⟨v0, vs0, d0, ds0, p0, q0, hargs, rfl, rfl, h0, r0⟩ := trodAll_cons hA
  obtain ⟨v1, vs1, d1, ds1, p1, q1, rfl, rfl, rfl, h1, r1⟩ := trodAll_cons r0
  obtain ⟨v2, vs2, d2, ds2, p2, q2, rfl, rfl, rfl, h2, r2⟩ := trodAll_cons r1
  obtain ⟨rfl, rfl, rfl⟩ := trodAll_nil r2
  obtain rfl : args = #[v0, v1, v2] := by cases args; simp_all
  obtain ⟨rfl, rfl⟩ := trodVars_none hV
  obtain ⟨s0, A0, n0, c0, B0, m0, d0, rfl, k0⟩ := open_st (hval 0 25 v0 rfl rfl) h0
  obtain ⟨a1, rfl, rfl, rfl, w1⟩ := open_string Try.underlying9 (hval 1 9 v1 rfl rfl) h1
  obtain ⟨a2, b2, rfl, rfl, rfl, w2, u2⟩ := open_two_string Try.underlying71 Try.underlying9 (by kernel_rfl) (by kernel_rfl) (hval 2 71 v2 rfl rfl) h2
  clear hA0 hval0
  refine (walk W s0 A0 n0 c0 B0 m0 d0 a1 a2 b2 k0 w1 w2 u2).mono fun e W' ⟨he, bel⟩ => ?_
  subst he
  exact ⟨_, rfl, _, _, _, [], _, [], hW', trodAll_mk1 (shut_bool Try.underlying4 _), (trodAll_cons_mk (Below.trod laidOut (by kernel_rfl) (of_decide_eq_true (by kernel_rfl)) h0 bel (fun x hx => hW'.lt x (by simp [hx]))) (trodAll_cons_mk (shut_string Try.underlying9 w1) (trodAll_cons_mk (shut_two_string Try.underlying71 Try.underlying9 (by kernel_rfl) (by kernel_rfl) w2 u2) trodAll_mk0))), rfl, bel.frame _, fun h => by cases h⟩

theorem over : Rows.txnPutsRow.holds Try.pinned (OpenSpec.ofChange Rows.txnPutsSpec) :=
  OpenClaim.holds_of_wide 13 Try.f13 rfl rfl rfl rfl rfl rfl rfl ⟨rfl, rfl, rfl, rfl, rfl⟩ rfl rfl rfl rfl rfl (by kernel_rfl) Try.func13 (by kernel_rfl)
    (of_decide_eq_true (by kernel_rfl)) (by unfold Func.isWrapper; first | (rw [if_pos (by decide +kernel)]; kernel_rfl) | (rw [if_neg (by decide +kernel)]; exact ⟨rfl, rfl⟩))
    (fun os started H enc _ => lifted os started H enc)

theorem proved : Rows.TxnPutsSaid := over
#print axioms proved
end Go.Proofs.Ytlffhehpeeiogaa.txnPuts
