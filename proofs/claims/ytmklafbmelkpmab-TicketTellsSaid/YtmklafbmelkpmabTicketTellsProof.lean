/- For every kind, every list of things and every key the law TicketTells answers true: who is ready, the keys that hold, the signs. No condition. -/
import Derived.Test.YtmklafbmelkpmabKvOpen
import Derived.Test.YtmklafbmelkpmabTkLive
import Derived.Test.YtmklafbmelkpmabKeyTwo
import Derived.Test.YtmklafbmelkpmabRows
namespace Go.Proofs.Ytmklafbmelkpmab.ticketTells
open Go.ChangeShapes Go.WideShapes Go.ChangeAt Go.RowKit Go.Proofs.Ytmklafbmelkpmab.P
open Go.ChangeMaps (open_string shut_string)
set_option linter.unusedVariables false
set_option linter.unusedSimpArgs false
set_option maxHeartbeats 2000000
set_option maxRecDepth 100000

theorem walk (w : World) (x y : Int) (A0 : Option Addr) (n0 c0 : Nat) (l0 : List KV) (a1 : ByteArray) (wx : (Lit.int .i64 x).wf = true) (wy : (Lit.int .i64 y).wf = true) (k0 : KVs w A0 n0 c0 l0) (w1 : a1.size ≤ maxLen) :
    Calls Try.prog 4 #[.agg #[.int .i64 x, .int .i64 y], .slice A0 n0 c0, .string a1] w fun e w' => e = .returned (.bool true) ∧ Below w.heap.size w w' := by
  have B0 := Lib.hid (new1 w (.cells #[.int .i64 x, .int .i64 y] 30))
  have K := Lib.hid (k0.keep B0.out)
  cases hf : fewB 40 l0 with
  | false =>
    have HF := Lib.hid hf
    clear hf k0
    go_enter Try.func4, Try.ntmps4
    go_wp2_with fail
    refine (few_any A0 n0 c0 l0 40 _ K.out (by omega)).mono ?_; rintro e w' ⟨rfl, rfl⟩
    rw [HF.out]
    go_wp2_with fail
    refine (tklive_any _).mono ?_; rintro e w2 ⟨rfl, hb⟩
    have BL := Lib.hid (then_ B0.out hb)
    clear hb
    go_wp2
    go_ret
    exact ⟨rfl, BL.out⟩
  | true =>
    have HF := Lib.hid hf
    have hn : n0 ≤ 40 := by
      have := k0.len
      unfold fewB at hf
      simp at hf
      omega
    clear hf
    by_cases hz : a1.size ≤ 60
    · have z1 : ¬ ((60 : Int) < (a1.size : Int)) := by omega
      have hl := k0.len
      have e0 := (own_new w #[.int .i64 x, .int .i64 y] 30).cell 0 _ rfl
      have e1 := (own_new w #[.int .i64 x, .int .i64 y] 30).cell 1 _ rfl
      have hx0 : w.heap.size < (w.alloc (.cells #[.int .i64 x, .int .i64 y] 30)).heap.size := by simp
      clear k0
      go_enter Try.func4, Try.ntmps4
      go_wp2_with fail
      refine (few_any A0 n0 c0 l0 40 _ K.out (by omega)).mono ?_; rintro e w' ⟨rfl, rfl⟩
      rw [HF.out]
      generalize w.alloc (.cells #[.int .i64 x, .int .i64 y] 30) = v0 at *
      go_wp2_with fail
      go_region_held3 (fun w' => w'.cell? ⟨w.heap.size, 0, none⟩ = some (.int .i64 x) ∧ w'.cell? ⟨w.heap.size, 1, none⟩ = some (.int .i64 y)) (go_keep) (first
        | (go_at_call 18; refine (ready_any x y A0 n0 c0 l0 a1 _ (K.out.keep (Below.drew (Below.refl _ _))) (by omega)).mono ?_; rintro e w1 ⟨rfl, hb⟩; have B1 : Hid (Below v0.heap.size v0 w1) := Lib.hid (Below.trans (Below.drew (Below.refl _ _)) hb); clear hb; obtain ⟨hc1, hf1⟩ := bcell B1.out)
        | (go_at_call 19; refine (readyR_any x y A0 n0 c0 l0 a1 _ (K.out.keep B1.out) (by omega)).mono ?_; rintro e w2 ⟨rfl, hb⟩; have B2 := Lib.hid (then_ B1.out hb); clear hb hc1 hf1; obtain ⟨hc2, hf2⟩ := bcell B2.out)
        | (go_at_call 21; refine (holders_any x y A0 n0 c0 l0 _ (K.out.keep B2.out) (by omega)).mono ?_; rintro e w3 ⟨H3, d3, rfl, hr, hb⟩; have B3 := Lib.hid (then_ B2.out hb); have R3 := Lib.hid hr; clear hb hr hc2 hf2; obtain ⟨hc3, hf3⟩ := bcell B3.out)
        | (go_at_call 22; refine (holdersR_any x y A0 n0 c0 l0 _ (K.out.keep B3.out) (by omega)).mono ?_; rintro e w4 ⟨H4, d4, rfl, hr, hb⟩; have B4 := Lib.hid (then_ B3.out hb); have R4 := Lib.hid hr; have R3b := Lib.hid (R3.out.below hb); clear hb hr hc3 hf3; obtain ⟨hc4, hf4⟩ := bcell B4.out)
        | (go_at_call 20; refine (texts_same H3 H4 _ d3 d4 _ _ R3b.out R4.out (by have := holdTo_len x y (ordL befB l0) l0.length; unfold holdersL; omega)).mono ?_; rintro e w5 ⟨rfl, hb⟩; have B5 := Lib.hid (then_ B4.out hb); clear hb hc4 hf4; obtain ⟨hc5, hf5⟩ := bcell B5.out)
        | (go_at_call 23; refine (sign_any x _).mono ?_; rintro e w6 ⟨rfl, rfl⟩)
        | (go_at_call 24; refine (signR_any x _).mono ?_; rintro e w7 ⟨rfl, rfl⟩)
        | (go_at_call 10; refine (tklive_any _).mono ?_; rintro e w8 ⟨rfl, hb⟩; have B8 := Lib.hid (then_ B5.out hb); clear hb hc5 hf5; obtain ⟨hc8, hf8⟩ := bcell B8.out))
      go_wp2
      go_ret
      exact ⟨rfl, then_ B0.out B8.out⟩
    · have z1 : (60 : Int) < (a1.size : Int) := by omega
      clear k0
      go_enter Try.func4, Try.ntmps4
      go_wp2_with fail
      refine (few_any A0 n0 c0 l0 40 _ K.out (by omega)).mono ?_; rintro e w' ⟨rfl, rfl⟩
      rw [HF.out]
      go_wp2_with fail
      refine (tklive_any _).mono ?_; rintro e w2 ⟨rfl, hb⟩
      have BL := Lib.hid (then_ B0.out hb)
      clear hb
      go_wp2
      go_ret
      exact ⟨rfl, BL.out⟩

theorem own : ownKnob Try.prog.godebug = none := by kernel_rfl
theorem laidOut : laidOutB Try.prog = true := by kernel_rfl

set_option maxRecDepth 100000 in
theorem lifted (os : Os) (started : os.Started) (H : Type) (enc : TypeId × Value → H) :
    ReturnsInHanded {} Try.checked os 4 .any (Rows.ticketTellsSpec.pre6 enc Try.prog Try.f4 Rows.ticketTellsRow.domain false) (Rows.ticketTellsSpec.post enc Try.prog Try.f4 false true false false) := by
  refine returnsInHanded_of_change (C := Try.checked) own started (by kernel_rfl) Try.func4
    (ChangeSpec.witness6 (enc := enc) (C := Try.checked) false ⟨#[], #[.agg #[.int .i64 0, .int .i64 0], .slice none 0 0, .string ByteArray.empty], []⟩ 8 (by kernel_rfl) (by kernel_rfl) (by kernel_rfl) (by kernel_rfl)) ?_
  intro W base args ds gs before hval0 hW hcnd _
  have hval : ∀ (j : Nat) t v, Try.f4.params[j]? = some t → args[j]? = some v → Value.okWide Try.prog W .any base t v := hval0
  have hW' := hW
  obtain ⟨p, q, hA0, hV, rfl, hfz, hnd⟩ := hW
  have hA : DataW.TrodAll enc Try.prog W 0 (fun _ => true) true Try.f4.params.toList args.toList ds p := hA0
  rw [Try.params4] at hA hval
  obtain ⟨v0, vs0, d0, ds0, p0, q0, hargs, rfl, rfl, h0, r0⟩ := trodAll_cons hA
  obtain ⟨v1, vs1, d1, ds1, p1, q1, rfl, rfl, rfl, h1, r1⟩ := trodAll_cons r0
  obtain ⟨v2, vs2, d2, ds2, p2, q2, rfl, rfl, rfl, h2, r2⟩ := trodAll_cons r1
  obtain ⟨rfl, rfl, rfl⟩ := trodAll_nil r2
  obtain rfl : args = #[v0, v1, v2] := by cases args; simp_all
  obtain ⟨rfl, rfl⟩ := trodVars_none hV
  obtain ⟨a0, b0, rfl, rfl, rfl, w0, u0⟩ := open_two_int Try.underlying30 Try.underlying3 (by kernel_rfl) (by kernel_rfl) (hval 0 30 v0 rfl rfl) h0
  obtain ⟨A1, n1, c1, l1, rfl, k1⟩ := open_kvs (hval 1 22 v1 rfl rfl) h1
  obtain ⟨a2, rfl, rfl, rfl, w2⟩ := open_string Try.underlying9 (hval 2 9 v2 rfl rfl) h2
  clear hA0 hval0
  refine (walk W a0 b0 A1 n1 c1 l1 a2 w0 u0 k1 w2).mono fun e W' ⟨he, bel⟩ => ?_
  subst he
  exact ⟨_, rfl, _, _, _, [], _, [], hW', trodAll_mk1 (shut_bool Try.underlying4 _), (trodAll_cons_mk (shut_two_int Try.underlying30 Try.underlying3 (by kernel_rfl) (by kernel_rfl) w0 u0) (trodAll_cons_mk (Below.trod laidOut (by kernel_rfl) (of_decide_eq_true (by kernel_rfl)) h1 bel (fun x hx => hW'.lt x (by simp [hx]))) (trodAll_cons_mk (shut_string Try.underlying9 w2) trodAll_mk0))), rfl, bel.frame _, fun h => by cases h⟩

theorem over : Rows.ticketTellsRow.holds Try.pinned (OpenSpec.ofChange Rows.ticketTellsSpec) :=
  OpenClaim.holds_of_wide 4 Try.f4 rfl rfl rfl rfl rfl rfl rfl ⟨rfl, rfl, rfl, rfl, rfl⟩ rfl rfl rfl rfl rfl (by kernel_rfl) Try.func4 (by kernel_rfl)
    (of_decide_eq_true (by kernel_rfl)) (by unfold Func.isWrapper; first | (rw [if_pos (by decide +kernel)]; kernel_rfl) | (rw [if_neg (by decide +kernel)]; exact ⟨rfl, rfl⟩))
    (fun os started H enc _ => lifted os started H enc)

theorem proved : Rows.TicketTellsSaid := over
#print axioms proved
end Go.Proofs.Ytmklafbmelkpmab.ticketTells
