/- For every list of things and every key the law TicketOrders answers true: the order, the place and what is ahead. No condition. -/
import Derived.Test.YtmklafbmelkpmabKvOpen
import Derived.Test.YtmklafbmelkpmabTkLive
import Derived.Test.YtmklafbmelkpmabRows
namespace Go.Proofs.Ytmklafbmelkpmab.ticketOrders
open Go.ChangeShapes Go.WideShapes Go.ChangeAt Go.RowKit Go.Proofs.Ytmklafbmelkpmab.P
open Go.ChangeMaps (open_string shut_string)
set_option linter.unusedVariables false
set_option linter.unusedSimpArgs false
set_option maxHeartbeats 2000000
set_option maxRecDepth 100000

theorem walk (w : World) (A0 : Option Addr) (n0 c0 : Nat) (l0 : List KV) (a1 : ByteArray) (k0 : KVs w A0 n0 c0 l0) (w1 : a1.size ≤ maxLen) :
    Calls Try.prog 3 #[.slice A0 n0 c0, .string a1] w fun e w' => e = .returned (.bool true) ∧ Below w.heap.size w w' := by
  have K := Lib.hid k0
  cases hf : fewB 40 l0 with
  | false =>
    have HF := Lib.hid hf
    clear hf k0
    go_enter Try.func3, Try.ntmps3
    go_wp2_with fail
    refine (few_any A0 n0 c0 l0 40 _ K.out (by omega)).mono ?_; rintro e w' ⟨rfl, rfl⟩
    rw [HF.out]
    go_wp2_with fail
    refine (tklive_any _).mono ?_; rintro e w2 ⟨rfl, hb⟩
    have BL := Lib.hid hb
    clear hb
    go_wp2
    go_ret
    exact ⟨rfl, BL.out⟩
  | true =>
    have HF := Lib.hid hf
    have hn : n0 ≤ 40 := by
      have := k0.len
      unfold fewB at hf
      simp at hf
      omega
    clear hf
    by_cases hz : a1.size ≤ 60
    · have z1 : ¬ ((60 : Int) < (a1.size : Int)) := by omega
      have hl := k0.len
      have hol : (ordL befB l0).length = n0 := by rw [ordL_len, hl]
      clear k0
      go_enter Try.func3, Try.ntmps3
      go_wp2_with fail
      refine (few_any A0 n0 c0 l0 40 _ K.out (by omega)).mono ?_; rintro e w' ⟨rfl, rfl⟩
      rw [HF.out]
      go_wp2_with fail
      refine (order_any A0 n0 c0 l0 _ K.out (by omega)).mono ?_; rintro e w1 ⟨g, rfl, -, hk, hb⟩
      rw [hl] at hk ⊢
      have B1 := Lib.hid hb
      have O1 := Lib.hid hk
      clear hb hk
      go_wp2_with fail
      refine (orderR_any A0 n0 c0 l0 _ (K.out.keep B1.out) (by omega)).mono ?_; rintro e w2 ⟨A2, m2, d2, rfl, hk, hb⟩
      obtain rfl : n0 = m2 := hol.symm.trans hk.len
      have B2 := Lib.hid (then_ B1.out hb)
      have O2 := Lib.hid (O1.out.keep hb)
      have R2 := Lib.hid hk
      clear hb hk
      go_wp2_with fail
      refine (kvs_same _ A2 _ _ d2 _ _ O2.out R2.out (by omega)).mono ?_; rintro e w3 ⟨rfl, hb⟩
      have B3 := Lib.hid (then_ B2.out hb)
      clear hb
      go_wp2_with fail
      refine (place_any A0 n0 c0 l0 a1 _ (K.out.keep B3.out) (by omega)).mono ?_; rintro e w4 ⟨rfl, hb⟩
      have B4 := Lib.hid (then_ B3.out hb)
      clear hb
      go_wp2_with fail
      refine (placeR_any A0 n0 c0 l0 a1 _ (K.out.keep B4.out) (by omega)).mono ?_; rintro e w5 ⟨rfl, hb⟩
      have B5 := Lib.hid (then_ B4.out hb)
      clear hb
      go_wp2_with fail
      refine (ahead_any A0 n0 c0 l0 a1 _ (K.out.keep B5.out) (by omega)).mono ?_; rintro e w6 ⟨g6, q6, d6, rfl, -, hk, hb⟩
      have B6 := Lib.hid (then_ B5.out hb)
      have O6 := Lib.hid hk
      have q6n : q6 ≤ 1000000 := by have := hk.len; unfold aheadL at this; rw [List.length_take, hol] at this; omega
      clear hb hk
      go_wp2_with fail
      refine (aheadR_any A0 n0 c0 l0 a1 _ (K.out.keep B6.out) (by omega)).mono ?_; rintro e w7 ⟨A7, m7, d7, rfl, hk, hb⟩
      obtain rfl : q6 = m7 := O6.out.len.symm.trans hk.len
      have B7 := Lib.hid (then_ B6.out hb)
      have O7 := Lib.hid (O6.out.keep hb)
      have R7 := Lib.hid hk
      clear hb hk
      go_wp2_with fail
      refine (kvs_same _ A7 _ _ d7 _ _ O7.out R7.out q6n).mono ?_; rintro e w8 ⟨rfl, hb⟩
      have B8 := Lib.hid (then_ B7.out hb)
      clear hb
      go_wp2_with fail
      refine (tklive_any _).mono ?_; rintro e w9 ⟨rfl, hb⟩
      have B9 := Lib.hid (then_ B8.out hb)
      clear hb
      go_wp2
      go_ret
      exact ⟨rfl, B9.out⟩
    · have z1 : (60 : Int) < (a1.size : Int) := by omega
      clear k0
      go_enter Try.func3, Try.ntmps3
      go_wp2_with fail
      refine (few_any A0 n0 c0 l0 40 _ K.out (by omega)).mono ?_; rintro e w' ⟨rfl, rfl⟩
      rw [HF.out]
      go_wp2_with fail
      refine (tklive_any _).mono ?_; rintro e w2 ⟨rfl, hb⟩
      have BL := Lib.hid hb
      clear hb
      go_wp2
      go_ret
      exact ⟨rfl, BL.out⟩

theorem own : ownKnob Try.prog.godebug = none := by kernel_rfl
theorem laidOut : laidOutB Try.prog = true := by kernel_rfl

set_option maxRecDepth 100000 in
theorem lifted (os : Os) (started : os.Started) (H : Type) (enc : TypeId × Value → H) :
    ReturnsInHanded {} Try.checked os 3 .any (Rows.ticketOrdersSpec.pre6 enc Try.prog Try.f3 Rows.ticketOrdersRow.domain false) (Rows.ticketOrdersSpec.post enc Try.prog Try.f3 false true false false) := by
  refine returnsInHanded_of_change (C := Try.checked) own started (by kernel_rfl) Try.func3
    (ChangeSpec.witness6 (enc := enc) (C := Try.checked) false ⟨#[], #[.slice none 0 0, .string ByteArray.empty], []⟩ 8 (by kernel_rfl) (by kernel_rfl) (by kernel_rfl) (by kernel_rfl)) ?_
  intro W base args ds gs before hval0 hW hcnd _
  have hval : ∀ (j : Nat) t v, Try.f3.params[j]? = some t → args[j]? = some v → Value.okWide Try.prog W .any base t v := hval0
  have hW' := hW
  obtain ⟨p, q, hA0, hV, rfl, hfz, hnd⟩ := hW
  have hA : DataW.TrodAll enc Try.prog W 0 (fun _ => true) true Try.f3.params.toList args.toList ds p := hA0
  rw [Try.params3] at hA hval
  obtain ⟨v0, vs0, d0, ds0, p0, q0, hargs, rfl, rfl, h0, r0⟩ := trodAll_cons hA
  obtain ⟨v1, vs1, d1, ds1, p1, q1, rfl, rfl, rfl, h1, r1⟩ := trodAll_cons r0
  obtain ⟨rfl, rfl, rfl⟩ := trodAll_nil r1
  obtain rfl : args = #[v0, v1] := by cases args; simp_all
  obtain ⟨rfl, rfl⟩ := trodVars_none hV
  obtain ⟨A0, n0, c0, l0, rfl, k0⟩ := open_kvs (hval 0 22 v0 rfl rfl) h0
  obtain ⟨a1, rfl, rfl, rfl, w1⟩ := open_string Try.underlying9 (hval 1 9 v1 rfl rfl) h1
  clear hA0 hval0
  refine (walk W A0 n0 c0 l0 a1 k0 w1).mono fun e W' ⟨he, bel⟩ => ?_
  subst he
  exact ⟨_, rfl, _, _, _, [], _, [], hW', trodAll_mk1 (shut_bool Try.underlying4 _), (trodAll_cons_mk (Below.trod laidOut (by kernel_rfl) (of_decide_eq_true (by kernel_rfl)) h0 bel (fun x hx => hW'.lt x (by simp [hx]))) (trodAll_cons_mk (shut_string Try.underlying9 w1) trodAll_mk0)), rfl, bel.frame _, fun h => by cases h⟩

theorem over : Rows.ticketOrdersRow.holds Try.pinned (OpenSpec.ofChange Rows.ticketOrdersSpec) :=
  OpenClaim.holds_of_wide 3 Try.f3 rfl rfl rfl rfl rfl rfl rfl ⟨rfl, rfl, rfl, rfl, rfl⟩ rfl rfl rfl rfl rfl (by kernel_rfl) Try.func3 (by kernel_rfl)
    (of_decide_eq_true (by kernel_rfl)) (by unfold Func.isWrapper; first | (rw [if_pos (by decide +kernel)]; kernel_rfl) | (rw [if_neg (by decide +kernel)]; exact ⟨rfl, rfl⟩))
    (fun os started H enc _ => lifted os started H enc)

theorem proved : Rows.TicketOrdersSaid := over
#print axioms proved
end Go.Proofs.Ytmklafbmelkpmab.ticketOrders
