/- Requests and replies, plain: cut short, with more behind them, of the other kind. -/
import Derived.Test.YtimbklggifbibaaGreatDoorWireAsked
namespace Go.Proofs.YtimbklggifbibaaGreatDoor.P
open Go.RowKit Go.Lib
set_option linter.unusedVariables false

theorem asked_more {s : ByteArray} {x : Rq} {m : List UInt8} (hx : mayAskB x = true) (h : s.data.toList = askL x ++ m) (hm : m ≠ []) : askedB s = none := by
  have h' : s.data.toList = varL 1 ++ (put_rq x ++ m) := by rw [h, askL, List.append_assoc]
  obtain ⟨e0, h0⟩ := first_put h' (by omega)
  have e1 := rq_put h0 (rq_may hx)
  have hl := list_size s
  rw [h, List.length_append] at hl
  simp only [askL, List.length_append] at hl
  have hp : 0 < m.length := by cases m; exact absurd rfl hm; simp
  unfold askedB
  rw [e0, e1, if_neg]
  rw [Bool.and_eq_true, done_iff]
  rintro ⟨⟨_, h2⟩, _⟩
  simp only at h2
  omega
theorem told_apart {s : ByteArray} {x : Rq} {m : List UInt8} (h : s.data.toList = askL x ++ m) : toldB s = none := by
  cases ht : toldB s with
  | none => rfl
  | some y =>
    have h2 := (told_got ht).1
    rw [h, askL, tellL, show varL 1 = [1] by decide, show varL 2 = [2] by decide] at h2
    simp at h2
theorem asked_cut {s u : ByteArray} {x : Rq} {k : Nat} (hx : mayAskB x = true) (h : s.data.toList = askL x) (hu : u.data.toList = s.data.toList.take k) (hk : k < s.size) : askedB u = none := by
  cases ha : askedB u with
  | none => rfl
  | some y =>
    obtain ⟨h1, h2⟩ := asked_got ha
    have h3 : s.data.toList = askL y ++ s.data.toList.drop k := by rw [← h1, hu, List.take_append_drop]
    have h4 := asked_more h2 h3 (by
      intro e
      have := congrArg List.length e
      rw [List.length_drop, list_size] at this
      simp at this; omega)
    rw [asked_put h hx] at h4
    cases h4
theorem told_cut {s u : ByteArray} {x : Rq} {k : Nat} (h : s.data.toList = askL x) (hu : u.data.toList = s.data.toList.take k) : toldB u = none := by
  cases ht : toldB u with
  | none => rfl
  | some y =>
    have h1 := (told_got ht).1
    rw [hu, h, askL, tellL, show varL 1 = [1] by decide, show varL 2 = [2] by decide] at h1
    cases k with
    | zero => simp at h1
    | succ k => simp at h1
theorem asked_nil : askedB ⟨#[]⟩ = none := by
  cases ha : askedB ⟨#[]⟩ with
  | none => rfl
  | some y =>
    have h1 := (asked_got ha).1
    rw [askL, show varL 1 = [1] by decide] at h1
    simp at h1
theorem told_nil : toldB ⟨#[]⟩ = none := by
  cases ha : toldB ⟨#[]⟩ with
  | none => rfl
  | some y =>
    have h1 := (told_got ha).1
    rw [tellL, show varL 2 = [2] by decide] at h1
    simp at h1
theorem askB_of {y : Rq} (h : mayAskB y = true) : askB y = bytesOf (askL y) := by unfold askB; rw [if_pos h]
theorem tellB_of {y : Rp} (h : mayTellB y = true) : tellB y = bytesOf (tellL y) := by unfold tellB; rw [if_pos h]
theorem askB_no {y : Rq} (h : mayAskB y = false) : askB y = ⟨#[]⟩ := by unfold askB; rw [if_neg (by simp [h])]
theorem tellB_no {y : Rp} (h : mayTellB y = false) : tellB y = ⟨#[]⟩ := by unfold tellB; rw [if_neg (by simp [h])]
theorem askB_list {y : Rq} (h : mayAskB y = true) : (askB y).data.toList = askL y := by rw [askB_of h, bytesOf_list]
theorem tellB_list {y : Rp} (h : mayTellB y = true) : (tellB y).data.toList = tellL y := by rw [tellB_of h, bytesOf_list]
theorem asked_ask {y : Rq} (h : mayAskB y = true) : askedB (askB y) = some y := asked_put (askB_list h) h
theorem told_tell {y : Rp} (h : mayTellB y = true) : toldB (tellB y) = some y := told_put (tellB_list h) h
/-- Bytes that are read are those that are written. -/
theorem ask_asked {s : ByteArray} {y : Rq} (h : askedB s = some y) : askB y = s ∧ mayAskB y = true := by
  obtain ⟨h1, h2⟩ := asked_got h
  exact ⟨list_inj (by rw [askB_list h2, h1]), h2⟩
theorem tell_told {s : ByteArray} {y : Rp} (h : toldB s = some y) : tellB y = s ∧ mayTellB y = true := by
  obtain ⟨h1, h2⟩ := told_got h
  exact ⟨list_inj (by rw [tellB_list h2, h1]), h2⟩
theorem put_cm_le {x : Cm} (h : x.may) : (put_cm x).length ≤ 3000 := put_cm_len (cm_fit h)
theorem ask_len {y : Rq} (h : mayAskB y = true) : (askL y).length ≤ 50000 := by
  have hm := rq_fit (rq_may h)
  have hM := rq_may h
  have g0 := varsL_len [y.kind, y.who, y.seq]; simp only [List.length_cons, List.length_nil] at g0
  have g1 := txtL_len y.key hm.key
  have g2 := txtL_len y.val hm.val
  have g3 := varsL_len [y.lease, y.rev, y.ttl, y.token]; simp only [List.length_cons, List.length_nil] at g3
  have p0 := puts_len put_cm y.iff (fun x hx => put_cm_len (hm.iff x hx)); have q0 := hM.iffn; have v0 := (varL_length y.iff.length).2
  have p1 := puts_len put_mu y.thn (fun x hx => put_mu_len (hm.thn x hx)); have q1 := hM.thnn; have v1 := (varL_length y.thn.length).2
  have p2 := puts_len put_mu y.els (fun x hx => put_mu_len (hm.els x hx)); have q2 := hM.elsn; have v2 := (varL_length y.els.length).2
  have v3 := (varL_length 1).2
  have b : (yesL y.once).length = 1 := rfl
  simp only [askL, put_rq, List.length_append]
  omega
theorem tell_len {y : Rp} (h : mayTellB y = true) : (tellL y).length ≤ 200000 := by
  have hm := rp_fit (rp_may h)
  have hM := rp_may h
  have g0 := varsL_len [y.code, y.who, y.seq, y.rev, y.lease, y.ttl]; simp only [List.length_cons, List.length_nil] at g0
  have p0 := puts_len put_kv y.kvs (fun x hx => put_kv_len (hm.kvs x hx)); have q0 := hM.kvsn; have v0 := (varL_length y.kvs.length).2
  have p1 := puts_len put_ev y.evs (fun x hx => put_ev_len (hm.evs x hx)); have q1 := hM.evsn; have v1 := (varL_length y.evs.length).2
  have v3 := (varL_length 2).2
  have b : (yesL y.yes).length = 1 := rfl
  simp only [tellL, put_rp, List.length_append]
  omega
theorem askB_len (y : Rq) : (askB y).size ≤ 50000 := by
  cases h : mayAskB y
  · rw [askB_no h]; decide
  · rw [askB_of h, bytesOf_size]; exact ask_len h
theorem tellB_len (y : Rp) : (tellB y).size ≤ 200000 := by
  cases h : mayTellB y
  · rw [tellB_no h]; decide
  · rw [tellB_of h, bytesOf_size]; exact tell_len h
end Go.Proofs.YtimbklggifbibaaGreatDoor.P
