/- What is written is read: events, lists, requests, replies; whole texts. -/
import Derived.Test.YtimbklggifbibaaGreatDoorWirePut1
namespace Go.Proofs.YtimbklggifbibaaGreatDoor.P
open Go.RowKit Go.Lib
set_option linter.unusedVariables false

structure Ev.may (x : Ev) : Prop where
  rev : mayI x.rev
  kv : x.kv.may
theorem ev_put {s : ByteArray} {a : Nat} {x : Ev} {r : List UInt8} (h : s.data.toList.drop a = put_ev x ++ r) (hx : x.may) : evR s (a, false) = (x, (a + (put_ev x).length, false)) := by
  have e : put_ev x = varL x.rev.toNat ++ (yesL x.gone ++ (put_kv x.kv)) := rfl
  rw [e] at h ⊢
  simp only [List.append_assoc] at h
  obtain ⟨e0, n0, h⟩ := int_put h hx.rev
  obtain ⟨e1, h⟩ := yes_put' h
  have e2 := kv_put h hx.kv
  unfold evR
  simp only [e0, e1, e2, n0]
  refine Prod.ext rfl (Prod.ext ?_ rfl)
  simp only [List.length_append]; omega
theorem list_put {α : Type} {one : Nat × Bool → α × (Nat × Bool)} {put : α → List UInt8} {s : ByteArray} {P : α → Prop} (h1 : ∀ a x r, s.data.toList.drop a = put x ++ r → P x → one (a, false) = (x, (a + (put x).length, false))) :
    ∀ (xs : List α) (a : Nat) (o : List α) (r : List UInt8), s.data.toList.drop a = putsL put xs ++ r → (∀ x ∈ xs, P x) → listR one xs.length (a, false) o = (o ++ xs, (a + (putsL put xs).length, false))
  | [], a, o, r, h, hp => by simp [listR, putsL]
  | x :: xs, a, o, r, h, hp => by
    have hc : putsL put (x :: xs) = put x ++ putsL put xs := rfl
    rw [hc, List.append_assoc] at h
    have e := h1 a x _ h (hp x (by simp))
    have h2 : s.data.toList.drop (a + (put x).length) = putsL put xs ++ r := by rw [← List.drop_drop, h, List.drop_left]
    rw [List.length_cons, listR, e]
    simp only [Bool.false_eq_true, if_false]
    rw [list_put h1 xs _ _ _ h2 (fun y hy => hp y (by simp [hy])), hc]
    refine Prod.ext (by simp) (Prod.ext ?_ rfl)
    simp only [List.length_append]; omega
theorem rl_put {α : Type} {one : Nat × Bool → α × (Nat × Bool)} {put : α → List UInt8} {s : ByteArray} {P : α → Prop} (h1 : ∀ a x r, s.data.toList.drop a = put x ++ r → P x → one (a, false) = (x, (a + (put x).length, false)))
    {m a : Nat} {xs : List α} {r : List UInt8} (h : s.data.toList.drop a = (varL xs.length ++ putsL put xs) ++ r) (hm : xs.length ≤ m) (hk : m ≤ 1000) (hp : ∀ x ∈ xs, P x) :
    rlR one s m (a, false) = (xs, (a + (varL xs.length ++ putsL put xs).length, false)) ∧ s.data.toList.drop (a + (varL xs.length ++ putsL put xs).length) = r := by
  refine ⟨?_, by rw [← List.drop_drop, h, List.drop_left]⟩
  rw [List.append_assoc] at h
  have hn := num_put h (by omega)
  have h2 : s.data.toList.drop (a + (varL xs.length).length) = putsL put xs ++ r := by rw [← List.drop_drop, h, List.drop_left]
  have hu : uptoR s m (a, false) = (xs.length, (a + (varL xs.length).length, false)) := by
    unfold uptoR; rw [hn]; simp only; rw [if_neg (by omega)]
  unfold rlR
  rw [hu]
  simp only
  rw [list_put h1 xs _ _ _ h2 hp]
  refine Prod.ext (by simp) (Prod.ext ?_ rfl)
  simp only [List.length_append]; omega

structure Rq.may (x : Rq) : Prop where
  kind : mayI x.kind
  who : mayI x.who
  seq : mayI x.seq
  key : x.key.size ≤ 1000
  val : x.val.size ≤ 1000
  lease : mayI x.lease
  rev : mayI x.rev
  ttl : mayI x.ttl
  token : mayI x.token
  iff : ∀ y ∈ x.iff, y.may
  iffn : x.iff.length ≤ 4
  thn : ∀ y ∈ x.thn, y.may
  thnn : x.thn.length ≤ 4
  els : ∀ y ∈ x.els, y.may
  elsn : x.els.length ≤ 4
theorem rq_put {s : ByteArray} {a : Nat} {x : Rq} {r : List UInt8} (h : s.data.toList.drop a = put_rq x ++ r) (hx : x.may) : rqR s (a, false) = (x, (a + (put_rq x).length, false)) := by
  have e : put_rq x = varL x.kind.toNat ++ (varL x.who.toNat ++ (varL x.seq.toNat ++ (yesL x.once ++ (txtL x.key ++ (txtL x.val ++ (varL x.lease.toNat ++ (varL x.rev.toNat ++ (varL x.ttl.toNat ++ (varL x.token.toNat ++ ((varL x.iff.length ++ putsL put_cm x.iff) ++ ((varL x.thn.length ++ putsL put_mu x.thn) ++ ((varL x.els.length ++ putsL put_mu x.els))))))))))))) := by simp [put_rq, varsL]
  rw [e] at h ⊢
  rw [List.append_assoc] at h
  obtain ⟨e0, n0, h⟩ := int_put h hx.kind
  rw [List.append_assoc] at h
  obtain ⟨e1, n1, h⟩ := int_put h hx.who
  rw [List.append_assoc] at h
  obtain ⟨e2, n2, h⟩ := int_put h hx.seq
  rw [List.append_assoc] at h
  obtain ⟨e3, h⟩ := yes_put' h
  rw [List.append_assoc] at h
  obtain ⟨e4, h⟩ := txt_put' h hx.key
  rw [List.append_assoc] at h
  obtain ⟨e5, h⟩ := txt_put' h hx.val
  rw [List.append_assoc] at h
  obtain ⟨e6, n6, h⟩ := int_put h hx.lease
  rw [List.append_assoc] at h
  obtain ⟨e7, n7, h⟩ := int_put h hx.rev
  rw [List.append_assoc] at h
  obtain ⟨e8, n8, h⟩ := int_put h hx.ttl
  rw [List.append_assoc] at h
  obtain ⟨e9, n9, h⟩ := int_put h hx.token
  rw [List.append_assoc] at h
  obtain ⟨e10, h⟩ := rl_put (one := cmpR s) (put := put_cm) (P := Cm.may) (fun a x r h hp => cm_put h hp) h hx.iffn (by omega) hx.iff
  rw [List.append_assoc] at h
  obtain ⟨e11, h⟩ := rl_put (one := mutR s) (put := put_mu) (P := Mu.may) (fun a x r h hp => mu_put h hp) h hx.thnn (by omega) hx.thn
  obtain ⟨e12, h⟩ := rl_put (one := mutR s) (put := put_mu) (P := Mu.may) (fun a x r h hp => mu_put h hp) h hx.elsn (by omega) hx.els
  unfold rqR
  simp only [e0, e1, e2, e3, e4, e5, e6, e7, e8, e9, e10, e11, e12, n0, n1, n2, n6, n7, n8, n9]
  refine Prod.ext rfl (Prod.ext ?_ rfl)
  simp only [List.length_append]; omega
structure Rp.may (x : Rp) : Prop where
  code : mayI x.code
  who : mayI x.who
  seq : mayI x.seq
  rev : mayI x.rev
  lease : mayI x.lease
  ttl : mayI x.ttl
  kvs : ∀ y ∈ x.kvs, y.may
  kvsn : x.kvs.length ≤ 30
  evs : ∀ y ∈ x.evs, y.may
  evsn : x.evs.length ≤ 30
theorem rp_put {s : ByteArray} {a : Nat} {x : Rp} {r : List UInt8} (h : s.data.toList.drop a = put_rp x ++ r) (hx : x.may) : rpR s (a, false) = (x, (a + (put_rp x).length, false)) := by
  have e : put_rp x = varL x.code.toNat ++ (varL x.who.toNat ++ (varL x.seq.toNat ++ (varL x.rev.toNat ++ (varL x.lease.toNat ++ (varL x.ttl.toNat ++ (yesL x.yes ++ ((varL x.kvs.length ++ putsL put_kv x.kvs) ++ ((varL x.evs.length ++ putsL put_ev x.evs))))))))) := by simp [put_rp, varsL]
  rw [e] at h ⊢
  rw [List.append_assoc] at h
  obtain ⟨e0, n0, h⟩ := int_put h hx.code
  rw [List.append_assoc] at h
  obtain ⟨e1, n1, h⟩ := int_put h hx.who
  rw [List.append_assoc] at h
  obtain ⟨e2, n2, h⟩ := int_put h hx.seq
  rw [List.append_assoc] at h
  obtain ⟨e3, n3, h⟩ := int_put h hx.rev
  rw [List.append_assoc] at h
  obtain ⟨e4, n4, h⟩ := int_put h hx.lease
  rw [List.append_assoc] at h
  obtain ⟨e5, n5, h⟩ := int_put h hx.ttl
  rw [List.append_assoc] at h
  obtain ⟨e6, h⟩ := yes_put' h
  rw [List.append_assoc] at h
  obtain ⟨e7, h⟩ := rl_put (one := kvR s) (put := put_kv) (P := KV.may) (fun a x r h hp => kv_put h hp) h hx.kvsn (by omega) hx.kvs
  obtain ⟨e8, h⟩ := rl_put (one := evR s) (put := put_ev) (P := Ev.may) (fun a x r h hp => ev_put h hp) h hx.evsn (by omega) hx.evs
  unfold rpR
  simp only [e0, e1, e2, e3, e4, e5, e6, e7, e8, n0, n1, n2, n3, n4, n5]
  refine Prod.ext rfl (Prod.ext ?_ rfl)
  simp only [List.length_append]; omega

/-! ### Which may be -/
def withinB (n lo hi : Int) : Bool := decide (lo ≤ n) && decide (n ≤ hi)
def numB (n : Int) : Bool := withinB n 0 1099511627775
def textsB (k v : ByteArray) : Bool := decide (k.size ≤ 40) && decide (v.size ≤ 20)
def cmB (x : Cm) : Bool := textsB x.key x.val && numB x.n && withinB x.what 1 4 && withinB x.how 1 3
def muB (x : Mu) : Bool := textsB x.key x.val && numB x.lea
def kvB (x : KV) : Bool := textsB x.key x.val && (numB x.cre && numB x.mod && numB x.ver && numB x.lea)
def evB (x : Ev) : Bool := numB x.rev && kvB x.kv
def eachB {α : Type} (most : Nat) (one : α → Bool) (l : List α) : Bool := decide (l.length ≤ most) && l.all one
def mayAskB (x : Rq) : Bool :=
  withinB x.kind 1 8 && [x.who, x.seq, x.lease, x.rev, x.ttl, x.token].all numB && textsB x.key x.val && eachB 4 cmB x.iff && eachB 4 muB x.thn && eachB 4 muB x.els
def mayTellB (x : Rp) : Bool :=
  withinB x.code 0 14 && [x.who, x.seq, x.rev, x.lease, x.ttl].all numB && eachB 30 kvB x.kvs && eachB 30 evB x.evs
theorem within_iff {n lo hi : Int} : withinB n lo hi = true ↔ lo ≤ n ∧ n ≤ hi := by simp [withinB]
theorem num_iff {n : Int} : numB n = true ↔ mayI n := by simp [numB, withinB, mayI]
theorem texts_iff {k v : ByteArray} : textsB k v = true ↔ k.size ≤ 40 ∧ v.size ≤ 20 := by simp [textsB]
theorem cm_may {x : Cm} (h : cmB x = true) : x.may := by
  simp only [cmB, Bool.and_eq_true, texts_iff, num_iff, within_iff] at h
  obtain ⟨⟨⟨⟨h1, h2⟩, h3⟩, h4, h5⟩, h6, h7⟩ := h
  exact ⟨by omega, ⟨by omega, by omega⟩, ⟨by omega, by omega⟩, h3, by omega⟩
theorem mu_may {x : Mu} (h : muB x = true) : x.may := by
  simp only [muB, Bool.and_eq_true, texts_iff, num_iff] at h
  obtain ⟨⟨h1, h2⟩, h3⟩ := h
  exact ⟨by omega, by omega, h3⟩
theorem kv_may {x : KV} (h : kvB x = true) : x.may := by
  simp only [kvB, Bool.and_eq_true, texts_iff, num_iff] at h
  obtain ⟨⟨h1, h2⟩, ⟨⟨h3, h4⟩, h5⟩, h6⟩ := h
  exact ⟨by omega, by omega, h3, h4, h5, h6⟩
theorem ev_may {x : Ev} (h : evB x = true) : x.may := by
  simp only [evB, Bool.and_eq_true, num_iff] at h
  exact ⟨h.1, kv_may h.2⟩
theorem each_iff {α : Type} {most : Nat} {one : α → Bool} {l : List α} : eachB most one l = true ↔ l.length ≤ most ∧ ∀ x ∈ l, one x = true := by simp [eachB, List.all_eq_true]
theorem rq_may {x : Rq} (h : mayAskB x = true) : x.may := by
  simp only [mayAskB, Bool.and_eq_true, texts_iff, within_iff, each_iff, List.all_cons, List.all_nil, num_iff] at h
  obtain ⟨⟨⟨⟨⟨⟨a1, a2⟩, b1, b2, b3, b4, b5, b6, _⟩, c1, c2⟩, d1, d2⟩, e1, e2⟩, f1, f2⟩ := h
  exact ⟨⟨by omega, by omega⟩, b1, b2, by omega, by omega, b3, b4, b5, b6, fun y hy => cm_may (d2 y hy), d1, fun y hy => mu_may (e2 y hy), e1, fun y hy => mu_may (f2 y hy), f1⟩
theorem rp_may {x : Rp} (h : mayTellB x = true) : x.may := by
  simp only [mayTellB, Bool.and_eq_true, within_iff, each_iff, List.all_cons, List.all_nil, num_iff] at h
  obtain ⟨⟨⟨⟨a1, a2⟩, b1, b2, b3, b4, b5, _⟩, d1, d2⟩, e1, e2⟩ := h
  exact ⟨⟨by omega, by omega⟩, b1, b2, b3, b4, b5, fun y hy => kv_may (d2 y hy), d1, fun y hy => ev_may (e2 y hy), e1⟩

/-! ### Whole texts -/
def askL (x : Rq) : List UInt8 := varL 1 ++ put_rq x
def tellL (x : Rp) : List UInt8 := varL 2 ++ put_rp x
def bytesOf (l : List UInt8) : ByteArray := ⟨l.toArray⟩
theorem bytesOf_list (l : List UInt8) : (bytesOf l).data.toList = l := by simp [bytesOf]
theorem bytesOf_size (l : List UInt8) : (bytesOf l).size = l.length := by simp [bytesOf, ByteArray.size]
theorem list_inj {s t : ByteArray} (h : s.data.toList = t.data.toList) : s = t := ByteArray.ext (Array.toList_inj.1 h)
theorem list_size (s : ByteArray) : s.data.toList.length = s.size := Array.length_toList
def askedB (s : ByteArray) : Option Rq := if doneR s (rqR s (firstR s 1 (0, false))).2 && mayAskB (rqR s (firstR s 1 (0, false))).1 then some (rqR s (firstR s 1 (0, false))).1 else none
def toldB (s : ByteArray) : Option Rp := if doneR s (rpR s (firstR s 2 (0, false))).2 && mayTellB (rpR s (firstR s 2 (0, false))).1 then some (rpR s (firstR s 2 (0, false))).1 else none
theorem first_put {s : ByteArray} {k : Nat} {r : List UInt8} (h : s.data.toList = varL k ++ r) (hk : k ≤ 1000) : firstR s k (0, false) = ((varL k).length, false) ∧ s.data.toList.drop (varL k).length = r := by
  have hn := num_put (a := 0) (by rw [List.drop_zero]; exact h) (by omega)
  refine ⟨?_, by rw [h, List.drop_left]⟩
  unfold firstR
  rw [hn, if_pos rfl, Nat.zero_add]
theorem first_got {s : ByteArray} {k : Nat} (h : (firstR s k (0, false)).2 = false) : s.data.toList = varL k ++ s.data.toList.drop (firstR s k (0, false)).1 := by
  unfold firstR at h ⊢
  split at h
  · rename_i hk
    rw [if_pos hk]
    have g := num_got h
    rw [hk] at g
    have := g.2.2
    rwa [List.drop_zero] at this
  · simp at h
theorem done_iff {s : ByteArray} {p : Nat × Bool} : doneR s p = true ↔ p.2 = false ∧ p.1 = s.size := by simp [doneR]
theorem asked_put {s : ByteArray} {x : Rq} (h : s.data.toList = askL x) (hx : mayAskB x = true) : askedB s = some x := by
  obtain ⟨e0, h0⟩ := first_put h (by omega)
  have e1 := rq_put (r := []) (by rw [List.append_nil]; exact h0) (rq_may hx)
  have hl := list_size s
  rw [h] at hl
  simp only [askL, List.length_append] at hl
  unfold askedB
  rw [e0, e1]
  simp only [hx, Bool.and_true, done_iff]
  rw [if_pos ⟨trivial, hl⟩]
theorem asked_got {s : ByteArray} {x : Rq} (h : askedB s = some x) : s.data.toList = askL x ∧ mayAskB x = true := by
  unfold askedB at h
  split at h
  · rename_i hc
    obtain rfl := Option.some.inj h
    rw [Bool.and_eq_true, done_iff] at hc
    refine ⟨?_, hc.2⟩
    have g := rq_got (firstR_at s 1 (0, false) (Nat.zero_le _)) hc.1.1
    have g0 := first_got g.1
    rw [g0, askL, g.2.2, hc.1.2]
    have : s.data.toList.drop s.size = [] := List.drop_eq_nil_of_le (by rw [list_size]; exact Nat.le_refl _)
    rw [this, List.append_nil]
  · cases h
theorem told_put {s : ByteArray} {x : Rp} (h : s.data.toList = tellL x) (hx : mayTellB x = true) : toldB s = some x := by
  obtain ⟨e0, h0⟩ := first_put h (by omega)
  have e1 := rp_put (r := []) (by rw [List.append_nil]; exact h0) (rp_may hx)
  have hl := list_size s
  rw [h] at hl
  simp only [tellL, List.length_append] at hl
  unfold toldB
  rw [e0, e1]
  simp only [hx, Bool.and_true, done_iff]
  rw [if_pos ⟨trivial, hl⟩]
theorem told_got {s : ByteArray} {x : Rp} (h : toldB s = some x) : s.data.toList = tellL x ∧ mayTellB x = true := by
  unfold toldB at h
  split at h
  · rename_i hc
    obtain rfl := Option.some.inj h
    rw [Bool.and_eq_true, done_iff] at hc
    refine ⟨?_, hc.2⟩
    have g := rp_got (firstR_at s 2 (0, false) (Nat.zero_le _)) hc.1.1
    have g0 := first_got g.1
    rw [g0, tellL, g.2.2, hc.1.2]
    have : s.data.toList.drop s.size = [] := List.drop_eq_nil_of_le (by rw [list_size]; exact Nat.le_refl _)
    rw [this, List.append_nil]
  · cases h
end Go.Proofs.YtimbklggifbibaaGreatDoor.P
