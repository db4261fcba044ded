/- What is written is read: one thing, a list. -/
import Derived.Test.YtimbklggifbibaaGreatDoorWireGot
namespace Go.Proofs.YtimbklggifbibaaGreatDoor.P
open Go.RowKit Go.Lib
set_option linter.unusedVariables false

def mayI (n : Int) : Prop := 0 ≤ n ∧ n ≤ 1099511627775
theorem int_put {s : ByteArray} {a : Nat} {n : Int} {r : List UInt8} (h : s.data.toList.drop a = varL n.toNat ++ r) (hn : mayI n) : numR s (a, false) = (n.toNat, (a + (varL n.toNat).length, false)) ∧ (n.toNat : Int) = n ∧ s.data.toList.drop (a + (varL n.toNat).length) = r := by
  have := hn.1; have := hn.2
  exact ⟨num_put h (by omega), by omega, by rw [← List.drop_drop, h, List.drop_left]⟩
theorem txt_put' {s t : ByteArray} {a : Nat} {r : List UInt8} (h : s.data.toList.drop a = txtL t ++ r) (ht : t.size ≤ 1000) : txtR s (a, false) = (t, (a + (txtL t).length, false)) ∧ s.data.toList.drop (a + (txtL t).length) = r :=
  ⟨txt_put (by rw [h, txtL, List.append_assoc]) (by omega), by rw [← List.drop_drop, h, List.drop_left]⟩
theorem yes_put' {s : ByteArray} {a : Nat} {y : Bool} {r : List UInt8} (h : s.data.toList.drop a = yesL y ++ r) : yesR s (a, false) = (y, (a + (yesL y).length, false)) ∧ s.data.toList.drop (a + (yesL y).length) = r :=
  ⟨yes_put h, by rw [← List.drop_drop, h, List.drop_left]⟩
structure KV.may (x : KV) : Prop where
  key : x.key.size ≤ 1000
  val : x.val.size ≤ 1000
  cre : mayI x.cre
  mod : mayI x.mod
  ver : mayI x.ver
  lea : mayI x.lea
theorem kv_put {s : ByteArray} {a : Nat} {x : KV} {r : List UInt8} (h : s.data.toList.drop a = put_kv x ++ r) (hx : x.may) : kvR s (a, false) = (x, (a + (put_kv x).length, false)) := by
  have e : put_kv x = txtL x.key ++ (txtL x.val ++ (varL x.cre.toNat ++ (varL x.mod.toNat ++ (varL x.ver.toNat ++ (varL x.lea.toNat))))) := by simp [put_kv, varsL]
  rw [e] at h ⊢
  simp only [List.append_assoc] at h
  obtain ⟨e0, h⟩ := txt_put' h hx.key
  obtain ⟨e1, h⟩ := txt_put' h hx.val
  obtain ⟨e2, n2, h⟩ := int_put h hx.cre
  obtain ⟨e3, n3, h⟩ := int_put h hx.mod
  obtain ⟨e4, n4, h⟩ := int_put h hx.ver
  obtain ⟨e5, n5, h⟩ := int_put h hx.lea
  unfold kvR
  simp only [e0, e1, e2, e3, e4, e5, n2, n3, n4, n5]
  refine Prod.ext rfl (Prod.ext ?_ rfl)
  simp only [List.length_append]; omega
structure Cm.may (x : Cm) : Prop where
  key : x.key.size ≤ 1000
  what : mayI x.what
  how : mayI x.how
  n : mayI x.n
  val : x.val.size ≤ 1000
theorem cm_put {s : ByteArray} {a : Nat} {x : Cm} {r : List UInt8} (h : s.data.toList.drop a = put_cm x ++ r) (hx : x.may) : cmpR s (a, false) = (x, (a + (put_cm x).length, false)) := by
  have e : put_cm x = txtL x.key ++ (varL x.what.toNat ++ (varL x.how.toNat ++ (varL x.n.toNat ++ (txtL x.val)))) := by simp [put_cm, varsL]
  rw [e] at h ⊢
  simp only [List.append_assoc] at h
  obtain ⟨e0, h⟩ := txt_put' h hx.key
  obtain ⟨e1, n1, h⟩ := int_put h hx.what
  obtain ⟨e2, n2, h⟩ := int_put h hx.how
  obtain ⟨e3, n3, h⟩ := int_put h hx.n
  obtain ⟨e4, h⟩ := txt_put' h hx.val
  unfold cmpR
  simp only [e0, e1, e2, e3, e4, n1, n2, n3]
  refine Prod.ext rfl (Prod.ext ?_ rfl)
  simp only [List.length_append]; omega
structure Mu.may (x : Mu) : Prop where
  key : x.key.size ≤ 1000
  val : x.val.size ≤ 1000
  lea : mayI x.lea
theorem mu_put {s : ByteArray} {a : Nat} {x : Mu} {r : List UInt8} (h : s.data.toList.drop a = put_mu x ++ r) (hx : x.may) : mutR s (a, false) = (x, (a + (put_mu x).length, false)) := by
  have e : put_mu x = yesL x.gone ++ (txtL x.key ++ (txtL x.val ++ (varL x.lea.toNat))) := by simp [put_mu]
  rw [e] at h ⊢
  simp only [List.append_assoc] at h
  obtain ⟨e0, h⟩ := yes_put' h
  obtain ⟨e1, h⟩ := txt_put' h hx.key
  obtain ⟨e2, h⟩ := txt_put' h hx.val
  obtain ⟨e3, n3, h⟩ := int_put h hx.lea
  unfold mutR
  simp only [e0, e1, e2, e3, n3]
  refine Prod.ext rfl (Prod.ext ?_ rfl)
  simp only [List.length_append]; omega
end Go.Proofs.YtimbklggifbibaaGreatDoor.P
