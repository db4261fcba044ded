/- What is read whole is written so: one thing. -/
import Derived.Test.YtimbklggifbibaaGreatDoorWireMath
import Derived.Test.YtimbklggifbibaaGreatDoorWireReqPut
import Derived.Test.YtimbklggifbibaaGreatDoorWireReq
namespace Go.Proofs.YtimbklggifbibaaGreatDoor.P
open Go.RowKit Go.Lib
set_option linter.unusedVariables false

theorem cm_got {s : ByteArray} {p : Nat × Bool} (hp : p.1 ≤ s.size) (h : (cmpR s p).2.2 = false) : Got s p (cmpR s p).2 (put_cm (cmpR s p).1) := by
  unfold cmpR at h ⊢
  simp only at h ⊢
  have l1 := txtR_at s p hp
  have l2 := (numR_at s _ l1).2
  have l3 := (numR_at s _ l2).2
  have l4 := (numR_at s _ l3).2
  have g4 := txt_got l4 h
  have g3 := num_got g4.1
  have g2 := num_got g3.1
  have g1 := num_got g2.1
  have g0 := txt_got hp g1.1
  have g := g0.trans (g1.trans (g2.trans (g3.trans g4)))
  simpa [put_cm, txtL, varsL] using g
theorem mu_got {s : ByteArray} {p : Nat × Bool} (hp : p.1 ≤ s.size) (h : (mutR s p).2.2 = false) : Got s p (mutR s p).2 (put_mu (mutR s p).1) := by
  unfold mutR at h ⊢
  simp only at h ⊢
  have l1 : (yesR s p).2.1 ≤ s.size := uptoR_at s 1 p hp
  have l2 := txtR_at s _ l1
  have l3 := txtR_at s _ l2
  have g3 := num_got h
  have g2 := txt_got l2 g3.1
  have g1 := txt_got l1 g2.1
  have g0 := yes_got g1.1
  have g := g0.trans (g1.trans (g2.trans g3))
  simpa [put_mu, txtL, yesL] using g
theorem kv_got {s : ByteArray} {p : Nat × Bool} (hp : p.1 ≤ s.size) (h : (kvR s p).2.2 = false) : Got s p (kvR s p).2 (put_kv (kvR s p).1) := by
  unfold kvR at h ⊢
  simp only at h ⊢
  have l1 := txtR_at s p hp
  have g5 := num_got h
  have g4 := num_got g5.1
  have g3 := num_got g4.1
  have g2 := num_got g3.1
  have g1 := txt_got l1 g2.1
  have g0 := txt_got hp g1.1
  have g := g0.trans (g1.trans (g2.trans (g3.trans (g4.trans g5))))
  simpa [put_kv, txtL, varsL] using g
theorem ev_got {s : ByteArray} {p : Nat × Bool} (hp : p.1 ≤ s.size) (h : (evR s p).2.2 = false) : Got s p (evR s p).2 (put_ev (evR s p).1) := by
  unfold evR at h ⊢
  simp only at h ⊢
  have l1 := (numR_at s p hp).2
  have l2 : (yesR s (numR s p).2).2.1 ≤ s.size := uptoR_at s 1 _ l1
  have g2 := kv_got l2 h
  have g1 := yes_got g2.1
  have g0 := num_got g1.1
  have g := g0.trans (g1.trans g2)
  simpa [put_ev, yesL] using g

theorem cm_at {s : ByteArray} {p : Nat × Bool} (hp : p.1 ≤ s.size) : (cmpR s p).2.1 ≤ s.size :=
  txtR_at s _ (numR_at s _ (numR_at s _ (numR_at s _ (txtR_at s p hp)).2).2).2
theorem mu_at {s : ByteArray} {p : Nat × Bool} (hp : p.1 ≤ s.size) : (mutR s p).2.1 ≤ s.size :=
  (numR_at s _ (txtR_at s _ (txtR_at s _ (uptoR_at s 1 p hp)))).2
theorem kv_at {s : ByteArray} {p : Nat × Bool} (hp : p.1 ≤ s.size) : (kvR s p).2.1 ≤ s.size :=
  (numR_at s _ (numR_at s _ (numR_at s _ (numR_at s _ (txtR_at s _ (txtR_at s p hp))).2).2).2).2
theorem ev_at {s : ByteArray} {p : Nat × Bool} (hp : p.1 ≤ s.size) : (evR s p).2.1 ≤ s.size :=
  kv_at (uptoR_at s 1 _ (numR_at s p hp).2)
/-- A list that is read whole is written so. -/
theorem list_got {α : Type} {one : Nat × Bool → α × (Nat × Bool)} {put : α → List UInt8} {s : ByteArray} (h1 : ∀ p, p.1 ≤ s.size → (one p).2.2 = false → Got s p (one p).2 (put (one p).1)) (h2 : ∀ p, p.1 ≤ s.size → (one p).2.1 ≤ s.size) :
    ∀ (k : Nat) (p : Nat × Bool) (o : List α), p.1 ≤ s.size → p.2 = false → (listR one k p o).2.2 = false →
      ∃ xs, (listR one k p o).1 = o ++ xs ∧ xs.length = k ∧ Got s p (listR one k p o).2 (putsL put xs)
  | 0, p, o, hp, hb, h => ⟨[], by simp [listR], rfl, hb, hb, by simp [putsL, listR]⟩
  | k + 1, p, o, hp, hb, h => by
    rw [listR] at h ⊢
    by_cases hw : (one p).2.2 = true
    · rw [if_pos hw] at h; simp only at h; rw [hw] at h; cases h
    · rw [if_neg hw] at h ⊢
      have hf : (one p).2.2 = false := by simpa using hw
      obtain ⟨xs, e, hl, g⟩ := list_got h1 h2 k (one p).2 (o ++ [(one p).1]) (h2 p hp) hf h
      refine ⟨(one p).1 :: xs, by rw [e]; simp, by simp [hl], ?_⟩
      have := (h1 p hp hf).trans g
      simpa [putsL] using this
theorem upto_zero (s : ByteArray) (m : Nat) (p : Nat × Bool) : (uptoR s m p).2.2 = true → (uptoR s m p).1 = 0 := by
  unfold uptoR; split
  · intro _; rfl
  · exact numR_zero s p
theorem rl_at {α : Type} {one : Nat × Bool → α × (Nat × Bool)} {s : ByteArray} (h2 : ∀ p, p.1 ≤ s.size → (one p).2.1 ≤ s.size) : ∀ (k : Nat) (p : Nat × Bool) (o : List α), p.1 ≤ s.size → (listR one k p o).2.1 ≤ s.size
  | 0, p, o, hp => hp
  | k + 1, p, o, hp => by
    rw [listR]
    split
    · exact h2 p hp
    · exact rl_at h2 k _ _ (h2 p hp)
theorem rlR_at {α : Type} {one : Nat × Bool → α × (Nat × Bool)} {s : ByteArray} (h2 : ∀ p, p.1 ≤ s.size → (one p).2.1 ≤ s.size) {m : Nat} {p : Nat × Bool} (hp : p.1 ≤ s.size) : (rlR one s m p).2.1 ≤ s.size := rl_at h2 _ _ _ (uptoR_at s m p hp)
theorem rl_got {α : Type} {one : Nat × Bool → α × (Nat × Bool)} {put : α → List UInt8} {s : ByteArray} (h1 : ∀ p, p.1 ≤ s.size → (one p).2.2 = false → Got s p (one p).2 (put (one p).1)) (h2 : ∀ p, p.1 ≤ s.size → (one p).2.1 ≤ s.size)
    {m : Nat} {p : Nat × Bool} (hp : p.1 ≤ s.size) (h : (rlR one s m p).2.2 = false) :
    Got s p (rlR one s m p).2 (varL (rlR one s m p).1.length ++ putsL put (rlR one s m p).1) ∧ (rlR one s m p).1.length ≤ m := by
  unfold rlR at h ⊢
  have ha := uptoR_at s m p hp
  have hu : (uptoR s m p).2.2 = false := by
    cases hw : (uptoR s m p).2.2 with
    | false => rfl
    | true =>
      have z := upto_zero s m p hw
      rw [z, listR] at h
      simp only at h
      rw [hw] at h
      cases h
  obtain ⟨xs, e, hl, g⟩ := list_got h1 h2 (uptoR s m p).1 (uptoR s m p).2 [] ha hu h
  rw [e, List.nil_append, hl]
  refine ⟨?_, uptoR_le s m p⟩
  refine Got.trans ?_ g
  unfold uptoR at hu ⊢
  split at hu
  · simp at hu
  · rename_i hlt
    rw [if_neg hlt]
    exact num_got hu

theorem rq_got {s : ByteArray} {p : Nat × Bool} (hp : p.1 ≤ s.size) (h : (rqR s p).2.2 = false) : Got s p (rqR s p).2 (put_rq (rqR s p).1) := by
  unfold rqR at h ⊢
  simp only at h ⊢
  have l0 := (numR_at s p hp).2
  have l1 := (numR_at s _ l0).2
  have l2 := (numR_at s _ l1).2
  have l3 : (yesR s _).2.1 ≤ s.size := uptoR_at s 1 _ l2
  have l4 := txtR_at s _ l3
  have l5 := txtR_at s _ l4
  have l6 := (numR_at s _ l5).2
  have l7 := (numR_at s _ l6).2
  have l8 := (numR_at s _ l7).2
  have l9 := (numR_at s _ l8).2
  have l10 := rlR_at (m := 4) (one := cmpR s) (fun p hp => cm_at hp) l9
  have l11 := rlR_at (m := 4) (one := mutR s) (fun p hp => mu_at hp) l10
  have g12 := (rl_got (one := mutR s) (put := put_mu) (fun p hp h => mu_got hp h) (fun p hp => mu_at hp) l11 h).1
  have g11 := (rl_got (one := mutR s) (put := put_mu) (fun p hp h => mu_got hp h) (fun p hp => mu_at hp) l10 g12.1).1
  have g10 := (rl_got (one := cmpR s) (put := put_cm) (fun p hp h => cm_got hp h) (fun p hp => cm_at hp) l9 g11.1).1
  have g9 := num_got g10.1
  have g8 := num_got g9.1
  have g7 := num_got g8.1
  have g6 := num_got g7.1
  have g5 := txt_got l4 g6.1
  have g4 := txt_got l3 g5.1
  have g3 := yes_got g4.1
  have g2 := num_got g3.1
  have g1 := num_got g2.1
  have g0 := num_got g1.1
  have g := g0.trans (g1.trans (g2.trans (g3.trans (g4.trans (g5.trans (g6.trans (g7.trans (g8.trans (g9.trans (g10.trans (g11.trans g12)))))))))))
  simpa [put_rq, txtL, yesL, varsL] using g
theorem rp_got {s : ByteArray} {p : Nat × Bool} (hp : p.1 ≤ s.size) (h : (rpR s p).2.2 = false) : Got s p (rpR s p).2 (put_rp (rpR s p).1) := by
  unfold rpR at h ⊢
  simp only at h ⊢
  have l0 := (numR_at s p hp).2
  have l1 := (numR_at s _ l0).2
  have l2 := (numR_at s _ l1).2
  have l3 := (numR_at s _ l2).2
  have l4 := (numR_at s _ l3).2
  have l5 := (numR_at s _ l4).2
  have l6 : (yesR s _).2.1 ≤ s.size := uptoR_at s 1 _ l5
  have l7 := rlR_at (m := 30) (one := kvR s) (fun p hp => kv_at hp) l6
  have g8 := (rl_got (one := evR s) (put := put_ev) (fun p hp h => ev_got hp h) (fun p hp => ev_at hp) l7 h).1
  have g7 := (rl_got (one := kvR s) (put := put_kv) (fun p hp h => kv_got hp h) (fun p hp => kv_at hp) l6 g8.1).1
  have g6 := yes_got g7.1
  have g5 := num_got g6.1
  have g4 := num_got g5.1
  have g3 := num_got g4.1
  have g2 := num_got g3.1
  have g1 := num_got g2.1
  have g0 := num_got g1.1
  have g := g0.trans (g1.trans (g2.trans (g3.trans (g4.trans (g5.trans (g6.trans (g7.trans g8)))))))
  simpa [put_rp, yesL, varsL] using g
end Go.Proofs.YtimbklggifbibaaGreatDoor.P
