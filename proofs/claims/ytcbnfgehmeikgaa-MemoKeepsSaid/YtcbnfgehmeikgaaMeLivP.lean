/- Layer 9: the document's example, plain: five that are kept of one's. -/
import Derived.Test.YtcbnfgehmeikgaaMeLook
import Derived.Test.YtcbnfgehmeikgaaMeKeep
namespace Go.Proofs.Ytcbnfgehmeikgaa.P
open Go
set_option linter.unusedVariables false
set_option linter.unusedSimpArgs false
set_option maxRecDepth 100000
def Rk (i : Int) : Rp := ⟨0, 0, 0, i, 0, 0, false, [], []⟩
def mk7 (i : Int) : Me Rp := ⟨7, i, Rk i⟩
def Mk : Nat → Mos Rp
  | 0 => ⟨[], []⟩
  | 1 => ⟨[mk7 1], []⟩
  | 2 => ⟨[mk7 1, mk7 2], []⟩
  | 3 => ⟨[mk7 1, mk7 2, mk7 3], []⟩
  | 4 => ⟨[mk7 1, mk7 2, mk7 3, mk7 4], []⟩
  | _ => ⟨[mk7 2, mk7 3, mk7 4, mk7 5], [(7, 1)]⟩
theorem full_short {m : Mos Rp} {who : Int} (h : (whoL m).length < 8) : fullB m who = false := by
  unfold fullB
  refine decide_eq_false fun e => ?_
  have := rise_len (whoL m)
  omega
theorem keep_fine {m : Mos Rp} {who seq : Int} (h1 : findM m.l who seq = none) (h2 : floorL m.old who < seq) (h3 : (whoL m).length < 8) : keepE m who seq = 0 := by
  rw [(look_none h1).1, (look_none h1).2, if_neg (by omega), full_short h3]; rfl
theorem mk_lists (i : Nat) : (whoL (Mk i)).length < 8 := by
  match i with
  | 0 => decide
  | 1 => decide
  | 2 => decide
  | 3 => decide
  | 4 => decide
  | n + 5 => show (whoL (⟨[mk7 2, mk7 3, mk7 4, mk7 5], [(7, 1)]⟩ : Mos Rp)).length < 8; decide
theorem mk_step (i : Nat) (hi : i < 5) : keepE (Mk i) 7 ((i : Int) + 1) = 0 ∧ keepM (Mk i) 7 ((i : Int) + 1) (Rk ((i : Int) + 1)) = Mk (i + 1) := by
  have key : keepE (Mk i) 7 ((i : Int) + 1) = 0 := by
    refine keep_fine ?_ ?_ (mk_lists i)
    · match i, hi with
      | 0, _ => rfl
      | 1, _ => rfl
      | 2, _ => rfl
      | 3, _ => rfl
      | 4, _ => rfl
    · match i, hi with
      | 0, _ => decide
      | 1, _ => decide
      | 2, _ => decide
      | 3, _ => decide
      | 4, _ => decide
  refine ⟨key, ?_⟩
  rw [keepM_ok key]
  match i, hi with
  | 0, _ => rw [fitM_few (by decide)]; rfl
  | 1, _ => rw [fitM_few (by decide)]; rfl
  | 2, _ => rw [fitM_few (by decide)]; rfl
  | 3, _ => rw [fitM_few (by decide)]; rfl
  | 4, _ =>
    rw [fitM_many (by decide)]
    have e : ofL (addM (Mk 4) 7 (((4 : Nat) : Int) + 1) (Rk (((4 : Nat) : Int) + 1))).l 7 = [1, 2, 3, 4, 5] := rfl
    rw [e, least_eq (a := 1) (by decide) (by decide)]
    rfl
theorem mk5_may : MayM (Mk 5) := by
  have h0 : MayM (Mk 0) := ⟨List.nodup_nil, fun _ => by simp [Mk, ofL], List.nodup_nil, (fun x hx => by cases hx), by
    have := rise_len (whoL (Mk 0))
    have h : (whoL (Mk 0)).length = 0 := rfl
    omega⟩
  have h1 := keep_may h0 7 (((0 : Nat) : Int) + 1) (Rk (((0 : Nat) : Int) + 1)); rw [(mk_step 0 (by omega)).2] at h1
  have h2 := keep_may h1 7 (((1 : Nat) : Int) + 1) (Rk (((1 : Nat) : Int) + 1)); rw [(mk_step 1 (by omega)).2] at h2
  have h3 := keep_may h2 7 (((2 : Nat) : Int) + 1) (Rk (((2 : Nat) : Int) + 1)); rw [(mk_step 2 (by omega)).2] at h3
  have h4 := keep_may h3 7 (((3 : Nat) : Int) + 1) (Rk (((3 : Nat) : Int) + 1)); rw [(mk_step 3 (by omega)).2] at h4
  have h5 := keep_may h4 7 (((4 : Nat) : Int) + 1) (Rk (((4 : Nat) : Int) + 1)); rw [(mk_step 4 (by omega)).2] at h5
  exact h5
theorem mk5_look3 : lookY (Mk 5) 7 3 = (Rk 3, true) ∧ lookE (Mk 5) 7 3 = 0 := by
  have h : findM (Mk 5).l 7 3 = some (Rk 3) := rfl
  exact ⟨lookY_some h, (look_some h).1⟩
theorem mk5_look1 : lookY (Mk 5) 7 1 = (zRp, false) ∧ lookE (Mk 5) 7 1 = 7 := by
  have h : findM (Mk 5).l 7 1 = none := rfl
  exact ⟨lookY_none h, by rw [(look_none h).2, if_pos (by decide)]⟩
theorem mk5_look6 : lookY (Mk 5) 7 6 = (zRp, false) ∧ lookE (Mk 5) 7 6 = 0 := by
  have h : findM (Mk 5).l 7 6 = none := rfl
  exact ⟨lookY_none h, by rw [(look_none h).2, if_neg (by decide), full_short (mk_lists 5)]; rfl⟩
theorem mk5_keep3 : keepE (Mk 5) 7 3 = 11 := by
  have h : findM (Mk 5).l 7 3 = some (Rk 3) := rfl
  exact (look_some h).2
theorem mk5_seqs : sortI (ofL (Mk 5).l 7) = [2, 3, 4, 5] := le_ext _ _ (sortI_le _) (by decide) (sortI_perm _)
theorem mk5_whos : riseL (whoL (Mk 5)) = [7] := rise_ext _ _ (rise_up _).1 (by decide) fun x => by
  rw [(rise_up _).2]
  have h : whoL (Mk 5) = [7, 7, 7, 7, 7] := rfl
  rw [h]; simp
theorem twice_no : mayMB (⟨[], [(1, 0), (1, 0)]⟩ : Mos Rp) = false := by
  cases hv : mayMB (⟨[], [(1, 0), (1, 0)]⟩ : Mos Rp) with
  | false => rfl
  | true => have := (mayMB_iff.1 hv).floor; simp at this
end Go.Proofs.Ytcbnfgehmeikgaa.P
