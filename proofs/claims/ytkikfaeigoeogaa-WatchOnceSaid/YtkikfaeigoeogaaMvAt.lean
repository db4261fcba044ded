/- What there was at a revision: the program's answer, and the document's. -/
import Derived.Test.YtkikfaeigoeogaaMvRead
namespace Go.Proofs.Ytkikfaeigoeogaa.P
open Go.RowKit Go.Sort
set_option maxHeartbeats 400000
set_option linter.unusedVariables false
set_option linter.unusedSimpArgs false
set_option maxRecDepth 100000

def AtEnd (s : St) (rev : Int) (w : World) (e : Ending) (w' : World) : Prop :=
  ∃ A n c, e = .returned (.tuple #[.slice A n c, .int .i64 (atE s rev)]) ∧ KVs w' A n c (atL s rev) ∧ Below w.heap.size w w'
theorem AtEnd.mk {s : St} {rev : Int} {w : World} {e : Ending} {w' : World} {A : Option Addr} {n c : Nat} {l : List KV} {x : Int} (hl : atL s rev = l) (hx : atE s rev = x) (he : e = .returned (.tuple #[.slice A n c, .int .i64 x])) (hk : KVs w' A n c l) (hb : Below w.heap.size w w') : AtEnd s rev w e w' := ⟨A, n, c, by rw [hx]; exact he, by rw [hl]; exact hk, hb⟩
theorem at_any (s : St) (A : Option Addr) (n c : Nat) (B : Option Addr) (m d : Nat) (rev : Int) (w : World) (h : StAt w s A n c B m d) (hn : n + m ≤ 900000) (hv : inI rev) :
    Calls Try.prog 20 #[s.agg A n c B m d, .int .i64 rev] w (AtEnd s rev w) := by
  have H := Lib.hid (h.keep (new1 w (.cells #[.int .i64 s.rev, .int .i64 s.low, .slice A n c, .slice B m d] 25)))
  have O0 := Lib.hid (own_new w #[.int .i64 s.rev, .int .i64 s.low, .slice A n c, .slice B m d] 25)
  have HV := Lib.hid hv
  clear h hv
  by_cases h0 : rev = 0
  · have h0' : (rev == 0) = true := by simp [h0]
    have HL : Hid (atL s rev = nowL s) := Lib.hid (by unfold atL; rw [if_pos h0])
    have HE : Hid (atE s rev = 0) := Lib.hid (by unfold atE; rw [if_pos h0])
    clear h0
    go_enter Try.func20, Try.ntmps20
    go_wp2_with fail
    refine (now_any s A n c B m d _ H.out hn).mono ?_; rintro e w1 ⟨A1, n1, c1, rfl, hk, hb⟩
    have HK := Lib.hid hk; have HB := Lib.hid (then_ (new1 w _) hb)
    clear hk hb
    go_wp2
    go_ret2
    exact AtEnd.mk HL.out HE.out rfl HK.out HB.out
  · have h0' : (rev == 0) = false := by simp [h0]
    by_cases hk0 : keptE s rev = 0
    · have HL : Hid (atL s rev = foldL s.base s.log rev) := Lib.hid (by unfold atL; rw [if_neg h0, if_pos hk0])
      have HE : Hid (atE s rev = 0) := Lib.hid (by unfold atE; rw [if_neg h0, hk0])
      have t := kept_any s A n c B m d rev (w.alloc (.cells #[.int .i64 s.rev, .int .i64 s.low, .slice A n c, .slice B m d] 25)) H.out.rev H.out.low HV.out
      rw [hk0] at t
      have TT := Lib.hid t
      clear h0 hk0 t
      go_enter Try.func20, Try.ntmps20
      go_wp2_with fail
      refine TT.out.mono ?_; rintro e w1 ⟨rfl, hb⟩
      have H1 := Lib.hid (H.out.keep hb)
      have O1 := Lib.hid (O0.out.below hb)
      have B1 := Lib.hid (then_ (new1 w _) hb)
      have q2 := O1.out.cell 2 _ rfl
      have q3 := O1.out.cell 3 _ rfl
      clear hb
      go_wp2_with fail
      refine (fold_any A n c s.base B m d s.log rev _ H1.out.kv H1.out.ev hn).mono ?_; rintro e w2 ⟨A1, n1, c1, rfl, hk, hb⟩
      have HK := Lib.hid hk; have HB := Lib.hid (then_ B1.out hb)
      clear hk hb
      go_wp2
      go_ret2
      exact AtEnd.mk HL.out HE.out rfl HK.out HB.out
    · have HL : Hid (atL s rev = []) := Lib.hid (by unfold atL; rw [if_neg h0, if_neg hk0])
      have HE : Hid (atE s rev = keptE s rev) := Lib.hid (by unfold atE; rw [if_neg h0])
      have t := kept_any s A n c B m d rev (w.alloc (.cells #[.int .i64 s.rev, .int .i64 s.low, .slice A n c, .slice B m d] 25)) H.out.rev H.out.low HV.out
      generalize keptE s rev = x at *
      have hx' : (x == 0) = false := by simp [hk0]
      have hx2 : ¬ (x == 0) = true := by simp [hk0]
      have TT := Lib.hid t
      clear h0 t
      go_enter Try.func20, Try.ntmps20
      go_wp2_with fail
      refine TT.out.mono ?_; rintro e w1 ⟨rfl, hb⟩
      have B1 := Lib.hid (then_ (new1 w _) hb)
      clear hb
      go_wp2
      go_ret2
      exact AtEnd.mk HL.out HE.out rfl (KVs.bare _) B1.out
end Go.Proofs.Ytkikfaeigoeogaa.P
