/- WatchMore's plain side: what is told of a store behind what was done to it. -/
import Derived.Test.YtkikfaeigoeogaaWaPlain
namespace Go.Proofs.Ytkikfaeigoeogaa.P
open Go.RowKit Go.Sort
set_option maxHeartbeats 1000000
set_option linter.unusedVariables false
set_option linter.unusedSimpArgs false
def pfx (p : ByteArray) (l : List Ev) : List Ev := l.filter fun e => begins p e.kv.key
theorem pfx_yes {p : ByteArray} {l : List Ev} {j : Nat} {e : Ev} (h : l[j]? = some e) (h2 : begins p e.kv.key = true) : pfx p (l.take (j + 1)) = pfx p (l.take j) ++ [e] := by
  unfold pfx; rw [take_succ l j e h, List.filter_append]; simp [h2]
theorem pfx_no {p : ByteArray} {l : List Ev} {j : Nat} {e : Ev} (h : l[j]? = some e) (h2 : begins p e.kv.key = false) : pfx p (l.take (j + 1)) = pfx p (l.take j) := by
  unfold pfx; rw [take_succ l j e h, List.filter_append]; simp [h2]
theorem pfx_len (p : ByteArray) (l : List Ev) : (pfx p l).length ≤ l.length := List.length_filter_le _ _
theorem more_is {s : St} (h : MaySt s) {ms : List Mu} (he : applyE s ms = 0) (hn : ms.length ≤ 30) (p : ByteArray) :
    sinceF (applyS s ms) p (s.rev + 1) 30 = (pfx p (applyEv s ms), (applyS s ms).rev + 1, 0) ∧ (applyEv s ms).length ≤ 30 := by
  have hle := h.le
  have hlo := h.low
  by_cases ha : applied s ms
  · have hS : applyS s ms = doneS s ms := if_pos ha
    have hE : applyEv s ms = eventsOf s ms := if_pos ha
    obtain ⟨hd, _, _, _⟩ := applied_iff ha
    have hc := h.come (may_do hd).2
    have hlen : (eventsOf s ms).length ≤ 30 := Nat.le_trans hc.len hn
    have hfl : fltS (doneS s ms) p (s.rev + 1) = pfx p (eventsOf s ms) := by
      show (s.log ++ eventsOf s ms).filter _ = _
      rw [List.filter_append]
      have h1 : (s.log.filter fun e => decide (s.rev + 1 ≤ e.rev) && begins p e.kv.key) = [] := by
        rw [List.filter_eq_nil_iff]
        intro e hm
        have := (mayLog_in _ _ _ h.log e hm).2
        simp [show ¬ s.rev + 1 ≤ e.rev by omega]
      rw [h1, List.nil_append]
      unfold pfx
      apply List.filter_congr
      intro e hm
      have := hc.revs e hm
      simp [this]
    rw [hS, hE]
    refine ⟨?_, hlen⟩
    unfold sinceF
    rw [if_neg (by omega), if_neg (show ¬ (s.rev + 1 < 1 ∨ (doneS s ms).rev + 1 < s.rev + 1) from by show ¬ (s.rev + 1 < 1 ∨ s.rev + 1 + 1 < s.rev + 1); omega)]
    unfold sinceR
    rw [if_neg (show ¬ s.rev + 1 ≤ (doneS s ms).low from by show ¬ s.rev + 1 ≤ s.low; omega), hfl]
    unfold sinceV
    rw [if_pos (show (pfx p (eventsOf s ms)).length ≤ (30 : Int).toNat from Nat.le_trans (pfx_len _ _) hlen)]
  · have hS : applyS s ms = s := if_neg ha
    have hE : applyEv s ms = [] := if_neg ha
    rw [hS, hE]
    refine ⟨?_, by simp⟩
    unfold sinceF
    rw [if_neg (by omega), if_neg (by omega)]
    unfold sinceR
    rw [if_neg (by omega), flt_end h p (by omega)]
    unfold sinceV
    rw [if_pos (by simp)]
    rfl
end Go.Proofs.Ytkikfaeigoeogaa.P
