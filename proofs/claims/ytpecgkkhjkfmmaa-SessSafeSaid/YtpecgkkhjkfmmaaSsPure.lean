/- Layer 14, plain: a session that begins, is kept, is alive, is due. -/
import Derived.Test.YtpecgkkhjkfmmaaDrPure
import Derived.Test.YtpecgkkhjkfmmaaRpOpen
import Derived.Test.YtpecgkkhjkfmmaaSeOpen
namespace Go.Proofs.Ytpecgkkhjkfmmaa.P
open Go.RowKit
set_option linter.unusedVariables false

def atN (t : Int) : Bool := decide (0 ≤ t ∧ t ≤ 1099511627775)
def zSe : Se := ⟨0, 0, 0, 0⟩
def beginB (sent : Int) (y : Rp) : Bool := decide (y.code = 0 ∧ 1 ≤ y.lease ∧ safeP y.ttl ≠ 0) && atN sent
def begunS (sent : Int) (y : Rp) : Se := ⟨y.lease, y.ttl, sent + safeP y.ttl, sent + safeP y.ttl / 2⟩
def beginS (sent : Int) (y : Rp) : Se := if beginB sent y = true then begunS sent y else zSe
def maxP (a b : Int) : Int := if a < b then b else a
def keptMore (s : Se) (sent : Int) : Se := ⟨s.lease, s.ttl, maxP s.til (sent + safeP s.ttl), maxP s.kp (sent + safeP s.ttl / 2)⟩
def keptB (s : Se) (sent : Int) (y : Rp) : Bool := decide (y.code = 0 ∧ y.lease = s.lease) && atN sent
def keptS (s : Se) (sent : Int) (y : Rp) : Se := if y.code = 6 then zSe else if keptB s sent y = true then keptMore s sent else s
def aliveB (s : Se) (now : Int) : Bool := decide (s.lease ≠ 0) && decide (now < s.til)
def sdueB (s : Se) (now : Int) : Bool := aliveB s now && decide (s.kp ≤ now)
theorem atN_iff {t : Int} : atN t = true ↔ 0 ≤ t ∧ t ≤ 1099511627775 := decide_eq_true_iff
theorem begin_no {sent : Int} {y : Rp} (h : beginB sent y = false) : beginS sent y = zSe := if_neg (by rw [h]; decide)
theorem begin_yes {sent : Int} {y : Rp} (h : beginB sent y = true) : beginS sent y = begunS sent y := if_pos h
theorem begin_code {sent : Int} {y : Rp} (h : y.code ≠ 0) : beginB sent y = false := by unfold beginB; rw [decide_eq_false (fun k => h k.1)]; rfl
theorem begin_lease {sent : Int} {y : Rp} (h : ¬ 1 ≤ y.lease) : beginB sent y = false := by unfold beginB; rw [decide_eq_false (fun k => h k.2.1)]; rfl
theorem begin_safe {sent : Int} {y : Rp} (h : safeP y.ttl = 0) : beginB sent y = false := by unfold beginB; rw [decide_eq_false (fun k => k.2.2 h)]; rfl
theorem begin_at {sent : Int} {y : Rp} (h : atN sent = false) : beginB sent y = false := by unfold beginB; rw [h, Bool.and_false]
theorem begin_all {sent : Int} {y : Rp} (h0 : y.code = 0) (h1 : 1 ≤ y.lease) (h2 : safeP y.ttl ≠ 0) (h3 : atN sent = true) : beginB sent y = true := by unfold beginB; rw [decide_eq_true ⟨h0, h1, h2⟩, h3]; rfl
theorem kept_six {s : Se} {sent : Int} {y : Rp} (h : y.code = 6) : keptS s sent y = zSe := if_pos h
theorem kept_same {s : Se} {sent : Int} {y : Rp} (h : y.code ≠ 6) (k : keptB s sent y = false) : keptS s sent y = s := by unfold keptS; rw [if_neg h, k]; rfl
theorem kept_more {s : Se} {sent : Int} {y : Rp} (h : y.code ≠ 6) (k : keptB s sent y = true) : keptS s sent y = keptMore s sent := by unfold keptS; rw [if_neg h, k]; rfl
theorem keptB_no {s : Se} {sent : Int} {y : Rp} (h : ¬ (y.code = 0 ∧ y.lease = s.lease) ∨ atN sent = false) : keptB s sent y = false := by
  unfold keptB
  rcases h with h | h
  · rw [decide_eq_false h]; rfl
  · rw [h, Bool.and_false]
theorem keptB_yes {s : Se} {sent : Int} {y : Rp} (h : y.code = 0 ∧ y.lease = s.lease) (k : atN sent = true) : keptB s sent y = true := by unfold keptB; rw [decide_eq_true h, k]; rfl
end Go.Proofs.Ytpecgkkhjkfmmaa.P
