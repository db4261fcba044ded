/- Leases: whether they may be, the program's way and the document's; few of little. -/
import Derived.Test.YtpecgkkhjkfmmaaLs
import Derived.BigQuiet
import Derived.Lib.QuietBelow
namespace Go.Proofs.Ytpecgkkhjkfmmaa.P
open Go.RowKit Go.Sort
set_option maxHeartbeats 1000000
set_option linter.unusedVariables false
set_option linter.unusedSimpArgs false
set_option maxRecDepth 100000

/-- What mayLease tells: all but the Id. -/
def okT (x : Le) : Bool := decide (1 ≤ x.ttl ∧ x.ttl ≤ 1000 ∧ 0 ≤ x.til ∧ x.til ≤ 1099511627775 + x.ttl)
theorem okT_iff {x : Le} : okT x = true ↔ (1 ≤ x.ttl ∧ x.ttl ≤ 1000 ∧ 0 ≤ x.til ∧ x.til ≤ 1099511627775 + x.ttl) := by unfold okT; exact decide_eq_true_iff
theorem okLe_okT {n : Int} {x : Le} : okLe n x = true ↔ (1 ≤ x.id ∧ x.id ≤ n ∧ okT x = true) := by rw [okLe_iff, okT_iff]
theorem may_out {s : Ls} (h : ¬ (0 ≤ s.next ∧ s.next ≤ 1099511627775 ∧ s.l.length ≤ 8)) : mayL s = false := by
  unfold mayL; rw [decide_eq_false h]; rfl
theorem may_in {s : Ls} (h : 0 ≤ s.next ∧ s.next ≤ 1099511627775 ∧ s.l.length ≤ 8) : mayL s = (s.l.all (okLe s.next) && decide (Rises s.l)) := by
  unfold mayL; rw [decide_eq_true h]; rfl
theorem may_yes {s : Ls} (h : 0 ≤ s.next ∧ s.next ≤ 1099511627775 ∧ s.l.length ≤ 8) (ht : To s.next s.l s.l.length) : mayL s = true := by
  rw [may_in h, ht.all.1, decide_eq_true ht.all.2]; rfl
theorem may_no {s : Ls} {j : Nat} {x : Le} (h : To s.next s.l j) (hx : s.l[j]? = some x) (hb : ¬ (leastL s.l j ≤ x.id ∧ okLe s.next x = true)) : mayL s = false := by
  cases hm : mayL s with
  | false => rfl
  | true =>
    have := (mayL_iff s).1 hm
    exact absurd ⟨List.all_eq_true.2 this.ok, this.rise⟩ (h.bad hx hb)
end Go.Proofs.Ytpecgkkhjkfmmaa.P
