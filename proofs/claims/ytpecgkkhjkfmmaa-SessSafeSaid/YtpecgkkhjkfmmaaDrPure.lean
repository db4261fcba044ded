/- Layer 11, plain: how clocks go on; no program in sight. -/
import Derived.WalkKit
namespace Go.Proofs.Ytpecgkkhjkfmmaa.P
open Go.RowKit
set_option linter.unusedVariables false

def rateP (b : Int) (s : Bool) : Int := if s then (if b < 15 then 15 else if 17 < b then 17 else b) else (if b < 0 then 0 else if 64 < b then 64 else b)
def tickP (s : Bool) (at_ b : Int) : Int := if 1099511627775 < at_ + rateP b s then 1099511627775 else at_ + rateP b s
def goP (at_ : Int) (l : List Int) (s : Bool) : Int := l.foldl (tickP s) at_
def runP (f : Int) (l : List Int) (s : Bool) : Int := if f < 0 ∨ 1099511627775 < f then f else goP f l s
def safeP (t : Int) : Int := if t < 1 ∨ 1000 < t then 0 else t * 15 / 17
def fitsB (t : Int) : Bool := decide (2 ≤ t ∧ t ≤ 1000)

theorem rate_range (b : Int) (s : Bool) : 0 ≤ rateP b s ∧ rateP b s ≤ 64 := by
  unfold rateP; split <;> split <;> first | omega | (split <;> omega)
theorem rate_strict (b : Int) : 15 ≤ rateP b true ∧ rateP b true ≤ 17 := by
  unfold rateP; rw [if_pos rfl]; split <;> first | omega | (split <;> omega)
theorem tick_range (s : Bool) (a b : Int) (h0 : 0 ≤ a) (h1 : a ≤ 1099511627775) : 0 ≤ tickP s a b ∧ tickP s a b ≤ 1099511627775 := by
  have := rate_range b s
  unfold tickP; split <;> omega
theorem go_nil (a : Int) (s : Bool) : goP a [] s = a := rfl
theorem go_snoc (a : Int) (l : List Int) (x : Int) (s : Bool) : goP a (l ++ [x]) s = tickP s (goP a l s) x := by unfold goP; rw [List.foldl_append]; rfl
theorem go_app (a : Int) (l m : List Int) (s : Bool) : goP a (l ++ m) s = goP (goP a l s) m s := by unfold goP; rw [List.foldl_append]
theorem go_range (s : Bool) : ∀ (l : List Int) (a : Int), 0 ≤ a → a ≤ 1099511627775 → 0 ≤ goP a l s ∧ goP a l s ≤ 1099511627775
  | [], a, h0, h1 => ⟨h0, h1⟩
  | x :: r, a, h0, h1 => by
    have h := tick_range s a x h0 h1
    exact go_range s r _ h.1 h.2
theorem go_cap (s : Bool) (l : List Int) (a : Int) (h0 : 0 ≤ a) (h1 : a ≤ 1099511627775) : ¬ (goP a l s < 0 ∨ 1099511627775 < goP a l s) := by
  have := go_range s l a h0 h1; omega
/-- By how much a strict clock goes on, all ticks together. -/
def sumP (l : List Int) : Int := l.foldr (fun x z => rateP x true + z) 0
theorem sum_cons (x : Int) (r : List Int) : sumP (x :: r) = rateP x true + sumP r := rfl
theorem sum_app : ∀ l m : List Int, sumP (l ++ m) = sumP l + sumP m
  | [], m => by show sumP m = 0 + sumP m; omega
  | x :: r, m => by rw [List.cons_append, sum_cons, sum_app r m, sum_cons]; omega
theorem sum_rev : ∀ l : List Int, sumP l.reverse = sumP l
  | [] => rfl
  | x :: r => by rw [List.reverse_cons, sum_app, sum_rev r, sum_cons, sum_cons]; show _ + (_ + 0) = _; omega
theorem sum_low : ∀ l : List Int, 15 * (l.length : Int) ≤ sumP l
  | [] => Int.le_refl _
  | x :: r => by rw [sum_cons]; have := sum_low r; have := rate_strict x; simp only [List.length_cons]; omega
theorem sum_high : ∀ l : List Int, sumP l ≤ 17 * (l.length : Int)
  | [] => Int.le_refl _
  | x :: r => by rw [sum_cons]; have := sum_high r; have := rate_strict x; simp only [List.length_cons]; omega
theorem go_sum : ∀ (l : List Int) (a : Int), 0 ≤ a → a + 17 * (l.length : Int) ≤ 1099511627775 → goP a l true = a + sumP l
  | [], a, h0, h1 => by show a = a + 0; omega
  | x :: r, a, h0, h1 => by
    have hr := rate_strict x
    simp only [List.length_cons] at h1
    have ht : tickP true a x = a + rateP x true := by unfold tickP; rw [if_neg (by omega)]
    show goP (tickP true a x) r true = _
    rw [ht, go_sum r _ (by omega) (by omega), sum_cons]; omega
theorem go_bounds (l : List Int) (a : Int) (h0 : 0 ≤ a) (h1 : a + 17 * (l.length : Int) ≤ 1099511627775) : 15 * (l.length : Int) ≤ goP a l true - a ∧ goP a l true - a ≤ 17 * (l.length : Int) := by
  have := go_sum l a h0 h1; have := sum_low l; have := sum_high l; omega
/-- As long as mine has gone on by less than what is safe, theirs has by less than the lease. -/
theorem fits_at (t : Int) (m l : List Int) (hl : l.length = m.length) (hn : m.length ≤ 1000000) (h : goP 0 m true < safeP t) : goP 0 l true < t := by
  have b1 := go_bounds m 0 (by omega) (by omega)
  have b2 := go_bounds l 0 (by omega) (by omega)
  unfold safeP at h
  split at h <;> omega
theorem safe_pos (t : Int) : (0 < safeP t) ↔ fitsB t = true := by
  unfold safeP fitsB
  rw [decide_eq_true_eq]
  split <;> omega
theorem safe_range (t : Int) : 0 ≤ safeP t ∧ safeP t ≤ 882 := by unfold safeP; split <;> omega
theorem go_rep (a : Int) : ∀ (n : Nat) (x : Int), 0 ≤ a → a + 17 * (n : Int) ≤ 1099511627775 → goP a (List.replicate n x) true = a + n * rateP x true := by
  intro n x h0 h1
  rw [go_sum _ _ h0 (by rw [List.length_replicate]; exact h1)]
  congr 1
  clear h1 h0
  induction n with
  | zero => show (0 : Int) = _; simp
  | succ n ih => rw [List.replicate_succ, sum_cons, ih]; rw [Int.natCast_succ, Int.add_mul]; omega
theorem go_turn (a : Int) (l : List Int) (h0 : 0 ≤ a) (h1 : a + 17 * (l.length : Int) ≤ 1099511627775) : goP a l.reverse true = goP a l true := by
  rw [go_sum l a h0 h1, go_sum l.reverse a h0 (by rw [List.length_reverse]; exact h1), sum_rev]
theorem take_snoc' (l : List Int) (j : Nat) (x : Int) (h : l[j]? = some x) : l.take (j + 1) = l.take j ++ [x] := by
  have hj := (List.getElem?_eq_some_iff.1 h)
  obtain ⟨hlt, rfl⟩ := hj
  exact List.take_succ_eq_append_getElem hlt
end Go.Proofs.Ytpecgkkhjkfmmaa.P
