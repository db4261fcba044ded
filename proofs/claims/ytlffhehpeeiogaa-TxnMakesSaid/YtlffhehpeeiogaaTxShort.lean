/- Requests that are short: the answer is some Boolean. -/
import Derived.Test.YtlffhehpeeiogaaTxPure
import Derived.Test.YtlffhehpeeiogaaMvSame
namespace Go.Proofs.Ytlffhehpeeiogaa.P
open Go.RowKit Go.Sort
set_option maxHeartbeats 1000000
set_option linter.unusedVariables false
set_option linter.unusedSimpArgs false
set_option maxRecDepth 100000

abbrev reqV (A : Option Addr) (n c : Nat) (B : Option Addr) (m d : Nat) (C : Option Addr) (o e : Nat) : Array Value := #[.int .i64 0, .int .i64 0, .int .i64 0, .bool false, .string ⟨#[]⟩, .string ⟨#[]⟩, .int .i64 0, .int .i64 0, .int .i64 0, .int .i64 0, .slice A n c, .slice B m d, .slice C o e]
def SomeB (e : Ending) : Prop := ∃ b, e = .returned (.bool b)
theorem shmuts_any (A : Option Addr) (n c : Nat) (l : List Mu) (w : World) (h : Mus w A n c l) :
    Calls Try.prog 76 #[.slice A n c] w fun e w' => SomeB e ∧ w = w' := by
  have hmax := Nat.le_trans h.le h.max
  unfold maxLen at hmax
  have H := Lib.hid h
  clear h
  by_cases h8 : n ≤ 8
  case neg =>
    go_enter Try.func76, Try.ntmps76
    go_wp2
    go_ret
    exact ⟨⟨_, rfl⟩, rfl⟩
  go_enter Try.func76, Try.ntmps76
  go_wp2
  go_loop [3] (fun i => ∃ k : Nat, k ≤ n ∧ i = .int .i64 k) (fun i => n - (intOf i).toNat)
  case atStart => exact ⟨0, Nat.zero_le _, rfl⟩
  case round =>
    obtain ⟨k, hk, rfl⟩ := hrel
    by_cases hlt : k < n
    · obtain ⟨a, x, rfl, hbl, hx, hok, hc⟩ := H.out.at_ hlt
      obtain ⟨c0, c1, c2, c3⟩ := hc
      have z0 := hok.key; have z1 := hok.val
      unfold maxLen at z0 z1
      clear hx hbl hok
      by_cases hs : x.key.size ≤ 60
      · by_cases hv : x.val.size ≤ 60
        · go_wp2
          go_round
          case rel => exact ⟨k + 1, by omega, by go_num⟩
          case measure => simp [intOf]; omega
        · go_wp2
          go_ret
          exact ⟨⟨_, rfl⟩, rfl⟩
      · go_wp2
        go_ret
        exact ⟨⟨_, rfl⟩, rfl⟩
    · obtain rfl : k = n := by omega
      go_wp2
      go_ret
      exact ⟨⟨_, rfl⟩, rfl⟩
theorem rshort_any (t : Tx) (A : Option Addr) (n c : Nat) (B : Option Addr) (m d : Nat) (C : Option Addr) (o e : Nat) (w : World) (h : TxAt w t A n c B m d C o e) :
    Calls Try.prog 37 #[.agg (reqV A n c B m d C o e)] w fun r w' => SomeB r ∧ Below w.heap.size w w' := by
  have hn := Nat.le_trans h.iff.row.le h.iff.row.max
  have hm := Nat.le_trans h.thn.le h.thn.max
  have ho := Nat.le_trans h.els.le h.els.max
  unfold maxLen at hn hm ho
  have B0 := Lib.hid (new1 w (.cells (reqV A n c B m d C o e) 60))
  have H := Lib.hid (h.keep (new1 w (.cells (reqV A n c B m d C o e) 60)))
  clear h
  by_cases h1 : n ≤ 8
  case neg =>
    go_enter Try.func37, Try.ntmps37
    go_wp2
    go_ret
    exact ⟨⟨_, rfl⟩, B0.out⟩
  by_cases h2 : m ≤ 8
  case neg =>
    go_enter Try.func37, Try.ntmps37
    go_wp2
    go_ret
    exact ⟨⟨_, rfl⟩, B0.out⟩
  by_cases h3 : o ≤ 8
  case neg =>
    go_enter Try.func37, Try.ntmps37
    go_wp2
    go_ret
    exact ⟨⟨_, rfl⟩, B0.out⟩
  go_enter Try.func37, Try.ntmps37
  go_wp2
  go_loop [3] (fun i => ∃ k : Nat, k ≤ n ∧ i = .int .i64 k) (fun i => n - (intOf i).toNat)
  case atStart => exact ⟨0, Nat.zero_le _, rfl⟩
  case round =>
    obtain ⟨k, hk, rfl⟩ := hrel
    by_cases hlt : k < n
    · obtain ⟨a, x, rfl, hbl, hx, hok, hc⟩ := H.out.iff.at_ hlt
      obtain ⟨c0, c1, c2, c3, c4⟩ := hc
      have z0 := hok.key; have z1 := hok.val
      unfold maxLen at z0 z1
      clear hx hbl hok
      by_cases hs : x.key.size ≤ 60
      · by_cases hv : x.val.size ≤ 60
        · go_wp2
          go_round
          case rel => exact ⟨k + 1, by omega, by go_num⟩
          case measure => simp [intOf]; omega
        · go_wp2
          go_ret
          exact ⟨⟨_, rfl⟩, B0.out⟩
      · go_wp2
        go_ret
        exact ⟨⟨_, rfl⟩, B0.out⟩
    · obtain rfl : k = n := by omega
      go_wp2_with fail
      refine (shmuts_any B m d t.thn _ H.out.thn).mono ?_; rintro r w1 ⟨⟨b, rfl⟩, rfl⟩
      cases b with
      | false =>
        go_wp2
        go_ret
        exact ⟨⟨_, rfl⟩, B0.out⟩
      | true =>
        go_wp2_with fail
        refine (shmuts_any C o e t.els _ H.out.els).mono ?_; rintro r w1 ⟨⟨b2, rfl⟩, rfl⟩
        go_wp2
        go_ret
        exact ⟨⟨_, rfl⟩, B0.out⟩
end Go.Proofs.Ytlffhehpeeiogaa.P
