/- Calls that only read lists of things: few, the same. -/
import Derived.Test.YtkikfaeigoeogaaKv
import Derived.BigQuiet
import Derived.Deep.QuietTactic
import Derived.WalkLawsBesides
import Derived.WalkSpells
import Derived.Laws.StructEq
import Derived.WalkSmall
namespace Go.Proofs.Ytkikfaeigoeogaa.P
open Go.RowKit
set_option maxHeartbeats 400000
set_option linter.unusedVariables false
set_option maxRecDepth 100000

theorem retB {a b : Bool} (h : a = b) : Ending.returned (.bool a) = .returned (.bool b) := by rw [h]
def shortKV (x : KV) : Bool := decide (x.key.size ≤ 60) && decide (x.val.size ≤ 60)
def fewB (most : Nat) (l : List KV) : Bool := decide (l.length ≤ most) && l.all shortKV
theorem all_take_s {α : Type} (l : List α) (p : α → Bool) (k : Nat) (x : α) (h : l[k]? = some x) : (l.take (k + 1)).all p = ((l.take k).all p && p x) := by
  rw [take_succ l k x h, List.all_append]; simp
theorem all_stop_s {α : Type} (l : List α) (p : α → Bool) (k : Nat) (x : α) (h : l[k]? = some x) (hp : p x = false) : l.all p = false := by
  rw [List.all_eq_false]
  exact ⟨x, List.mem_of_getElem? h, by simp [hp]⟩

/-- The first k of l are all good. Plain, so that the walk leaves it alone. -/
def AllTo {α : Type} (p : α → Bool) (l : List α) (k : Nat) : Prop := (l.take k).all p = true
theorem AllTo.out {α : Type} {p : α → Bool} {l : List α} {k : Nat} (h : AllTo p l k) : (l.take k).all p = true := h
theorem few_any (A : Option Addr) (n c : Nat) (l : List KV) (most : Nat) (w : World) (h : KVs w A n c l) (hm : most ≤ 1000) :
    Calls Try.prog 14 #[.slice A n c, .int .i64 most] w fun e w' => e = .returned (.bool (fewB most l)) ∧ w = w' := by
  have hlen := h.len
  have H := Lib.hid h
  clear h
  by_cases hn : n ≤ most
  · have HF : Hid (fewB most l = l.all shortKV) := by
      show _ = _
      simp [fewB, hlen, hn]
    have HL := Lib.hid hlen
    clear hlen
    go_enter Try.func14, Try.ntmps14
    go_wp2
    go_loop [5] (fun i => ∃ k : Nat, k ≤ n ∧ i = .int .i64 k ∧ AllTo shortKV l k) (fun i => n - (intOf i).toNat)
    case atStart => exact ⟨0, Nat.zero_le _, rfl, rfl⟩
    case round =>
      obtain ⟨k, hk, rfl, hall⟩ := hrel
      by_cases hlt : k < n
      · obtain ⟨a, x, rfl, hbl, hx, hok, hc⟩ := H.out.at_ hlt
        have h0 := hc.c0
        have h1 := hc.c1
        have HT := Lib.hid (all_take_s l shortKV k x hx)
        have HS : Hid (shortKV x = false → l.all shortKV = false) := fun e => all_stop_s l shortKV k x hx e
        clear hc hok hbl
        have HX := Lib.hid hx
        clear hx
        by_cases hs : x.key.size ≤ 60
        · by_cases hv : x.val.size ≤ 60
          · go_wp2
            go_round
            case rel => exact ⟨k + 1, by omega, by go_num, by show _ = true; rw [HT.out, hall.out]; simp [shortKV, hs, hv]⟩
            case measure => simp [intOf]; omega
          · go_wp2
            go_ret
            exact ⟨retB (by rw [HF.out, HS.out (by simp [shortKV, hv])]), rfl⟩
        · go_wp2
          go_ret
          exact ⟨retB (by rw [HF.out, HS.out (by simp [shortKV, hs])]), rfl⟩
      · have e : k = n := by omega
        subst e
        go_wp2
        go_ret
        exact ⟨retB (by rw [HF.out, ← hall.out, take_full l k HL.out]), rfl⟩
  · have HF : Hid (fewB most l = false) := by
      show _ = _
      simp [fewB, hlen, hn]
    clear hlen
    go_enter Try.func14, Try.ntmps14
    go_wp2
    go_ret
    exact ⟨retB HF.out.symm, rfl⟩

/-- Two things are unlike, or alike: of one and the same. -/
theorem neq_same (w : World) (a b : ByteArray) (i j k m : Int) :
    (binOp .neq 36 (.agg #[.string a, .string b, .int .i64 i, .int .i64 j, .int .i64 k, .int .i64 m]) (.agg #[.string a, .string b, .int .i64 i, .int .i64 j, .int .i64 k, .int .i64 m])).run Try.prog w = .ok (.bool false) w := by
  simp [go_sem, Try.underlying36]
theorem eql_same (w : World) (a b : ByteArray) (i j k m : Int) :
    (binOp .eql 36 (.agg #[.string a, .string b, .int .i64 i, .int .i64 j, .int .i64 k, .int .i64 m]) (.agg #[.string a, .string b, .int .i64 i, .int .i64 j, .int .i64 k, .int .i64 m])).run Try.prog w = .ok (.bool true) w := by
  simp [go_sem, Try.underlying36]

theorem kvs_same (A B : Option Addr) (n c d : Nat) (l : List KV) (w : World) (h : KVs w A n c l) (g : KVs w B n d l) (hm : n ≤ 1000000) :
    Calls Try.prog 17 #[.slice A n c, .slice B n d] w fun e w' => e = .returned (.bool true) ∧ Below w.heap.size w w' := by
  have H := Lib.hid h
  have G := Lib.hid g
  clear h g
  go_enter Try.func17, Try.ntmps17
  go_wp2
  go_loopw [5] (fun i wr => ∃ k q : Nat, k ≤ n ∧ i = .int .i64 k ∧ wr = w.drewN q) (fun i _ => n - (intOf i).toNat)
  case atStart => exact ⟨0, 0, Nat.zero_le _, rfl, rfl⟩
  case round =>
    obtain ⟨k, q, hk, rfl, rfl⟩ := hrel
    by_cases hlt : k < n
    · obtain ⟨a, x, rfl, hbl, hx, hok, hc⟩ := H.out.at_ hlt
      obtain ⟨b, y, rfl, gbl, hy, gok, gc⟩ := G.out.at_ hlt
      obtain rfl : x = y := Option.some.inj (hx.symm.trans hy)
      obtain ⟨c0, c1, c2, c3, c4, c5⟩ := hc
      obtain ⟨d0, d1, d2, d3, d4, d5⟩ := gc
      have hne := neq_same
      clear hx hy hok gok hbl gbl
      go_wp2
      go_quiet (fail)
      go_wp2
      go_roundw
      case rel => exact ⟨k + 1, _, by omega, by go_num, rfl⟩
      case measure => simp [intOf]; omega
    · have e : k = n := by omega
      subst e
      go_wp2
      go_ret
      exact ⟨rfl, below_drewN (Below.refl _ _) _⟩
end Go.Proofs.Ytkikfaeigoeogaa.P
