/- Layer 2, plain: what a ticket is, and what it tells. -/
import Derived.Test.YthagkjadbfodaaaDoorKeyId
namespace Go.Proofs.YthagkjadbfodaaaDoor.P
open Go.RowKit
set_option linter.unusedVariables false
set_option maxRecDepth 100000

theorem hexD_all : ∀ x : Fin 16, isHex (hexD x.1) = true ∧ worth (hexD x.1) = x.1 ∧ inB 33 126 (hexD x.1) = true := by decide
theorem hexD_is {x : Nat} (h : x < 16) : isHex (hexD x) = true ∧ worth (hexD x) = x ∧ inB 33 126 (hexD x) = true := hexD_all ⟨x, h⟩
theorem hexL_all (n k : Nat) : (hexL n k).all isHex = true ∧ (hexL n k).all (inB 33 126) = true := by
  induction k with
  | zero => exact ⟨rfl, rfl⟩
  | succ k ih =>
    have h := hexD_is (show n / 16 ^ k % 16 < 16 by omega)
    simp only [hexL, List.all_cons, h.1, h.2.2, ih.1, ih.2, Bool.and_self, and_self]
theorem hexL_succ (n k : Nat) : hexL n (k + 1) = hexL (n / 16) k ++ [hexD (n % 16)] := by
  induction k with
  | zero => simp [hexL]
  | succ k ih =>
    rw [hexL, ih]
    rw [show n / 16 ^ (k + 1) = n / 16 / 16 ^ k by rw [Nat.pow_succ, Nat.mul_comm, Nat.div_div_eq_div_mul]]
    rfl
theorem unhex_hex (n k : Nat) : unhexN (hexL n k) = n % 16 ^ k := by
  induction k generalizing n with
  | zero => simp [hexL, unhexN, Nat.mod_one]
  | succ k ih =>
    rw [hexL_succ, unhexN_snoc, ih, (hexD_is (show n % 16 < 16 by omega)).2.1]
    rw [show 16 ^ (k + 1) = 16 * 16 ^ k by rw [Nat.pow_succ, Nat.mul_comm], Nat.mod_mul]
    omega
theorem hexB_list (n : Nat) : (hexB n).data.toList = hexL n 10 := by
  show (hexL n 10).toArray.toList = _
  rw [List.toList_toArray]
theorem hexB_tells (n : Nat) (h : n ≤ 1099511627775) : idV (hexB n) = (n : Int) ∧ hexAll (hexB n) = true := by
  have h1 : (hexB n).data.toList.all isHex = true := by rw [hexB_list]; exact (hexL_all n 10).1
  obtain ⟨a, b⟩ := idV_yes h1
  refine ⟨?_, b⟩
  rw [a, hexB_list, unhex_hex, Nat.mod_eq_of_lt (show n < 16 ^ 10 by have : (16 : Nat) ^ 10 = 1099511627776 := by decide
                                                                     omega)]

theorem alnum_key {c : UInt8} (h : alnum c = true) : inB 33 126 c = true := by
  simp only [alnum, inB, Bool.or_eq_true, Bool.and_eq_true, decide_eq_true_eq] at *
  omega
theorem letter_key : ∀ k : Fin 9, (letterB k.1).data.toList.all (inB 33 126) = true := by decide
theorem prefix_key {k : Nat} {s : ByteArray} (h8 : k ≤ 8) (hn : nameL s.data.toList = true) : (prefixB k s).data.toList.all (inB 33 126) = true := by
  unfold prefixB
  rw [app_list, app_list, app_list, List.all_append, List.all_append, List.all_append]
  rw [letter_key ⟨k, by omega⟩]
  have : s.data.toList.all (inB 33 126) = true := by
    simp only [nameL, madeL, Bool.and_eq_true] at hn
    exact List.all_eq_true.2 fun c hc => alnum_key (List.all_eq_true.1 hn.2 c hc)
  rw [this]
  rfl
theorem ticket_key {k n : Nat} {s : ByteArray} (h1 : 1 ≤ k) (h8 : k ≤ 8) (hn : nameL s.data.toList = true) : checkL (ticketB k s n).data.toList = true := by
  have hz := prefix_size h1 h8 s
  have hh := hex_size n
  have hs := nameL_size hn
  have hsz : (ticketB k s n).data.toList.length = s.size + 13 := by
    rw [list_size]; unfold ticketB; rw [size_app, hz, hh]
  unfold checkL
  rw [madeL_fit (by omega) (by omega)]
  unfold ticketB
  rw [app_list, List.all_append, prefix_key h8 hn, hexB_list, (hexL_all n 10).2]
  rfl
theorem ticket_size {k n : Nat} {s : ByteArray} (h1 : 1 ≤ k) (h8 : k ≤ 8) (hn : nameL s.data.toList = true) : (ticketB k s n).size ≤ maxLen := by
  have hz := prefix_size h1 h8 s
  have hh := hex_size n
  have hs := nameL_size hn
  unfold ticketB maxLen
  rw [size_app]
  omega

end Go.Proofs.YthagkjadbfodaaaDoor.P
