/- What becomes of a list by events: watch's way, and the document's. -/
import Derived.Test.YtjjngablalnbeaaDoorElPure
namespace Go.Proofs.YtjjngablalnbeaaDoor.P
open Go.RowKit Go.Sort
set_option maxHeartbeats 2000000
set_option linter.unusedVariables false
set_option linter.unusedSimpArgs false
set_option maxRecDepth 100000

theorem view_any (A : Option Addr) (n c : Nat) (l : List KV) (B : Option Addr) (m d : Nat) (es : List Ev) (w : World) (h : KVs w A n c l) (g : Evs w B m d es) (hn : n + m ≤ 900000) :
    Calls Tryd.prog 39 #[.slice A n c, .slice B m d] w (SomeKVs w (viewL l es)) := by
  have c1 := fold_any A n c l B m d es 9223372036854775807 w h g hn
  rw [view_fold l es _ (fun e he => by have := (g.ok e he).rev.2; omega)] at c1
  clear h g
  go_enter Tryd.func39, Tryd.ntmps39
  go_wp2_with fail
  refine c1.mono ?_; rintro e w1 ⟨A', n', c', rfl, hk, hb⟩
  have K := Lib.hid hk
  have B1 := Lib.hid hb
  clear hk hb c1
  go_wp2
  go_ret
  exact ⟨A', n', c', rfl, K.out, B1.out⟩
theorem view_fresh (A : Option Addr) (n c : Nat) (l : List KV) (B : Option Addr) (m d : Nat) (es : List Ev) (w : World) (h : KVs w A n c l) (g : Evs w B m d es) (hn : n + m ≤ 900000) :
    Calls Tryd.prog 39 #[.slice A n c, .slice B m d] w (FreshKVs w (viewL l es)) := by
  have c1 := fold_fresh A n c l B m d es 9223372036854775807 w h g hn
  rw [view_fold l es _ (fun e he => by have := (g.ok e he).rev.2; omega)] at c1
  clear h g
  go_enter Tryd.func39, Tryd.ntmps39
  go_wp2_with fail
  refine c1.mono ?_; rintro e w1 ⟨A', n', c', rfl, hk, hb, hf⟩
  have K := Lib.hid hk
  have B1 := Lib.hid hb
  have F1 := Lib.hid hf
  clear hk hb c1 hf
  go_wp2
  go_ret
  exact ⟨A', n', c', rfl, K.out, B1.out, F1.out⟩
/-- What becomes of a list, and that it is new where there was an event. -/
def ViewEnd (m : Nat) (w : World) (l : List KV) (e : Ending) (w' : World) : Prop := ∃ A n c, e = .returned (.slice A n c) ∧ KVs w' A n c l ∧ Below w.heap.size w w' ∧ (0 < m → ∀ a, A = some a → w.heap.size ≤ a.block)
theorem viewr_end (A : Option Addr) (n c : Nat) (l : List KV) (B : Option Addr) (m d : Nat) (es : List Ev) (w : World) (h : KVs w A n c l) (g : Evs w B m d es) (hn : n + m ≤ 900000) :
    Calls Tryd.prog 40 #[.slice A n c, .slice B m d] w (ViewEnd m w (viewL l es)) := by
  have H := Lib.hid h
  have G := Lib.hid g
  have HL := Lib.hid h.len
  have GL := Lib.hid g.len
  clear h g
  go_enter Tryd.func40, Tryd.ntmps40
  go_wp2
  go_loopw [0, 5] (fun v i wr => ∃ (j : Nat) (A' : Option Addr) (k' c' : Nat), j ≤ m ∧ i = .int .i64 j ∧ v = .slice A' k' c' ∧ KVs wr A' k' c' (viewL l (es.take j)) ∧ Below w.heap.size w wr ∧ (0 < j → ∀ a, A' = some a → w.heap.size ≤ a.block)) (fun _ i _ => m - (intOf i).toNat)
  case atStart => exact ⟨0, A, n, c, Nat.zero_le _, rfl, rfl, H.out, Below.refl _ _, fun h => by omega⟩
  case round =>
    rename World => wr
    obtain ⟨j, A', k', c', hj, rfl, rfl, hk, hb, hfr⟩ := hrel
    have K := Lib.hid hk
    have HB := Lib.hid hb
    have HKL := Lib.hid hk.len
    have FR := Lib.hid hfr
    clear hfr
    clear hk hb
    by_cases hlt : j < m
    · obtain ⟨b, e, rfl, hbl, hx, hok, hc⟩ := (G.out.keep HB.out).at_ hlt
      obtain ⟨c0, c1, c2, c3, c4, c5, c6, c7⟩ := hc
      have HN := Lib.hid (view_next l es j e hx)
      have hlt1 : (j : Int) < m := by omega
      have hlen : k' ≤ 1000000 := by
        have h1 := view_len l (es.take j)
        rw [HKL.out, HL.out, List.length_take, GL.out] at h1
        omega
      have EOK := Lib.hid hok.kv
      generalize viewL l (es.take j) = o at *
      clear hx hok
      cases hg : e.gone with
      | true =>
        have HS : Hid (evL o e = takeL o e.kv.key) := Lib.hid (by unfold evL; rw [if_pos hg])
        rw [hg] at c1
        have ct := take_reff A' k' c' o e.kv.key wr K.out hlen
        clear hg
        go_wp2_with fail
        refine ct.mono ?_; rintro e' w2 ⟨A2, n2, c2', rfl, hk, hb, hf⟩
        have K2 := Lib.hid hk
        have B2 := Lib.hid (then_ HB.out hb)
        have F2 := Lib.hid (show (0 < j + 1 → ∀ a, A2 = some a → w.heap.size ≤ a.block) from fun _ a ha => Nat.le_trans HB.out.size (hf a ha))
        clear hk hb ct hf
        go_wp2
        go_roundw
        case rel => exact ⟨j + 1, A2, n2, c2', by omega, by go_num, rfl, by rw [HN.out, HS.out]; exact K2.out, B2.out, F2.out⟩
        case measure => simp [intOf]; omega
      | false =>
        have HS : Hid (evL o e = layL o e.kv) := Lib.hid (by unfold evL; rw [if_neg (by simp [hg])])
        rw [hg] at c1
        have ct := lay_reff A' k' c' o e.kv wr K.out EOK.out hlen
        clear hg
        go_wp2_with fail
        refine ct.mono ?_; rintro e' w2 ⟨A2, n2, c2', rfl, hk, hb, hf⟩
        have K2 := Lib.hid hk
        have B2 := Lib.hid (then_ HB.out hb)
        have F2 := Lib.hid (show (0 < j + 1 → ∀ a, A2 = some a → w.heap.size ≤ a.block) from fun _ a ha => Nat.le_trans HB.out.size (hf a ha))
        clear hk hb ct hf
        go_wp2
        go_roundw
        case rel => exact ⟨j + 1, A2, n2, c2', by omega, by go_num, rfl, by rw [HN.out, HS.out]; exact K2.out, B2.out, F2.out⟩
        case measure => simp [intOf]; omega
    · obtain rfl : j = m := by omega
      have e : es.take j = es := take_full es j GL.out
      rw [e] at K
      go_wp2
      go_ret
      exact ⟨A', k', c', rfl, K.out, HB.out, FR.out⟩
theorem viewr_any (A : Option Addr) (n c : Nat) (l : List KV) (B : Option Addr) (m d : Nat) (es : List Ev) (w : World) (h : KVs w A n c l) (g : Evs w B m d es) (hn : n + m ≤ 900000) :
    Calls Tryd.prog 40 #[.slice A n c, .slice B m d] w (SomeKVs w (viewL l es)) := (viewr_end A n c l B m d es w h g hn).mono fun _ _ ⟨A', n', c', h1, h2, h3, _⟩ => ⟨A', n', c', h1, h2, h3⟩
theorem viewr_fresh (A : Option Addr) (n c : Nat) (l : List KV) (B : Option Addr) (m d : Nat) (es : List Ev) (w : World) (h : KVs w A n c l) (g : Evs w B m d es) (hn : n + m ≤ 900000) (hm : 0 < m) :
    Calls Tryd.prog 40 #[.slice A n c, .slice B m d] w (FreshKVs w (viewL l es)) := (viewr_end A n c l B m d es w h g hn).mono fun _ _ ⟨A', n', c', h1, h2, h3, h4⟩ => ⟨A', n', c', h1, h2, h3, h4 hm⟩
end Go.Proofs.YtjjngablalnbeaaDoor.P
