/- Layer 7: View, the program's and the document's. -/
import Derived.Test.YtkikfaeigoeogaaKvEv
import Derived.Test.YtkikfaeigoeogaaMvPure
namespace Go.Proofs.Ytkikfaeigoeogaa.P
open Go.RowKit
set_option maxHeartbeats 2000000
set_option linter.unusedVariables false
set_option linter.unusedSimpArgs false
set_option maxRecDepth 100000
def vwL (l : List KV) (es : List Ev) : List KV := es.foldl afterE l
theorem vw_len : ∀ (es : List Ev) (l : List KV), (vwL l es).length ≤ l.length + es.length
  | [], l => Nat.le_refl _
  | e :: r, l => by
    show (vwL (afterE l e) r).length ≤ _
    have h1 := vw_len r (afterE l e)
    have h2 : (afterE l e).length ≤ l.length + 1 := by
      have h3 := fold_len_to l [e] e.rev 1
      have h4 : foldL l ([e].take 1) e.rev = afterE l e := step_after (Int.le_refl _)
      rw [h4] at h3
      simpa using h3
    simp only [List.length_cons]
    omega
theorem vw_take (l : List KV) (es : List Ev) (j : Nat) (x : Ev) (h : es[j]? = some x) : vwL l (es.take (j + 1)) = afterE (vwL l (es.take j)) x := by
  rw [take_succ es j x h]; unfold vwL; rw [List.foldl_append]; rfl
theorem vw_fold {l : List KV} {es : List Ev} (h : ∀ e ∈ es, inI e.rev) : foldL l es 9223372036854775807 = vwL l es := foldL_all es l (fun e he => (h e he).2)
theorem viewp_any (A : Option Addr) (n c : Nat) (l : List KV) (B : Option Addr) (m d : Nat) (es : List Ev) (w : World) (h : KVs w A n c l) (g : Evs w B m d es) (hn : n + m ≤ 900000) :
    Calls Try.prog 18 #[.slice A n c, .slice B m d] w (SomeKVs w (vwL l es)) := by
  have cF := fold_any A n c l B m d es 9223372036854775807 w h g hn
  rw [vw_fold (fun e he => (g.ok e he).rev)] at cF
  clear h g
  go_enter Try.func18, Try.ntmps18
  go_wp2_with fail
  refine cF.mono ?_; rintro e w1 ⟨A2, n2, c2, rfl, hk, hb⟩
  go_wp2
  go_ret
  exact ⟨A2, n2, c2, rfl, hk, hb⟩
theorem vwr_any (A : Option Addr) (n c : Nat) (l : List KV) (B : Option Addr) (m d : Nat) (es : List Ev) (w : World) (h : KVs w A n c l) (g : Evs w B m d es) (hn : n + m ≤ 900000) :
    Calls Try.prog 19 #[.slice A n c, .slice B m d] w (SomeKVs w (vwL l es)) := by
  have H := Lib.hid h
  have G := Lib.hid g
  have HL := Lib.hid h.len
  have GL := Lib.hid g.len
  clear h g
  go_enter Try.func19, Try.ntmps19
  go_wp2
  go_loopw [0, 5] (fun v i wr => ∃ (j : Nat) (A' : Option Addr) (k' c' : Nat), j ≤ m ∧ i = .int .i64 j ∧ v = .slice A' k' c' ∧ KVs wr A' k' c' (vwL l (es.take j)) ∧ Below w.heap.size w wr) (fun _ i _ => m - (intOf i).toNat)
  case atStart => exact ⟨0, A, n, c, Nat.zero_le _, rfl, rfl, H.out, Below.refl _ _⟩
  case round =>
    obtain ⟨j, A', k', c', hj, rfl, rfl, hk, hbel⟩ := hrel
    have HK := Lib.hid hk
    have HB := Lib.hid hbel
    clear hk hbel
    by_cases hlt : j < m
    · obtain ⟨a, x, rfl, hbl, hx, hok, hc⟩ := (G.out.keep HB.out).at_ hlt
      obtain ⟨c0, c1, c2, c3, c4, c5, c6, c7⟩ := hc
      have HXO := Lib.hid hok
      have HS := Lib.hid (vw_take l es j x hx)
      have hln : Hid (k' ≤ 1000000) := Lib.hid (by
        have h1 := vw_len (es.take j) l
        rw [HK.out.len, HL.out, List.length_take] at h1
        omega)
      clear hx hok hbl
      cases hg : x.gone with
      | true =>
        have HE : Hid (afterE (vwL l (es.take j)) x = takeL (vwL l (es.take j)) x.kv.key) := Lib.hid (by unfold afterE; rw [hg]; rfl)
        rw [hg] at c1
        clear hg
        go_wp2_with fail
        refine (take_reff A' k' c' _ x.kv.key _ HK.out hln.out).mono ?_; rintro e w2 ⟨A2, n2, c2, rfl, hk2, hb2, _⟩
        have HK2 := Lib.hid hk2
        have HB2 := Lib.hid hb2
        clear hk2 hb2
        go_wp2
        go_roundw
        case rel => exact ⟨j + 1, A2, n2, c2, by omega, by go_num, rfl, by rw [HS.out, HE.out]; exact HK2.out, HB.out.trans (HB2.out.mono HB.out.size)⟩
        case measure => simp [intOf]; omega
      | false =>
        have HE : Hid (afterE (vwL l (es.take j)) x = layL (vwL l (es.take j)) x.kv) := Lib.hid (by unfold afterE; rw [hg]; rfl)
        rw [hg] at c1
        clear hg
        go_wp2_with fail
        refine (lay_reff A' k' c' _ x.kv _ HK.out HXO.out.kv hln.out).mono ?_; rintro e w2 ⟨A2, n2, c2, rfl, hk2, hb2, _⟩
        have HK2 := Lib.hid hk2
        have HB2 := Lib.hid hb2
        clear hk2 hb2
        go_wp2
        go_roundw
        case rel => exact ⟨j + 1, A2, n2, c2, by omega, by go_num, rfl, by rw [HS.out, HE.out]; exact HK2.out, HB.out.trans (HB2.out.mono HB.out.size)⟩
        case measure => simp [intOf]; omega
    · obtain rfl : j = m := by omega
      have HF : Hid (es.take j = es) := Lib.hid (List.take_of_length_le (by rw [GL.out]; exact Nat.le_refl _))
      go_wp2
      go_ret
      exact ⟨A', k', c', rfl, by have h1 := HK.out; rw [HF.out] at h1; exact h1, HB.out⟩
end Go.Proofs.Ytkikfaeigoeogaa.P
