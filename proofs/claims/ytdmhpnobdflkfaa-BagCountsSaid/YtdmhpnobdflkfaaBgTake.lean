/- Layer 12: what is taken, and what is copied: the program's way and the document's. -/
import Derived.Test.YtdmhpnobdflkfaaBgCat
import Derived.Deep.RegionHeld3
import Derived.Deep.RegionLaw
import Derived.Lib.BufferWrite
import Derived.Test.YtdmhpnobdflkfaaGenStep
namespace Go.Proofs.Ytdmhpnobdflkfaa.P
open Go.RowKit Go.Sort
set_option maxHeartbeats 1000000
set_option linter.unusedVariables false
set_option linter.unusedSimpArgs false
set_option maxRecDepth 100000

theorem cp_parts {b : List Msg} {i : Int} {n : Nat} (h : b.length = n) (hh : hasM b i = true) : (cpE b i = if n + 1 ≤ 16 then 0 else 4) ∧ (cpL b i = if n + 1 ≤ 16 then b ++ [tkM b i] else b) := by
  have h1 : cpE b i = if n + 1 ≤ 16 then 0 else 4 := by unfold cpE; rw [if_pos hh, h]; rfl
  refine ⟨h1, ?_⟩
  unfold cpL; rw [h1]; split <;> simp
theorem one_row {w : World} {a : Addr} {n c k : Nat} {b : List Msg} {i : Int} (h : Ms w (some a) n c b) (hi : i = (k : Int)) (hk : k < n) : Ms w (if c = k then some a else some (a.add (k * 3))) 1 (c - k) [tkM b i] := ⟨by
  have hd := (h.row.drop (i := k) (by omega)).take (i := 1) (by omega)
  have hh : hasM b i = true := hasM_iff.2 (by have := h.len; omega)
  have hx := has_at hh
  subst hi
  rw [Int.toNat_natCast] at hx
  have e : (b.drop k).take 1 = [tkM b (k : Int)] := by
    have h2 : k < b.length := by have := h.len; omega
    rw [List.drop_eq_getElem_cons h2]
    rw [List.getElem?_eq_getElem h2] at hx
    rw [Option.some.inj hx]
    rfl
  rw [e] at hd
  exact hd⟩
theorem copy_any (A : Option Addr) (n c : Nat) (b : List Msg) (i : Int) (w : World) (h : Ms w A n c b) (hn : n ≤ 999) :
    Calls Try.prog 39 #[.slice A n c, .int .i64 i] w (MsEnd (cpL b i) (cpE b i) w) := by
  have H := Lib.hid h
  have HL := h.len
  have hle := h.row.le
  have hmax := h.row.max
  unfold maxLen at hmax
  have cH := Lib.hid (fun w => has_msg A n c b i w HL)
  cases hh : hasM b i with
  | true =>
    have hi := hasM_iff.1 hh
    rw [HL] at hi
    obtain ⟨k, rfl⟩ : ∃ k : Nat, i = (k : Int) := ⟨i.toNat, by omega⟩
    obtain ⟨i0, i1⟩ := hi
    obtain ⟨e1, e2⟩ := cp_parts HL hh
    obtain ⟨a, x, rfl, _⟩ := h.at_ (k := k) (by omega)
    have cW : Hid (Calls Try.prog 61 #[.slice (some a) n c, .slice (if c = k then some a else some (a.add (k * 3))) 1 (c - k)] w (MsEnd (cpL b k) (cpE b k) w)) := Lib.hid (by
      rw [e1, e2]; exact with_any (some a) n c b _ 1 (c - k) [tkM b k] w h (one_row h rfl (by omega)) (by omega) (by omega))
    rw [hh] at cH
    have i2 : k < n := by omega
    have i3 : k < c := by omega
    have i4 : ¬ c = k := by omega
    have i5 : (k : Int) ≤ (c : Int) := by omega
    have i6 : (k : Int) + 1 ≤ (c : Int) := by omega
    have i7 : (0 : Int) ≤ (k : Int) + 1 := by omega
    have i8 : ((k : Int) + 1).toNat = k + 1 := by omega
    have i9 : k + 1 - k = 1 := by omega
    have ia : (k : Int) ≤ (k : Int) + 1 := by omega
    rw [if_neg i4] at cW
    clear h e1 e2 hh HL
    generalize cpE b k = er at *
    generalize cpL b k = ll at *
    go_enter Try.func39, Try.ntmps39
    go_wp2_with fail
    refine (cH.out _).mono ?_; rintro e w' ⟨rfl, rfl⟩
    go_wp2_with fail
    refine cW.out.mono ?_; rintro e w2 ⟨A2, n2, c2, rfl, hk, hb⟩
    have B2 := Lib.hid hb; have K := Lib.hid hk; clear hb hk
    go_wp2
    refine bodyPost_ret (v := .tuple #[.slice A2 n2 c2, .int .i64 er]) (by simp [results, Try.results39, go_sem]) rfl (MsEnd.mk rfl rfl rfl K.out B2.out)
  | false =>
    have HE : Hid (cpE b i = 5) := Lib.hid (by unfold cpE; rw [hh]; rfl)
    have HP : Hid (cpL b i = b) := Lib.hid (cp_err (by rw [HE.out]; decide))
    rw [hh] at cH
    clear h hh HL
    go_enter Try.func39, Try.ntmps39
    go_wp2_with fail
    refine (cH.out _).mono ?_; rintro e w' ⟨rfl, rfl⟩
    go_wp2
    refine bodyPost_ret (v := .tuple #[.slice A n c, .int .i64 5]) (by simp [results, Try.results39, go_sem]) rfl (MsEnd.mk HP.out HE.out rfl H.out (Below.refl _ _))
def MtEnd (m : Msg) (l : List Msg) (er : Int) (w : World) (e : Ending) (w' : World) : Prop := ∃ A n c, e = .returned (.tuple #[m.agg, .slice A n c, .int .i64 er]) ∧ Ms w' A n c l ∧ Below w.heap.size w w'
theorem MtEnd.mk {m m2 : Msg} {l l2 : List Msg} {er er2 : Int} {w : World} {e : Ending} {w' : World} {A : Option Addr} {n c : Nat} (h0 : m = m2) (h1 : l = l2) (h2 : er = er2) (he : e = .returned (.tuple #[m2.agg, .slice A n c, .int .i64 er2])) (hs : Ms w' A n c l2) (hb : Below w.heap.size w w') : MtEnd m l er w e w' := by
  subst h0 h1 h2; exact ⟨A, n, c, he, hs, hb⟩
theorem Ms.other {w : World} {A : Option Addr} {n c : Nat} {l : List Msg} (h : Ms w A n c l) (b i : Nat) (v : Value) (hb : ∀ a, A = some a → a.block ≠ b) : Ms (w.setCell ⟨b, i, none⟩ v) A n c l :=
  ⟨h.row.keep (Lib.grownBy_setCell w b i v) (fun a ha hh => by injection hh with hh; exact hb a ha hh)⟩
abbrev zMsg : Array Value := #[.int .i64 0, .int .i64 0, .string ⟨#[]⟩]
theorem below_set3 {B g : Nat} {w w2 : World} (h : Below B w w2) (hg : B ≤ g) (v0 v1 v2 : Value) : Below B w (((w2.setCell ⟨g, 0, none⟩ v0).setCell ⟨g, 1, none⟩ v1).setCell ⟨g, 2, none⟩ v2) :=
  ((h.setCell (p := ⟨g, 0, none⟩) hg _).setCell (p := ⟨g, 1, none⟩) hg _).setCell (p := ⟨g, 2, none⟩) hg _
theorem parts {w : World} {a : Addr} {n c k : Nat} {b : List Msg} (h : Ms w (some a) n c b) (hk : k < n) : Ms w (some a) k c (b.take k) ∧ Ms w (if c = k + 1 then some a else some (a.add ((k + 1) * 3))) (n - (k + 1)) (c - (k + 1)) (b.drop (k + 1)) :=
  ⟨⟨h.row.take (by omega)⟩, ⟨h.row.drop (by omega)⟩⟩
theorem slice_from (a : Addr) (n c k : Nat) (D : Option Addr) (hD : (if c = k + 1 then some a else some (a.add ((k + 1) * 3))) = D) (w : World) (i2 : k < n) (hle : n ≤ c) (hmax : c ≤ 9223372036854775807) :
    (Instr.slice 35 (.slice (some a) n c) (some (.int .i64 ((k : Int) + 1))) none none).run Try.prog w = .ok (.slice D (n - (k + 1)) (c - (k + 1))) w := by
  have i3 : k < c := by omega
  have ib : (n : Int) ≤ (c : Int) := by omega
  have i0 : (0 : Int) ≤ (k : Int) := by omega
  have i6 : (k : Int) + 1 ≤ (n : Int) := by omega
  have i7 : (0 : Int) ≤ (k : Int) + 1 := by omega
  have i8 : ((k : Int) + 1).toNat = k + 1 := by omega
  go_simp
/-- The same, and that what is told lies in memory of the call's own where there is no error. -/
def MtF (m : Msg) (l : List Msg) (er : Int) (w : World) (e : Ending) (w' : World) : Prop := ∃ A n c, e = .returned (.tuple #[m.agg, .slice A n c, .int .i64 er]) ∧ Ms w' A n c l ∧ Below w.heap.size w w' ∧ (er = 0 → ∀ p, A = some p → w.heap.size ≤ p.block)
theorem MtF.mk {m m2 : Msg} {l l2 : List Msg} {er er2 : Int} {w : World} {e : Ending} {w' : World} {A : Option Addr} {n c : Nat} (h0 : m = m2) (h1 : l = l2) (h2 : er = er2) (he : e = .returned (.tuple #[m2.agg, .slice A n c, .int .i64 er2])) (hs : Ms w' A n c l2) (hb : Below w.heap.size w w') (hf : er2 = 0 → ∀ p, A = some p → w.heap.size ≤ p.block) : MtF m l er w e w' := by
  subst h0 h1 h2; exact ⟨A, n, c, he, hs, hb, hf⟩
theorem take_new (A : Option Addr) (n c : Nat) (b : List Msg) (i : Int) (w : World) (h : Ms w A n c b) (hn : n ≤ 999) :
    Calls Try.prog 37 #[.slice A n c, .int .i64 i] w (MtF (tkM b i) (tkL b i) (tkE b i) w) := by
  have HL := h.len
  have hle := h.row.le
  have hmax := h.row.max
  unfold maxLen at hmax
  have cH := Lib.hid (fun w => has_msg A n c b i w HL)
  have O := Lib.hid (own_new w zMsg 42)
  have BN := Lib.hid (new1 w (.cells zMsg 42))
  have H := Lib.hid (h.keep BN.out)
  cases hh : hasM b i with
  | true =>
    have hi := hasM_iff.1 hh
    rw [HL] at hi
    obtain ⟨k, rfl⟩ : ∃ k : Nat, i = (k : Int) := ⟨i.toNat, by omega⟩
    obtain ⟨i0, i1⟩ := hi
    have HT := Lib.hid (tk_ok hh)
    have hat := has_at hh
    rw [Int.toNat_natCast] at HT hat
    obtain ⟨a, x0, rfl, hb0, _, _⟩ := h.at_ (k := k) (by omega)
    obtain ⟨a', x, ea, hbl, hx, hc⟩ := H.out.at_ (k := k) (by omega)
    obtain rfl := Option.some.inj ea
    obtain ⟨c0, c1, c2⟩ := hc
    have hne : w.heap.size ≠ (a.add (k * 3)).block := by rw [block_add]; omega
    have hne2 : w.heap.size ≠ a.block := by omega
    obtain rfl : x = tkM b k := Option.some.inj (hx.symm.trans hat)
    obtain ⟨t0, t1⟩ := parts H.out (k := k) (by omega)
    have HX := Lib.hid (without_len (b := b) (k := k) (by omega))
    have c0d : (w.alloc (.cells zMsg 42)).drew.cell? (a.add (k * 3)) = some (.int .i64 (tkM b k).frm) := c0
    rw [hh] at cH
    have i2 : k < n := by omega
    have i3 : k < c := by omega
    have i5 : (k : Int) ≤ (c : Int) := by omega
    have i6 : (k : Int) + 1 ≤ (n : Int) := by omega
    have i6c : (k : Int) + 1 ≤ (c : Int) := by omega
    have i7 : (0 : Int) ≤ (k : Int) + 1 := by omega
    have i8 : ((k : Int) + 1).toNat = k + 1 := by omega
    have hlt := hbl
    clear h hx hat hh HL c0d
    generalize tkM b k = x at *
    have T0 := Lib.hid t0; have T1 := Lib.hid t1
    clear t0 t1
    have ib : (n : Int) ≤ (c : Int) := by omega
    obtain ⟨D, hD⟩ : ∃ D, (if c = k + 1 then some a else some (a.add ((k + 1) * 3))) = D := ⟨_, rfl⟩
    rw [hD] at T1
    have hmax2 : c ≤ 9223372036854775807 := by omega
    have hsl := fun w => slice_from a n c k D hD w i2 hle hmax2
    have hwr : IntKind.i64.wrap ((k : Int) + 1) = (k : Int) + 1 := IntWalk.i64_in _ (by omega)
    clear hD i6c i8 hmax
    have cC : Hid (∀ V, V = ((w.alloc (.cells zMsg 42)).alloc (.cells #[.slice (some a) k c, .slice D (n - (k + 1)) (c - (k + 1))] 35)).drew → Calls Try.prog 64 #[.slice (some ⟨w.heap.size + 1, 0, none⟩) 2 2] V (OwnEndM (without b k) V)) := Lib.hid (fun V hV => by
      have hb : Below (w.alloc (.cells zMsg 42)).heap.size (w.alloc (.cells zMsg 42)) V := by rw [hV]; exact (new1 _ _).drew
      have ho : Own V (w.heap.size + 1) 35 #[.slice (some a) k c, .slice D (n - (k + 1)) (c - (k + 1))] := by rw [hV]; exact (own_new2 w _ _ _).below (new_drew _)
      exact concat_msg (w.heap.size + 1) _ _ _ _ _ _ _ _ V ho (T0.out.keep hb) (T1.out.keep hb) (by omega))
    have BV : Hid (Below (w.alloc (.cells zMsg 42)).heap.size (w.alloc (.cells zMsg 42)) ((w.alloc (.cells zMsg 42)).alloc (.cells #[.slice (some a) k c, .slice D (n - (k + 1)) (c - (k + 1))] 35)).drew) := Lib.hid (new1 _ _).drew
    have FC : Hid (∀ V, Below (w.alloc (.cells zMsg 42)).heap.size (w.alloc (.cells zMsg 42)) V → V.cell? (a.add (k * 3)) = some (.int .i64 x.frm) ∧ V.cell? ⟨(a.add (k * 3)).block, (a.add (k * 3)).off + 1, none⟩ = some (.int .i64 x.dst) ∧ V.cell? ⟨(a.add (k * 3)).block, (a.add (k * 3)).off + 2, none⟩ = some (.string x.body)) := Lib.hid (fun V hV => ⟨(hV.cell (p := a.add (k * 3)) (by rw [block_add]; exact hlt)).trans c0, (hV.cell (p := ⟨(a.add (k * 3)).block, (a.add (k * 3)).off + 1, none⟩) (by show (a.add (k * 3)).block < _; rw [block_add]; exact hlt)).trans c1, (hV.cell (p := ⟨(a.add (k * 3)).block, (a.add (k * 3)).off + 2, none⟩) (by show (a.add (k * 3)).block < _; rw [block_add]; exact hlt)).trans c2⟩)
    have FR : Hid (∀ (V : World) (A2 : Option Addr) (d2 : Nat), ownM V (((w.alloc (.cells zMsg 42)).alloc (.cells #[.slice (some a) k c, .slice D (n - (k + 1)) (c - (k + 1))] 35)).drew).heap.size A2 (without b k).length d2 (without b k) → ∀ p, A2 = some p → p.block ≠ w.heap.size) := Lib.hid (fun V A2 d2 ho p hp => by
      have := ownG_fresh ho p hp
      simp at this; omega)
    have FS : Hid (∀ (V : World) (A2 : Option Addr) (d2 : Nat), ownM V (((w.alloc (.cells zMsg 42)).alloc (.cells #[.slice (some a) k c, .slice D (n - (k + 1)) (c - (k + 1))] 35)).drew).heap.size A2 (without b k).length d2 (without b k) → ∀ p, A2 = some p → w.heap.size ≤ p.block) := Lib.hid (fun V A2 d2 ho p hp => by
      have := ownG_fresh ho p hp
      simp at this; omega)
    go_enter Try.func37, Try.ntmps37
    go_wp2_with fail
    refine (cH.out _).mono ?_; rintro e w' ⟨rfl, rfl⟩
    go_wp2
    go_region_held3 (fun w' => w'.cell? (a.add (k * 3)) = some (.int .i64 x.frm) ∧ w'.cell? ⟨(a.add (k * 3)).block, (a.add (k * 3)).off + 1, none⟩ = some (.int .i64 x.dst) ∧ w'.cell? ⟨(a.add (k * 3)).block, (a.add (k * 3)).off + 2, none⟩ = some (.string x.body)) (go_keep) (first
      | (go_at_call 64; (with_reducible refine (cC.out _ rfl).mono ?_); rintro e V1 ⟨A2, d2, rfl, hown, hb⟩; have O2 := Lib.hid (ownM_ms hown); have F2 := Lib.hid (FR.out _ _ _ hown); have F3 := Lib.hid (FS.out _ _ _ hown); have B2 := Lib.hid (then_ BV.out hb); have R2 := Lib.hid (O.out.below B2.out); clear hown hb c0 c1 c2; obtain ⟨c0, c1, c2⟩ := FC.out V1 B2.out; have f := R2.out.frozen; have r0 := R2.out.cell 0 _ rfl; have r1 := R2.out.cell 1 _ rfl; have r2 := R2.out.cell 2 _ rfl; have hV := R2.out.lt))
    go_wp2
    refine bodyPost_ret (v := .tuple #[x.agg, .slice A2 (without b k).length d2, .int .i64 0]) (by simp [results, Try.results37, go_sem, hV, r0, r1, r2]) rfl (MtF.mk rfl HT.out.1 HT.out.2 rfl ?_ ?_ (fun _ => F3.out))
    · exact ((O2.out.other _ _ _ F2.out).other _ _ _ F2.out).other _ _ _ F2.out
    · exact below_set3 (BN.out.trans (B2.out.mono BN.out.size)) (Nat.le_refl _) _ _ _
  | false =>
    obtain ⟨e0, e1, e2⟩ := tk_err hh
    have E0 := Lib.hid e0; have E1 := Lib.hid e1; have E2 := Lib.hid e2
    have q0 := O.out.cell 0 _ rfl
    have q1 := O.out.cell 1 _ rfl
    have q2 := O.out.cell 2 _ rfl
    have f := O.out.frozen
    rw [hh] at cH
    clear h hh HL e0 e1 e2
    go_enter Try.func37, Try.ntmps37
    go_wp2_with fail
    refine (cH.out _).mono ?_; rintro e w' ⟨rfl, rfl⟩
    go_wp2
    refine bodyPost_ret (v := .tuple #[zeroMsg.agg, .slice A n c, .int .i64 5]) (by simp [results, Try.results37, go_sem]) rfl (MtF.mk E1.out E0.out E2.out rfl ?_ ?_ (fun h => absurd h (by decide)))
    · exact H.out
    · exact BN.out
theorem take_any (A : Option Addr) (n c : Nat) (b : List Msg) (i : Int) (w : World) (h : Ms w A n c b) (hn : n ≤ 999) :
    Calls Try.prog 37 #[.slice A n c, .int .i64 i] w (MtEnd (tkM b i) (tkL b i) (tkE b i) w) :=
  (take_new A n c b i w h hn).mono fun e w' h => by
    obtain ⟨A, n, c, he, hs, hb, _⟩ := h
    exact ⟨A, n, c, he, hs, hb⟩
theorem taken_yes {b : List Msg} {i : Int} {n : Nat} (HL : b.length = n) (hh : hasM b i = true) : 0 ≤ i ∧ i < (n : Int) := by have := hasM_iff.1 hh; rw [HL] at this; exact this
theorem taken_no {b : List Msg} {i : Int} {n : Nat} (HL : b.length = n) (hh : hasM b i = false) : i < 0 ∨ (n : Int) ≤ i := by
  unfold hasM at hh; rw [decide_eq_false_iff_not, HL] at hh; omega
theorem take_ref (A : Option Addr) (n c : Nat) (b : List Msg) (i : Int) (w : World) (h : Ms w A n c b) (hn : n ≤ 999) :
    Calls Try.prog 38 #[.slice A n c, .int .i64 i] w (MtEnd (tkM b i) (tkL b i) (tkE b i) w) := by
  have HL := h.len
  have hle := h.row.le
  have hmax := h.row.max
  unfold maxLen at hmax
  have O := Lib.hid (own_new w zMsg 42)
  have BN := Lib.hid (new1 w (.cells zMsg 42))
  have H := Lib.hid (h.keep BN.out)
  cases hh : hasM b i with
  | true =>
    obtain ⟨i0, i1⟩ := taken_yes HL hh
    obtain ⟨k, rfl⟩ : ∃ k : Nat, i = (k : Int) := ⟨i.toNat, by omega⟩
    have HT := Lib.hid (tk_ok hh)
    have hat := has_at hh
    rw [Int.toNat_natCast] at HT hat
    obtain ⟨a, x0, rfl, hb0, _, _⟩ := h.at_ (k := k) (by omega)
    obtain ⟨t0, t1⟩ := parts H.out (k := k) (by omega)
    have B1 := Lib.hid (then_ BN.out (new1 (w.alloc (.cells zMsg 42)) (.cells #[] 42)))
    have i2 : k < n := by omega
    have i3 : k ≤ c := by omega
    have i5 : (k : Int) ≤ (c : Int) := by omega
    have ni0 : ¬ ((k : Int) < 0) := by omega
    have ni1 : ¬ ((n : Int) ≤ (k : Int)) := by omega
    have hmax2 : c ≤ 9223372036854775807 := by omega
    obtain ⟨D, hD⟩ : ∃ D, (if c = k + 1 then some a else some (a.add ((k + 1) * 3))) = D := ⟨_, rfl⟩
    rw [hD] at t1
    have hsl := fun w => slice_from a n c k D hD w i2 hle hmax2
    have hwr : IntKind.i64.wrap ((k : Int) + 1) = (k : Int) + 1 := IntWalk.i64_in _ (by omega)
    obtain ⟨B3, d3, w3, hr1, o3, b3⟩ := app_msgs (w.alloc (.cells zMsg 42)).heap.size _ 0 0 [] ((w.alloc (.cells zMsg 42)).alloc (.cells #[] 42)) (empty_own _) (some a) k c (b.take k) (t0.keep (new1 _ _)) (by omega) (by simp)
    rw [Nat.zero_add] at hr1 o3
    rw [List.nil_append] at o3
    rw [show (w.alloc (.cells zMsg 42)).heap.size = w.heap.size + 1 by simp] at hr1
    have HB3 : Hid (Below (w.alloc (.cells zMsg 42)).heap.size (w.alloc (.cells zMsg 42)) w3) := Lib.hid ((new1 _ _).trans b3)
    have HB3d : Hid (Below (w.alloc (.cells zMsg 42)).heap.size (w.alloc (.cells zMsg 42)) w3.drew) := Lib.hid HB3.out.drew
    obtain ⟨B4, d4, w4, hr2, o4, b4⟩ := app_msgs (w.alloc (.cells zMsg 42)).heap.size B3 k d3 (b.take k) w3.drew (ownG_keep o3 (new_drew _)) D (n - (k + 1)) (c - (k + 1)) (b.drop (k + 1)) (t1.keep HB3d.out) (by omega) HB3d.out.size
    have HB4 := Lib.hid (HB3d.out.trans b4)
    obtain ⟨a', x, ea, hbl, hx, hc⟩ := (H.out.keep HB3.out).at_ (k := k) (by omega)
    obtain rfl := Option.some.inj ea
    obtain ⟨c0, c1, c2⟩ := hc
    obtain ⟨a', x', ea, hbl', hx', hc⟩ := (H.out.keep HB4.out).at_ (k := k) (by omega)
    obtain rfl := Option.some.inj ea
    obtain rfl : x' = x := Option.some.inj (hx'.symm.trans hx)
    obtain ⟨e0, e1, e2⟩ := hc
    obtain rfl : x' = tkM b k := Option.some.inj (hx.symm.trans hat)
    have d0 : w3.drew.cell? (a.add (k * 3)) = some (.int .i64 (tkM b k).frm) := c0
    have dd1 : w3.drew.cell? ⟨(a.add (k * 3)).block, (a.add (k * 3)).off + 1, none⟩ = some (.int .i64 (tkM b k).dst) := c1
    have dd2 : w3.drew.cell? ⟨(a.add (k * 3)).block, (a.add (k * 3)).off + 2, none⟩ = some (.string (tkM b k).body) := c2
    have R4 := Lib.hid (O.out.below HB4.out)
    have f := R4.out.frozen
    have r0 := R4.out.cell 0 _ rfl
    have r1 := R4.out.cell 1 _ rfl
    have r2 := R4.out.cell 2 _ rfl
    have hV := R4.out.lt
    have F4 : Hid (∀ p, B4 = some p → p.block ≠ w.heap.size) := Lib.hid (fun p hp => by have := ownG_fresh o4 p hp; simp at this; omega)
    have O4 : Hid (Ms w4 B4 (k + (n - (k + 1))) d4 (without b k)) := Lib.hid (ownM_ms o4)
    have hne : w.heap.size ≠ (a.add (k * 3)).block := by rw [block_add]; omega
    have hne2 : w.heap.size ≠ a.block := by omega
    clear h hx hat hh HL hD hmax t0 t1 o3 o4 b3 b4 hx' hbl hbl'
    generalize tkM b k = x at *
    go_enter Try.func38, Try.ntmps38
    go_wp2_with (at_builtin; refine wpList_append_eq _ rfl (.tmp 18) (.tmp 21) _ _ rfl _ _ rfl rfl hr1 ?_)
    go_region_law (refine step_app rfl (.tmp 27) (.tmp 31) 35 35 rfl (.slice B3 k d3) (.slice D (n - (k + 1)) (c - (k + 1))) (by simp [Act.eval, Act.put]) (by simp [Act.eval, Act.put]) hr2 ?_)
    all_goals go_wp2
    all_goals refine bodyPost_ret (v := .tuple #[x.agg, .slice B4 (k + (n - (k + 1))) d4, .int .i64 0]) (by simp [results, Try.results38, go_sem, hV, r0, r1, r2]) rfl (MtEnd.mk rfl HT.out.1 HT.out.2 rfl ?_ ?_)
    all_goals first
      | exact ((O4.out.other _ _ _ F4.out).other _ _ _ F4.out).other _ _ _ F4.out
      | exact below_set3 (BN.out.trans (HB4.out.mono BN.out.size)) (Nat.le_refl _) _ _ _
  | false =>
    obtain ⟨e0, e1, e2⟩ := tk_err hh
    have E0 := Lib.hid e0; have E1 := Lib.hid e1; have E2 := Lib.hid e2
    have q0 := O.out.cell 0 _ rfl
    have q1 := O.out.cell 1 _ rfl
    have q2 := O.out.cell 2 _ rfl
    have f := O.out.frozen
    have hno := taken_no HL hh
    clear h hh HL e0 e1 e2
    by_cases hi : i < 0
    · clear hno
      go_enter Try.func38, Try.ntmps38
      go_wp2
      refine bodyPost_ret (v := .tuple #[zeroMsg.agg, .slice A n c, .int .i64 5]) (by simp [results, Try.results38, go_sem]) rfl (MtEnd.mk E1.out E0.out E2.out rfl H.out BN.out)
    · have hi2 : (n : Int) ≤ i := by omega
      clear hno
      go_enter Try.func38, Try.ntmps38
      go_wp2
      refine bodyPost_ret (v := .tuple #[zeroMsg.agg, .slice A n c, .int .i64 5]) (by simp [results, Try.results38, go_sem]) rfl (MtEnd.mk E1.out E0.out E2.out rfl H.out BN.out)
theorem copy_ref (A : Option Addr) (n c : Nat) (b : List Msg) (i : Int) (w : World) (h : Ms w A n c b) (hn : n ≤ 999) :
    Calls Try.prog 40 #[.slice A n c, .int .i64 i] w (MsEnd (cpL b i) (cpE b i) w) := by
  have HL := h.len
  have hle := h.row.le
  have H := Lib.hid h
  cases hh : hasM b i with
  | true =>
    obtain ⟨i0, i1⟩ := taken_yes HL hh
    obtain ⟨k, rfl⟩ : ∃ k : Nat, i = (k : Int) := ⟨i.toNat, by omega⟩
    have hat := has_at hh
    rw [Int.toNat_natCast] at hat
    have ni0 : ¬ ((k : Int) < 0) := by omega
    have ni1 : ¬ ((n : Int) ≤ (k : Int)) := by omega
    obtain ⟨e1, e2⟩ := cp_parts HL hh
    by_cases hs : n + 1 ≤ 16
    · rw [if_pos hs] at e1 e2
      have E1 := Lib.hid e1; have E2 := Lib.hid e2
      have hs' : ¬ (16 ≤ (n : Int)) := by omega
      have B1 := Lib.hid (new1 w (.cells #[] 42))
      obtain ⟨B3, d3, w3, hr1, o3, b3⟩ := app_msgs w.heap.size _ 0 0 [] (w.alloc (.cells #[] 42)) (empty_own w) A n c b (h.keep (new1 _ _)) (by omega) (by simp)
      rw [Nat.zero_add] at hr1 o3
      rw [List.nil_append] at o3
      have HB3 : Hid (Below w.heap.size w w3) := Lib.hid (B1.out.trans b3)
      obtain ⟨a, x, rfl, hbl, hx, hc⟩ := (H.out.keep HB3.out).at_ (k := k) (by omega)
      obtain ⟨c0, c1, c2⟩ := hc
      obtain rfl : x = tkM b k := Option.some.inj (hx.symm.trans hat)
      have HB3x : Hid (Below w.heap.size w (w3.alloc ((tkM b k).obj 42))) := Lib.hid (HB3.out.alloc HB3.out.size _)
      obtain ⟨B4, d4, w4, hr2, o4, b4⟩ := app_msgs w.heap.size B3 n d3 b (w3.alloc ((tkM b k).obj 42)) (ownG_keep o3 (new1 _ _)) (some ⟨w3.heap.size, 0, none⟩) 1 1 [tkM b k] ⟨rows_new msg_len (e := 42) w3 (tkM b k) _ rfl⟩ (by omega) HB3x.out.size
      have HB4 := Lib.hid (HB3x.out.trans b4)
      have O4 := Lib.hid (ownM_ms o4)
      clear h hx hat hh HL o3 o4 b3 b4 hbl e1 e2
      generalize tkM b k = x at *
      go_enter Try.func40, Try.ntmps40
      go_wp2_with (at_builtin; first | (refine wpList_append_eq _ rfl (.tmp 20) (.tmp 21) _ _ rfl _ _ rfl rfl hr1 ?_) | (refine wpList_append_eq _ rfl (.tmp 23) (.tmp 28) _ _ rfl _ _ rfl rfl hr2 ?_))
      refine bodyPost_ret (v := .tuple #[.slice B4 (n + 1) d4, .int .i64 0]) (by simp [results, Try.results40, go_sem]) rfl (MsEnd.mk E2.out E1.out rfl O4.out HB4.out)
    · rw [if_neg hs] at e1 e2
      have E1 := Lib.hid e1; have E2 := Lib.hid e2
      have hs' : (16 ≤ (n : Int)) := by omega
      clear h hat hh HL e1 e2
      go_enter Try.func40, Try.ntmps40
      go_wp2
      refine bodyPost_ret (v := .tuple #[.slice A n c, .int .i64 4]) (by simp [results, Try.results40, go_sem]) rfl (MsEnd.mk E2.out E1.out rfl H.out (Below.refl _ _))
  | false =>
    have HE : Hid (cpE b i = 5) := Lib.hid (by unfold cpE; rw [hh]; rfl)
    have HP : Hid (cpL b i = b) := Lib.hid (cp_err (by rw [HE.out]; decide))
    have hno := taken_no HL hh
    clear h hh HL
    by_cases hi : i < 0
    · clear hno
      go_enter Try.func40, Try.ntmps40
      go_wp2
      refine bodyPost_ret (v := .tuple #[.slice A n c, .int .i64 5]) (by simp [results, Try.results40, go_sem]) rfl (MsEnd.mk HP.out HE.out rfl H.out (Below.refl _ _))
    · have hi2 : (n : Int) ≤ i := by omega
      clear hno
      go_enter Try.func40, Try.ntmps40
      go_wp2
      refine bodyPost_ret (v := .tuple #[.slice A n c, .int .i64 5]) (by simp [results, Try.results40, go_sem]) rfl (MsEnd.mk HP.out HE.out rfl H.out (Below.refl _ _))
end Go.Proofs.Ytdmhpnobdflkfaa.P
