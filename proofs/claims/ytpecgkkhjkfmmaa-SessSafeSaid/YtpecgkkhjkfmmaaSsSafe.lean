/- Layer 14: a session, its lease and two strict clocks, plain: what holds in each step. -/
import Derived.Test.YtpecgkkhjkfmmaaSsUse
import Derived.Test.YtpecgkkhjkfmmaaLsStop
import Derived.Test.YtpecgkkhjkfmmaaLsDue
import Derived.Test.YtpecgkkhjkfmmaaPairs
namespace Go.Proofs.Ytpecgkkhjkfmmaa.P
open Go.RowKit Go.Sort
set_option linter.unusedVariables false
set_option linter.unusedSimpArgs false

structure S14 where
  m : Int
  t : Int
  sent : Int
  don : Bool
  le : Option Int
  s : Se
  f : Int
  k : Int
  lz : Int
def LL (ttl : Int) : Option Int → Ls
  | none => ⟨1, []⟩
  | some u => ⟨1, [⟨1, ttl, u⟩]⟩
def RR (z : S14) : Rp := ⟨z.f, 0, 0, 0, z.lz, z.k, false, [], []⟩
structure Inv (ttl top : Int) (z : S14) : Prop where
  m0 : 0 ≤ z.m
  m1 : z.m ≤ top
  t0 : 0 ≤ z.t
  t1 : z.t ≤ top
  sent : z.sent = -1 ∨ (0 ≤ z.sent ∧ z.sent ≤ z.m)
  don : z.don = true → 0 ≤ z.sent
  til : ∀ u, z.le = some u → 0 ≤ u ∧ u ≤ top + 1000
  ses : z.s = zSe ∨ (z.s.lease = 1 ∧ z.s.ttl = ttl)
  ali : ∀ u, z.le = some u → z.s.lease = 1 → 15 * (z.t - u + ttl) ≤ 17 * (z.m - z.s.til + safeP ttl)
  pen : ∀ u, z.le = some u → z.don = true → z.f = 0 ∧ 15 * (z.t - u + ttl) ≤ 17 * (z.m - z.sent)
  rep : z.don = true → z.lz = 1 ∧ (z.f = 0 ∨ z.f = 6)
  fin : inI z.f ∧ inI z.k ∧ inI z.lz
theorem safe_le (ttl : Int) (h : 1 ≤ ttl) : 17 * safeP ttl ≤ 15 * ttl := by unfold safeP; split <;> omega
theorem Inv.alive {ttl top : Int} {z : S14} (h : Inv ttl top z) (ht : 1 ≤ ttl) {u : Int} (hu : z.le = some u) (hd : u ≤ z.t) : aliveB z.s z.m = false := by
  cases ha : aliveB z.s z.m with
  | false => rfl
  | true =>
    unfold aliveB at ha
    rw [Bool.and_eq_true, decide_eq_true_eq, decide_eq_true_eq] at ha
    obtain ⟨hl, hm⟩ := ha
    rcases h.ses with e | ⟨e1, e2⟩
    · rw [e] at hl; exact absurd rfl hl
    · have h1 := h.ali u hu e1
      have h2 := safe_le ttl ht
      omega
theorem Inv.up {ttl top top' : Int} {z : S14} (h : Inv ttl top z) (hle : top ≤ top') : Inv ttl top' z :=
  ⟨h.m0, by have := h.m1; omega, h.t0, by have := h.t1; omega, h.sent, h.don, fun u hu => by have := h.til u hu; omega, h.ses, h.ali, h.pen, h.rep, h.fin⟩
def tick14 (z : S14) (a b : Int) : S14 := { z with m := z.m + rateP a true, t := z.t + rateP b true }
theorem Inv.tick {ttl top : Int} {z : S14} (h : Inv ttl top z) (a b : Int) : Inv ttl (top + 17) (tick14 z a b) := by
  have ra := rate_strict a
  have rb := rate_strict b
  have h1 := h.m0; have h2 := h.m1; have h3 := h.t0; have h4 := h.t1
  refine ⟨?_, ?_, ?_, ?_, ?_, h.don, ?_, h.ses, ?_, ?_, h.rep, h.fin⟩
  · show 0 ≤ z.m + rateP a true; omega
  · show z.m + rateP a true ≤ _; omega
  · show 0 ≤ z.t + rateP b true; omega
  · show z.t + rateP b true ≤ _; omega
  · show z.sent = -1 ∨ (0 ≤ z.sent ∧ z.sent ≤ z.m + rateP a true)
    rcases h.sent with e | e
    · exact .inl e
    · exact .inr (by omega)
  · intro u hu; have := h.til u hu; omega
  · intro u hu hl
    have := h.ali u hu hl
    show 15 * (z.t + rateP b true - u + ttl) ≤ 17 * (z.m + rateP a true - z.s.til + safeP ttl)
    omega
  · intro u hu hd
    obtain ⟨e, k⟩ := h.pen u hu hd
    refine ⟨e, ?_⟩
    show 15 * (z.t + rateP b true - u + ttl) ≤ 17 * (z.m + rateP a true - z.sent)
    omega
def ask14 (z : S14) : S14 := { z with sent := z.m, don := false }
theorem Inv.ask {ttl top : Int} {z : S14} (h : Inv ttl top z) : Inv ttl top (ask14 z) :=
  ⟨h.m0, h.m1, h.t0, h.t1, .inr ⟨h.m0, Int.le_refl _⟩, fun e => (by cases e), h.til, h.ses, h.ali, fun u _ e => (by cases e), fun e => (by cases e), h.fin⟩
def lost14 (z : S14) : S14 := { z with sent := -1, don := false }
theorem Inv.lost {ttl top : Int} {z : S14} (h : Inv ttl top z) : Inv ttl top (lost14 z) :=
  ⟨h.m0, h.m1, h.t0, h.t1, .inl rfl, fun e => (by cases e), h.til, h.ses, h.ali, fun u _ e => (by cases e), fun e => (by cases e), h.fin⟩
def drop14 (z : S14) : S14 := { z with le := none }
theorem Inv.drop {ttl top : Int} {z : S14} (h : Inv ttl top z) : Inv ttl top (drop14 z) :=
  ⟨h.m0, h.m1, h.t0, h.t1, h.sent, h.don, fun u e => (by cases e), h.ses, fun u e => (by cases e), fun u e => (by cases e), h.rep, h.fin⟩
def late14 (ttl : Int) (z : S14) (u : Int) : Int := if u < z.t + ttl then z.t + ttl else u
def doneS (ttl : Int) (z : S14) (u : Int) : S14 := { z with le := some (late14 ttl z u), f := 0, k := ttl, lz := 1, don := true }
def doneN (z : S14) : S14 := { z with f := 6, k := 0, lz := 1, don := true }
theorem one_inI : inI 1 := ⟨by decide, by decide⟩
theorem six_inI : inI 6 := ⟨by decide, by decide⟩
theorem Inv.doneN {ttl top : Int} {z : S14} (h : Inv ttl top z) (hs : 0 ≤ z.sent) (hle : z.le = none) : Inv ttl top (doneN z) := by
  have no : ∀ u, z.le = some u → False := fun u e => by rw [hle] at e; cases e
  exact ⟨h.m0, h.m1, h.t0, h.t1, h.sent, fun _ => hs, h.til, h.ses, h.ali, fun u e => (no u e).elim, fun _ => ⟨rfl, .inr rfl⟩, six_inI, zero_inI, one_inI⟩
theorem Inv.doneS {ttl top : Int} {z : S14} (h : Inv ttl top z) (ht : 1 ≤ ttl) (ht1 : ttl ≤ 1000) (hs : 0 ≤ z.sent) {u : Int} (hle : z.le = some u) : Inv ttl top (doneS ttl z u) := by
  have hsm : 0 ≤ z.sent ∧ z.sent ≤ z.m := by
    rcases h.sent with e | e
    · omega
    · exact e
  have h4 := h.t1; have h3 := h.t0
  have hu := h.til u hle
  have hl : u ≤ late14 ttl z u ∧ z.t + ttl ≤ late14 ttl z u ∧ late14 ttl z u ≤ top + 1000 := by unfold late14; split <;> omega
  have ex : ∀ v, (P.doneS ttl z u).le = some v → v = late14 ttl z u := fun v e => (Option.some.inj (show some (late14 ttl z u) = some v from e)).symm
  refine ⟨h.m0, h.m1, h.t0, h.t1, h.sent, fun _ => hs, fun v e => ?_, h.ses, fun v e hz => ?_, fun v e _ => ⟨rfl, ?_⟩, fun _ => ⟨rfl, .inl rfl⟩, zero_inI, ⟨by show -9223372036854775808 ≤ ttl; omega, by show ttl ≤ _; omega⟩, one_inI⟩
  · rw [ex v e]; omega
  · rw [ex v e]
    have := h.ali u hle hz
    show 15 * (z.t - late14 ttl z u + ttl) ≤ 17 * (z.m - z.s.til + safeP ttl)
    omega
  · rw [ex v e]
    show 15 * (z.t - late14 ttl z u + ttl) ≤ 17 * (z.m - z.sent)
    omega
def told14 (z : S14) : S14 := { z with s := keptS z.s z.sent (RR z), sent := -1, don := false }
theorem Inv.told {ttl top : Int} {z : S14} (h : Inv ttl top z) (hd : z.don = true) : Inv ttl top (told14 z) := by
  have hr := h.rep hd
  have key : keptS z.s z.sent (RR z) = zSe ∨ keptS z.s z.sent (RR z) = z.s ∨ (z.f = 0 ∧ z.s.lease = 1 ∧ keptS z.s z.sent (RR z) = keptMore z.s z.sent) := by
    unfold keptS
    by_cases h6 : (RR z).code = 6
    · rw [if_pos h6]; exact .inl rfl
    · rw [if_neg h6]
      by_cases hk : keptB z.s z.sent (RR z) = true
      · rw [if_pos hk]
        unfold keptB at hk
        rw [Bool.and_eq_true, decide_eq_true_eq] at hk
        obtain ⟨⟨k1, k2⟩, k3⟩ := hk
        refine .inr (.inr ⟨k1, ?_, rfl⟩)
        rw [← k2]; exact hr.1
      · rw [if_neg hk]; exact .inr (.inl rfl)
  refine ⟨h.m0, h.m1, h.t0, h.t1, .inl rfl, fun e => (by cases e), h.til, ?_, ?_, fun u _ e => (by cases e), fun e => (by cases e), h.fin⟩
  · rcases key with e | e | ⟨_, k, e⟩
    · exact .inl e
    · show keptS z.s z.sent (RR z) = zSe ∨ _; rw [e]
      rcases h.ses with e2 | e2
      · exact .inl e2
      · exact .inr (by show (keptS z.s z.sent (RR z)).lease = 1 ∧ (keptS z.s z.sent (RR z)).ttl = ttl; rw [e]; exact e2)
    · refine .inr ?_
      show (keptS z.s z.sent (RR z)).lease = 1 ∧ (keptS z.s z.sent (RR z)).ttl = ttl
      rw [e]
      rcases h.ses with e2 | e2
      · rw [e2] at k; exact absurd k (by decide)
      · exact e2
  · intro u hu hl
    show 15 * (z.t - u + ttl) ≤ 17 * (z.m - (keptS z.s z.sent (RR z)).til + safeP ttl)
    have hl' : (keptS z.s z.sent (RR z)).lease = 1 := hl
    rcases key with e | e | ⟨_, k, e⟩
    · rw [e] at hl'; exact absurd hl' (by decide)
    · rw [e] at hl' ⊢; exact h.ali u hu hl'
    · rw [e]
      have ht : z.s.ttl = ttl := by
        rcases h.ses with e2 | e2
        · rw [e2] at k; exact absurd k (by decide)
        · exact e2.2
      have h1 := h.ali u hu k
      have h2 := (h.pen u hu hd).2
      show 15 * (z.t - u + ttl) ≤ 17 * (z.m - maxP z.s.til (z.sent + safeP z.s.ttl) + safeP ttl)
      rw [ht]
      unfold maxP
      split <;> omega
def first14 (m t ttl : Int) : S14 := ⟨m, t, -1, false, some (t + ttl), beginS m ⟨0, 0, 0, 0, 1, ttl, false, [], []⟩, 0, 0, 0⟩
theorem Inv.first (m t ttl : Int) (h0 : 0 ≤ m) (h1 : m ≤ 274877906944) (h2 : 0 ≤ t) (h3 : t ≤ 274877906944) (ht : 1 ≤ ttl) (ht1 : ttl ≤ 1000) : Inv ttl 274877906944 (first14 m t ttl) := by
  refine ⟨h0, h1, h2, h3, .inl rfl, fun e => (by cases e), fun u e => ?_, ?_, fun u e hl => ?_, fun u _ e => (by cases e), fun e => (by cases e), zero_inI, zero_inI, zero_inI⟩
  · injection e with e; omega
  · show beginS m ⟨0, 0, 0, 0, 1, ttl, false, [], []⟩ = zSe ∨ _
    cases hb : beginB m ⟨0, 0, 0, 0, 1, ttl, false, [], []⟩ with
    | false => exact .inl (begin_no hb)
    | true => exact .inr (by show (beginS m ⟨0, 0, 0, 0, 1, ttl, false, [], []⟩).lease = 1 ∧ (beginS m ⟨0, 0, 0, 0, 1, ttl, false, [], []⟩).ttl = ttl; rw [begin_yes hb]; exact ⟨rfl, rfl⟩)
  · injection e with e; subst e
    show 15 * (t - (t + ttl) + ttl) ≤ 17 * (m - (beginS m ⟨0, 0, 0, 0, 1, ttl, false, [], []⟩).til + safeP ttl)
    have hl' : (beginS m ⟨0, 0, 0, 0, 1, ttl, false, [], []⟩).lease = 1 := hl
    cases hb : beginB m ⟨0, 0, 0, 0, 1, ttl, false, [], []⟩ with
    | false => rw [begin_no hb] at hl'; exact absurd hl' (by decide)
    | true =>
      rw [begin_yes hb]
      show 15 * (t - (t + ttl) + ttl) ≤ 17 * (m - (m + safeP ttl) + safeP ttl)
      omega
/-- The leases lie away from the boxes. -/
structure LsFar (ttl : Int) (le : Option Int) (A : Option Addr) (n c gL gS gR : Nat) (w : World) : Prop where
  at_ : LsAt w (LL ttl le) A n c
  far : ∀ u, le = some u → ∀ a, A = some a → a.block ≠ gL ∧ a.block ≠ gS ∧ a.block ≠ gR
/-- A list of none lies anywhere. -/
theorem ls_nil {ttl : Int} {A : Option Addr} {n c : Nat} {w w' : World} (h : LsAt w (LL ttl none) A n c) : LsAt w' (LL ttl none) A n c := by
  have hn : n = 0 := h.row.row.len.symm
  subst hn
  exact ⟨⟨⟨rfl, h.row.row.le, h.row.row.max, fun hh => absurd hh (by omega), h.row.row.nil⟩, h.row.ok⟩, h.next⟩
theorem LsFar.keep {ttl : Int} {le : Option Int} {A : Option Addr} {n c gL gS gR : Nat} {w w' : World} (h : LsFar ttl le A n c gL gS gR w) (hb : Below w.heap.size w w') : LsFar ttl le A n c gL gS gR w' := ⟨h.at_.keep hb, h.far⟩
theorem LsFar.set {ttl : Int} {le : Option Int} {A : Option Addr} {n c gL gS gR : Nat} {w : World} (h : LsFar ttl le A n c gL gS gR w) (b i : Nat) (v : Value) (hb : b = gL ∨ b = gS ∨ b = gR) : LsFar ttl le A n c gL gS gR (w.setCell ⟨b, i, none⟩ v) := by
  refine ⟨?_, h.far⟩
  cases le with
  | none => exact ls_nil h.at_
  | some u => exact ⟨h.at_.row.other b i v (fun a ha => by
      obtain ⟨h1, h2, h3⟩ := h.far u rfl a ha
      rcases hb with rfl | rfl | rfl <;> assumption), h.at_.next⟩
abbrev st2 (w : World) (g : Nat) (v0 v1 : Value) : World := (w.setCell ⟨g, 0, none⟩ v0).setCell ⟨g, 1, none⟩ v1
abbrev st4 (w : World) (g : Nat) (v0 v1 v2 v3 : Value) : World := ((st2 w g v0 v1).setCell ⟨g, 2, none⟩ v2).setCell ⟨g, 3, none⟩ v3
abbrev st9 (w : World) (g : Nat) (v0 v1 v2 v3 v4 v5 v6 v7 v8 : Value) : World := (((((st4 w g v0 v1 v2 v3).setCell ⟨g, 4, none⟩ v4).setCell ⟨g, 5, none⟩ v5).setCell ⟨g, 6, none⟩ v6).setCell ⟨g, 7, none⟩ v7).setCell ⟨g, 8, none⟩ v8
theorem LsFar.s2 {ttl : Int} {le : Option Int} {A : Option Addr} {n c gL gS gR : Nat} {w : World} (h : LsFar ttl le A n c gL gS gR w) (b : Nat) (v0 v1 : Value) (hb : b = gL ∨ b = gS ∨ b = gR) : LsFar ttl le A n c gL gS gR (st2 w b v0 v1) := (h.set b _ _ hb).set b _ _ hb
theorem LsFar.s4 {ttl : Int} {le : Option Int} {A : Option Addr} {n c gL gS gR : Nat} {w : World} (h : LsFar ttl le A n c gL gS gR w) (b : Nat) (v0 v1 v2 v3 : Value) (hb : b = gL ∨ b = gS ∨ b = gR) : LsFar ttl le A n c gL gS gR (st4 w b v0 v1 v2 v3) := ((h.s2 b _ _ hb).set b _ _ hb).set b _ _ hb
theorem LsFar.s9 {ttl : Int} {le : Option Int} {A : Option Addr} {n c gL gS gR : Nat} {w : World} (h : LsFar ttl le A n c gL gS gR w) (b : Nat) (v0 v1 v2 v3 v4 v5 v6 v7 v8 : Value) (hb : b = gL ∨ b = gS ∨ b = gR) : LsFar ttl le A n c gL gS gR (st9 w b v0 v1 v2 v3 v4 v5 v6 v7 v8) := (((((h.s4 b _ _ _ _ hb).set b _ _ hb).set b _ _ hb).set b _ _ hb).set b _ _ hb).set b _ _ hb
theorem Own.s2 {w : World} {g : Nat} {t : TypeId} {u0 u1 : Value} (h : Own w g t #[u0, u1]) (v0 v1 : Value) : Own (st2 w g v0 v1) g t #[v0, v1] := (h.set 0 v0).set 1 v1
theorem Own.s4 {w : World} {g : Nat} {t : TypeId} {u0 u1 u2 u3 : Value} (h : Own w g t #[u0, u1, u2, u3]) (v0 v1 v2 v3 : Value) : Own (st4 w g v0 v1 v2 v3) g t #[v0, v1, v2, v3] := (((h.set 0 v0).set 1 v1).set 2 v2).set 3 v3
theorem Own.s9 {w : World} {g : Nat} {t : TypeId} {u0 u1 u2 u3 u4 u5 u6 u7 u8 : Value} (h : Own w g t #[u0, u1, u2, u3, u4, u5, u6, u7, u8]) (v0 v1 v2 v3 v4 v5 v6 v7 v8 : Value) : Own (st9 w g v0 v1 v2 v3 v4 v5 v6 v7 v8) g t #[v0, v1, v2, v3, v4, v5, v6, v7, v8] := by
  have h0 : Own (w.setCell ⟨g, 0, none⟩ v0) g t #[v0, u1, u2, u3, u4, u5, u6, u7, u8] := h.set 0 v0
  have h1 : Own ((w.setCell ⟨g, 0, none⟩ v0).setCell ⟨g, 1, none⟩ v1) g t #[v0, v1, u2, u3, u4, u5, u6, u7, u8] := h0.set 1 v1
  have h2 : Own (((w.setCell ⟨g, 0, none⟩ v0).setCell ⟨g, 1, none⟩ v1).setCell ⟨g, 2, none⟩ v2) g t #[v0, v1, v2, u3, u4, u5, u6, u7, u8] := h1.set 2 v2
  have h3 : Own ((((w.setCell ⟨g, 0, none⟩ v0).setCell ⟨g, 1, none⟩ v1).setCell ⟨g, 2, none⟩ v2).setCell ⟨g, 3, none⟩ v3) g t #[v0, v1, v2, v3, u4, u5, u6, u7, u8] := h2.set 3 v3
  have h4 : Own (((((w.setCell ⟨g, 0, none⟩ v0).setCell ⟨g, 1, none⟩ v1).setCell ⟨g, 2, none⟩ v2).setCell ⟨g, 3, none⟩ v3).setCell ⟨g, 4, none⟩ v4) g t #[v0, v1, v2, v3, v4, u5, u6, u7, u8] := h3.set 4 v4
  have h5 : Own ((((((w.setCell ⟨g, 0, none⟩ v0).setCell ⟨g, 1, none⟩ v1).setCell ⟨g, 2, none⟩ v2).setCell ⟨g, 3, none⟩ v3).setCell ⟨g, 4, none⟩ v4).setCell ⟨g, 5, none⟩ v5) g t #[v0, v1, v2, v3, v4, v5, u6, u7, u8] := h4.set 5 v5
  have h6 : Own (((((((w.setCell ⟨g, 0, none⟩ v0).setCell ⟨g, 1, none⟩ v1).setCell ⟨g, 2, none⟩ v2).setCell ⟨g, 3, none⟩ v3).setCell ⟨g, 4, none⟩ v4).setCell ⟨g, 5, none⟩ v5).setCell ⟨g, 6, none⟩ v6) g t #[v0, v1, v2, v3, v4, v5, v6, u7, u8] := h5.set 6 v6
  have h7 : Own ((((((((w.setCell ⟨g, 0, none⟩ v0).setCell ⟨g, 1, none⟩ v1).setCell ⟨g, 2, none⟩ v2).setCell ⟨g, 3, none⟩ v3).setCell ⟨g, 4, none⟩ v4).setCell ⟨g, 5, none⟩ v5).setCell ⟨g, 6, none⟩ v6).setCell ⟨g, 7, none⟩ v7) g t #[v0, v1, v2, v3, v4, v5, v6, v7, u8] := h6.set 7 v7
  have h8 : Own (((((((((w.setCell ⟨g, 0, none⟩ v0).setCell ⟨g, 1, none⟩ v1).setCell ⟨g, 2, none⟩ v2).setCell ⟨g, 3, none⟩ v3).setCell ⟨g, 4, none⟩ v4).setCell ⟨g, 5, none⟩ v5).setCell ⟨g, 6, none⟩ v6).setCell ⟨g, 7, none⟩ v7).setCell ⟨g, 8, none⟩ v8) g t #[v0, v1, v2, v3, v4, v5, v6, v7, v8] := h7.set 8 v8
  exact h8
theorem Own.o2 {w : World} {g : Nat} {t : TypeId} {cs : Array Value} (h : Own w g t cs) (b : Nat) (hb : g ≠ b) (v0 v1 : Value) : Own (st2 w b v0 v1) g t cs := (h.other b _ _ hb).other b _ _ hb
theorem Own.o4 {w : World} {g : Nat} {t : TypeId} {cs : Array Value} (h : Own w g t cs) (b : Nat) (hb : g ≠ b) (v0 v1 v2 v3 : Value) : Own (st4 w b v0 v1 v2 v3) g t cs := ((h.o2 b hb _ _).other b _ _ hb).other b _ _ hb
theorem Own.o9 {w : World} {g : Nat} {t : TypeId} {cs : Array Value} (h : Own w g t cs) (b : Nat) (hb : g ≠ b) (v0 v1 v2 v3 v4 v5 v6 v7 v8 : Value) : Own (st9 w b v0 v1 v2 v3 v4 v5 v6 v7 v8) g t cs := (((((h.o4 b hb _ _ _ _).other b _ _ hb).other b _ _ hb).other b _ _ hb).other b _ _ hb).other b _ _ hb
theorem below_s2 {B g : Nat} {w w2 : World} (h : Below B w w2) (hg : B ≤ g) (v0 v1 : Value) : Below B w (st2 w2 g v0 v1) := (h.setCell hg _).setCell hg _
theorem below_s4 {B g : Nat} {w w2 : World} (h : Below B w w2) (hg : B ≤ g) (v0 v1 v2 v3 : Value) : Below B w (st4 w2 g v0 v1 v2 v3) := ((below_s2 h hg _ _).setCell hg _).setCell hg _
theorem below_s9 {B g : Nat} {w w2 : World} (h : Below B w w2) (hg : B ≤ g) (v0 v1 v2 v3 v4 v5 v6 v7 v8 : Value) : Below B w (st9 w2 g v0 v1 v2 v3 v4 v5 v6 v7 v8) := (((((below_s4 h hg _ _ _ _).setCell hg _).setCell hg _).setCell hg _).setCell hg _).setCell hg _
/-- Where the state lies. -/
structure Mem14 (ttl : Int) (w : World) (gL gS gR : Nat) (z : S14) (A : Option Addr) (n c : Nat) (wr : World) : Prop where
  ol : Own wr gL 73 (lsCells (LL ttl z.le) A n c)
  la : LsFar ttl z.le A n c gL gS gR wr
  os : Own wr gS 53 z.s.arr
  orr : Own wr gR 31 ((RR z).arr none 0 0 none 0 0)
  bel : Below w.heap.size w wr
theorem Mem14.keep {ttl : Int} {w wr wr' : World} {gL gS gR : Nat} {z : S14} {A : Option Addr} {n c : Nat} (h : Mem14 ttl w gL gS gR z A n c wr) (hb : Below wr.heap.size wr wr') : Mem14 ttl w gL gS gR z A n c wr' :=
  ⟨h.ol.below hb, h.la.keep hb, h.os.below hb, h.orr.below hb, h.bel.trans (hb.mono h.bel.size)⟩
theorem ls_len (ttl : Int) (o : Option Int) : (LL ttl o).l.length ≤ 1 := by cases o <;> simp [LL]
theorem ll_small (ttl : Int) (o : Option Int) (h : 1 ≤ ttl) (h1 : ttl ≤ 1000) : smallT (LL ttl o) := by
  intro x hx
  cases o with
  | none => simp [LL] at hx
  | some u => simp [LL] at hx; subst hx; exact ⟨by show _ ≤ ttl; omega, by show ttl ≤ _; omega⟩
theorem sgrant_ok (ttl t : Int) (h : ttlB ttl = true) (k : atB t = true) (w : World) : Calls Try.prog 42 #[.agg #[.int .i64 0, .slice none 0 0], .int .i64 ttl, .int .i64 t] w fun e w' => ∃ A n c, e = .returned (.tuple #[(LL ttl (some (t + ttl))).agg A n c, .int .i64 1, .int .i64 0]) ∧ LsAt w' (LL ttl (some (t + ttl))) A n c ∧ Below w.heap.size w w' := by
  have h1 := grant_any ⟨0, []⟩ none 0 0 ttl t w ⟨Les.bare w, zero_inI⟩ (by simp)
  have h2 := grant_ok (s := ⟨0, []⟩) (ttl := ttl) (now := t) (by rw [h, k]; rfl) (by simp) (by decide)
  refine h1.mono fun e w' hh => ?_
  obtain ⟨A, n, c, he, ha, hb⟩ := hh
  rw [h2.1, h2.2.1, h2.2.2] at he
  rw [h2.1] at ha
  exact ⟨A, n, c, he, ha, hb⟩
theorem sgrant_no (ttl t : Int) (h : (ttlB ttl && atB t) = false) (w : World) : Calls Try.prog 42 #[.agg #[.int .i64 0, .slice none 0 0], .int .i64 ttl, .int .i64 t] w fun e w' => ∃ A n c, e = .returned (.tuple #[(Ls.mk 0 []).agg A n c, .int .i64 0, .int .i64 1]) ∧ Below w.heap.size w w' := by
  have h1 := grant_any ⟨0, []⟩ none 0 0 ttl t w ⟨Les.bare w, zero_inI⟩ (by simp)
  have h2 := grant_bad (s := ⟨0, []⟩) h
  refine h1.mono fun e w' hh => ?_
  obtain ⟨A, n, c, he, ha, hb⟩ := hh
  rw [h2.1, h2.2.1, h2.2.2] at he
  exact ⟨A, n, c, he, hb⟩
theorem skeep_ok (ttl u t : Int) (A : Option Addr) (n c : Nat) (h0 : 1 ≤ ttl) (h1 : ttl ≤ 1000) (k : atB t = true) (w : World) (h : LsAt w (LL ttl (some u)) A n c) :
    Calls Try.prog 44 #[(LL ttl (some u)).agg A n c, .int .i64 1, .int .i64 t] w fun e w' => ∃ A' n' c', e = .returned (.tuple #[(LL ttl (some (if u < t + ttl then t + ttl else u))).agg A' n' c', .int .i64 ttl, .int .i64 0]) ∧ LsAt w' (LL ttl (some (if u < t + ttl then t + ttl else u))) A' n' c' ∧ Below w.heap.size w w' ∧ ∀ a, A' = some a → w.heap.size ≤ a.block ∨ A' = A := by
  have h2 := keep_some (s := LL ttl (some u)) (id := 1) (now := t) (i := 0) (x := ⟨1, ttl, u⟩) k (by rfl) rfl
  refine (keep_fresh (LL ttl (some u)) A n c 1 t w h (by simp [LL]) (ll_small ttl _ h0 h1)).mono fun e w' hh => ?_
  obtain ⟨A', n', c', he, ha, hb, hf⟩ := hh
  rw [h2.1, h2.2.1, h2.2.2] at he
  rw [h2.1] at ha
  exact ⟨A', n', c', he, ha, hb, hf⟩
theorem skeep_no (ttl t : Int) (A : Option Addr) (n c : Nat) (h0 : 1 ≤ ttl) (h1 : ttl ≤ 1000) (k : atB t = true) (w : World) (h : LsAt w (LL ttl none) A n c) :
    Calls Try.prog 44 #[(LL ttl none).agg A n c, .int .i64 1, .int .i64 t] w fun e w' => ∃ A' n' c', e = .returned (.tuple #[(LL ttl none).agg A' n' c', .int .i64 0, .int .i64 6]) ∧ LsAt w' (LL ttl none) A' n' c' ∧ Below w.heap.size w w' ∧ ∀ a, A' = some a → w.heap.size ≤ a.block ∨ A' = A := by
  have h2 := keep_none (s := LL ttl none) (id := 1) (now := t) k rfl
  refine (keep_fresh (LL ttl none) A n c 1 t w h (by simp [LL]) (ll_small ttl _ h0 h1)).mono fun e w' hh => ?_
  obtain ⟨A', n', c', he, ha, hb, hf⟩ := hh
  rw [h2.1, h2.2.1, h2.2.2] at he
  rw [h2.1] at ha
  exact ⟨A', n', c', he, ha, hb, hf⟩
theorem skeep_z (ttl : Int) (z : S14) (u : Int) (A : Option Addr) (n c : Nat) (h0 : 1 ≤ ttl) (h1 : ttl ≤ 1000) (k : atB z.t = true) (w : World) (h : LsAt w (LL ttl (some u)) A n c) :
    Calls Try.prog 44 #[(LL ttl (some u)).agg A n c, .int .i64 1, .int .i64 z.t] w fun e w' => ∃ A' n' c', e = .returned (.tuple #[(LL ttl (some (late14 ttl z u))).agg A' n' c', .int .i64 ttl, .int .i64 0]) ∧ LsAt w' (LL ttl (some (late14 ttl z u))) A' n' c' ∧ Below w.heap.size w w' ∧ ∀ a, A' = some a → w.heap.size ≤ a.block ∨ A' = A :=
  skeep_ok ttl u z.t A n c h0 h1 k w h
theorem LsFar.next_ {ttl : Int} {le le' : Option Int} {A A' : Option Addr} {n c n' c' gL gS gR : Nat} {w w' : World} (h : LsFar ttl le A n c gL gS gR w) (hle : ∀ v, le' = some v → ∃ u, le = some u) (ha : LsAt w' (LL ttl le') A' n' c') (hf : ∀ a, A' = some a → w.heap.size ≤ a.block ∨ A' = A)
    (h1 : gL < w.heap.size) (h2 : gS < w.heap.size) (h3 : gR < w.heap.size) : LsFar ttl le' A' n' c' gL gS gR w' := by
  refine ⟨ha, fun v hv a e => ?_⟩
  rcases hf a e with hge | e2
  · exact ⟨by omega, by omega, by omega⟩
  · obtain ⟨u, hu⟩ := hle v hv
    exact h.far u hu a (e2 ▸ e)
def dueN (o : Option Int) (t : Int) : List Int := match o with | some u => if u ≤ t then [1] else [] | none => []
theorem sdue_ll (ttl : Int) (o : Option Int) (t : Int) (A : Option Addr) (n c : Nat) (w : World) (h : LsAt w (LL ttl o) A n c) :
    Calls Try.prog 45 #[(LL ttl o).agg A n c, .int .i64 t] w fun e w' => ∃ D m d, e = .returned (.slice D m d) ∧ Is w' D m d (dueN o t) ∧ Below w.heap.size w w' := by
  have e : dueL (LL ttl o).l t = dueN o t := by
    cases o with
    | none => rfl
    | some u => unfold dueL dueN LL; by_cases hu : u ≤ t <;> simp [hu]
  have hn : n ≤ 1000 := by have := h.row.row.len; have := ls_len ttl o; omega
  refine (due_any (LL ttl o) A n c t w h hn).mono fun e' w' hh => ?_
  obtain ⟨D, m, d, he, hr, hb⟩ := hh
  rw [e] at hr
  exact ⟨D, m, d, he, hr, hb⟩
theorem send_ok (ttl u : Int) (A : Option Addr) (n c : Nat) (w : World) (h : LsAt w (LL ttl (some u)) A n c) :
    Calls Try.prog 46 #[(LL ttl (some u)).agg A n c, .int .i64 1] w fun e w' => ∃ A' n' c', e = .returned (.tuple #[(LL ttl none).agg A' n' c', .int .i64 0]) ∧ LsAt w' (LL ttl none) A' n' c' ∧ Below w.heap.size w w' := by
  have h2 := end_some (s := LL ttl (some u)) (id := 1) (i := 0) (by rfl)
  refine (end_any (LL ttl (some u)) A n c 1 w h (by simp [LL])).mono fun e w' hh => ?_
  obtain ⟨A', n', c', he, ha, hb⟩ := hh
  rw [h2.1, h2.2] at he
  rw [h2.1] at ha
  exact ⟨A', n', c', he, ha, hb⟩
end Go.Proofs.Ytpecgkkhjkfmmaa.P
