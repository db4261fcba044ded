/- Layer 9: a memo that is kept, in the midst of its statement: one call behind another, and a box that is made at whatever time. -/
import Derived.Test.YtcbnfgehmeikgaaMeGo
import Derived.Test.YtcbnfgehmeikgaaMeKeep
namespace Go.Proofs.Ytcbnfgehmeikgaa.P
open Go.RowKit Go.Sort
set_option maxHeartbeats 2000000
set_option linter.unusedVariables false
set_option linter.unusedSimpArgs false
set_option maxRecDepth 100000

abbrev zMo : Obj := .cells (moA none 0 0 none 0 0) 25
abbrev zMoC : Array Value := moA none 0 0 none 0 0
theorem ownG_mono {α : Type} {cells : α → List Value} {q : Nat} {e : TypeId} {w : World} {B b n c : Nat} {A : Option Addr} {l : List α} (h : ownG cells q e w B A n c l) (hb : b ≤ B) : ownG cells q e w b A n c l := by
  rcases h with ⟨h1, h2 | ⟨g, cap, cur, hv, hbg, h3⟩⟩
  · exact ⟨h1, .inl h2⟩
  · exact ⟨h1, .inr ⟨g, cap, cur, hv, Nat.le_trans hb hbg, h3⟩⟩
/-- Behind the first call: a copy of the memos. -/
structure K1 (V u : World) (l : List Gr) (A : Option Addr) (n d : Nat) (G : Option Nat) : Prop where
  own : ownG Gr.cells 11 53 u V.heap.size A n d l
  bel : Below V.heap.size V u
  box : ∀ t, G = some t → Own u t 25 zMoC ∧ V.heap.size ≤ t ∧ ∀ a, A = some a → a.block ≠ t
theorem K1.mk0 {V u : World} {l : List Gr} {A : Option Addr} {n d : Nat} (ho : ownG Gr.cells 11 53 u V.drew.heap.size A n d l) (hb : Below V.drew.heap.size V.drew u) : K1 V u l A n d none :=
  ⟨ho, (new_drew V).trans hb, fun t h => by cases h⟩
theorem K1.mk1 {V u : World} {l : List Gr} {A : Option Addr} {n d : Nat} (ho : ownG Gr.cells 11 53 u (V.alloc zMo).drew.heap.size A n d l) (hb : Below (V.alloc zMo).drew.heap.size (V.alloc zMo).drew u) : K1 V u l A n d (some V.heap.size) := by
  have hs : (V.alloc zMo).drew.heap.size = V.heap.size + 1 := by show (V.heap.push _).size = _; simp
  refine ⟨ownG_mono ho (by omega), then_ (then_ (new1 V zMo) (new_drew _)) hb, fun t h => ?_⟩
  injection h with h
  subst h
  refine ⟨(Own.below (own_new V zMoC 25) (new_drew _)).below hb, Nat.le_refl _, fun a ha => ?_⟩
  have := (own_block ho a ha).2.1
  omega
theorem K1.alloc {V u : World} {l : List Gr} {A : Option Addr} {n d : Nat} (h : K1 V u l A n d none) : K1 V (u.alloc zMo) l A n d (some u.heap.size) :=
  ⟨ownG_keep h.own (new1 u _), then_ h.bel (new1 u _), fun t ht => by
    injection ht with ht
    subst ht
    exact ⟨own_new u zMoC 25, h.bel.size, fun a ha => by have := (own_block h.own a ha).1; omega⟩⟩
theorem grs_one {g : Gr} {b : Nat} (h1 : 0 < g.an → ∀ a, g.A = some a → a.block ≠ b) (h2 : 0 < g.bn → ∀ a, g.B = some a → a.block ≠ b) : GrsOff [g] b := fun x hx => by
  rw [List.mem_singleton] at hx; subst hx; exact ⟨h1, h2⟩
theorem gr_low {u : World} {g : Gr} (h : RpAt u g.y g.A g.an g.ac g.B g.bn g.bc) : (0 < g.an → ∀ b, g.A = some b → b.block < u.heap.size) ∧ (0 < g.bn → ∀ b, g.B = some b → b.block < u.heap.size) :=
  ⟨fun h0 b hb => by obtain ⟨a', e, hlt, _⟩ := h.kvs.rd h0; rw [hb] at e; injection e with e; subst e; exact hlt, fun h0 b hb => by obtain ⟨a', e, hlt, _⟩ := h.evs.rd h0; rw [hb] at e; injection e with e; subst e; exact hlt⟩
/-- Behind the second call: a reply of its own beside it. -/
structure K2 (V u : World) (l : List Gr) (A : Option Addr) (n d : Nat) (g : Gr) (G : Option Nat) : Prop where
  k1 : K1 V u l A n d G
  rp : RpAt u g.y g.A g.an g.ac g.B g.bn g.bc
  far : ∀ a, A = some a → GrsOff [g] a.block
  low : (∀ b, g.A = some b → V.heap.size ≤ b.block) ∧ (∀ b, g.B = some b → V.heap.size ≤ b.block)
  box : ∀ t, G = some t → GrsOff [g] t
theorem K2.of {V W u : World} {l : List Gr} {A : Option Addr} {n d : Nat} {G : Option Nat} (h : K1 V W l A n d G) (who seq : Int) (y : Rp) {A' : Option Addr} {an ac : Nat} {B' : Option Addr} {bn bc : Nat} (hr : RpAt u y A' an ac B' bn bc) (hb : Below W.heap.size W u) (hA : ∀ a, A' = some a → W.heap.size ≤ a.block) (hB : ∀ a, B' = some a → W.heap.size ≤ a.block) : K2 V u l A n d ⟨who, seq, y, A', an, ac, B', bn, bc⟩ G := by
  have hz := h.bel.size
  refine ⟨⟨ownG_keep h.own hb, then_ h.bel hb, fun t ht => ⟨(h.box t ht).1.below hb, (h.box t ht).2⟩⟩, hr, fun a ha => ?_, ⟨fun b e => Nat.le_trans hz (hA b e), fun b e => Nat.le_trans hz (hB b e)⟩, fun t ht => ?_⟩
  · have := (own_block h.own a ha).1
    exact grs_one (fun _ b e => by have := hA b e; omega) (fun _ b e => by have := hB b e; omega)
  · have := (h.box t ht).1.lt
    exact grs_one (fun _ b e => by have := hA b e; omega) (fun _ b e => by have := hB b e; omega)
theorem K2.any {V u : World} {l : List Gr} {A : Option Addr} {n d : Nat} {g : Gr} {G : Option Nat} (h : K2 V u l A n d g G) (o : Obj) : K2 V (u.alloc o) l A n d g G :=
  ⟨⟨ownG_keep h.k1.own (new1 u o), then_ h.k1.bel (new1 u o), fun t ht => ⟨(h.k1.box t ht).1.alloc o, (h.k1.box t ht).2⟩⟩, h.rp.keep (new1 u o), h.far, h.low, h.box⟩
/-- Behind the third one: the new memo behind all. -/
structure K3 (V u : World) (l : List Gr) (g : Gr) (A : Option Addr) (n d : Nat) (G : Option Nat) : Prop where
  own : ownG Gr.cells 11 53 u V.heap.size A n d (l ++ [g])
  bel : Below V.heap.size V u
  rp : RpAt u g.y g.A g.an g.ac g.B g.bn g.bc
  far : ∀ a, A = some a → GrsOff [g] a.block
  low : (∀ b, g.A = some b → V.heap.size ≤ b.block) ∧ (∀ b, g.B = some b → V.heap.size ≤ b.block)
  box : ∀ t, G = some t → Own u t 25 zMoC ∧ V.heap.size ≤ t ∧ (∀ a, A = some a → a.block ≠ t) ∧ GrsOff [g] t
/-- The append: at a world in which the new memo lies in a block of its own; G0 is the box if it was made ahead of that block, G the box. -/
theorem K3.app {V W : World} {l : List Gr} {A : Option Addr} {n d : Nat} {g : Gr} {G : Option Nat} {bs : Nat} (h : K2 V W l A n d g G) (hbs : Own W bs 53 g.arr) (hlow : (0 < g.an → ∀ b, g.A = some b → b.block < bs) ∧ (0 < g.bn → ∀ b, g.B = some b → b.block < bs)) (hn : n ≤ 1000) :
    ∃ A' d' u, (Builtin.append_ #[22, 22] 22 #[.slice A n d, .slice (some ⟨bs, 0, none⟩) 1 1]).run Try.prog W = .ok (.slice A' (n + 1) d') u ∧ K3 V u l g A' (n + 1) d' G := by
  obtain ⟨i0, hi0, hz0, hz1, hz2⟩ := info_partsG me_info
  have hcl : ∀ j u, (flatC Gr.cells [g])[j]? = some u → W.cell? ((⟨bs, 0, none⟩ : Addr).add j) = some u := news_at gr_len hbs.ex rfl
  obtain ⟨v', u, h1, h2, h3, h4, h5⟩ := run_append_own_at (P := Try.prog) (w := W) V.heap.size 22 22 53 i0 zMeV 11 120 Try.underlying22 hi0 hz0 hz1 hz2 rfl (by omega) (.slice A n d) n _ h.k1.own ⟨bs, 0, none⟩ 1 1 (flatC Gr.cells [g]) (by rw [flat_len gr_len]; rfl) hcl (fun u hu => flat_mem gr_one hu) (by unfold maxLen; omega) (by omega) h.k1.bel.size
  have hsl : ∃ A' d', v' = .slice A' (n + 1) d' := by
    rcases h2.2 with ⟨rfl, h0⟩ | ⟨gg, cap, cur, rfl, _⟩
    · exact ⟨none, 0, by rw [h0]⟩
    · exact ⟨_, _, rfl⟩
  obtain ⟨A', d', rfl⟩ := hsl
  have hlo := gr_low h.rp
  have hblk : ∀ a', A' = some a' → (∃ a, A = some a ∧ a'.block = a.block) ∨ a'.block = W.heap.size := fun a' ha' => by
    subst ha'
    rcases h5 with h5 | h5
    · cases A with
      | none => cases h5
      | some a => exact .inl ⟨a, rfl, by simpa [Value.ownBlock] using h5⟩
    · exact .inr (by simpa [Value.ownBlock] using h5)
  refine ⟨A', d', u, h1, ?_, ?_, ?_, ?_, h.low, ?_⟩
  · rw [← flat_app] at h2; exact h2
  · exact below_grown h.k1.bel h3 h.k1.bel.size (fun b hb => (own_block h.k1.own b hb).2.1)
  · have key : ∀ b, (∀ a, A = some a → b ≠ a.block) → some b ≠ (Value.slice A n d).ownBlock := fun b hb => row_ne (fun a ha e => hb a ha e.symm)
    exact h.rp.grown h3 (fun h0 b hb => key _ fun a ha => (h.far a ha g (List.mem_singleton.2 rfl)).1 h0 b hb) (fun h0 b hb => key _ fun a ha => (h.far a ha g (List.mem_singleton.2 rfl)).2 h0 b hb)
  · intro a' ha'
    rcases hblk a' ha' with ⟨a, ha, e⟩ | e
    · rw [e]; exact h.far a ha
    · exact grs_one (fun h0 b hb => by have := hlo.1 h0 b hb; omega) (fun h0 b hb => by have := hlo.2 h0 b hb; omega)
  · intro t ht
    obtain ⟨ho, hl, hA⟩ := h.k1.box t ht
    refine ⟨ho.kept h3 (row_ne hA), hl, fun a' ha' => ?_, h.box t ht⟩
    rcases hblk a' ha' with ⟨a, ha, e⟩ | e
    · rw [e]; exact hA a ha
    · have := ho.lt; omega
theorem K3.alloc {V u : World} {l : List Gr} {g : Gr} {A : Option Addr} {n d : Nat} (h : K3 V u l g A n d none) : K3 V (u.alloc zMo) l g A n d (some u.heap.size) :=
  ⟨ownG_keep h.own (new1 u _), then_ h.bel (new1 u _), h.rp.keep (new1 u _), h.far, h.low, fun t ht => by
    injection ht with ht
    subst ht
    have hlo := gr_low h.rp
    exact ⟨own_new u zMoC 25, h.bel.size, fun a ha => by have := (own_block h.own a ha).1; omega, grs_one (fun h0 b hb => by have := hlo.1 h0 b hb; omega) (fun h0 b hb => by have := hlo.2 h0 b hb; omega)⟩⟩
theorem K2.alloc {V u : World} {l : List Gr} {A : Option Addr} {n d : Nat} {g : Gr} (h : K2 V u l A n d g none) : K2 V (u.alloc zMo) l A n d g (some u.heap.size) :=
  ⟨⟨ownG_keep h.k1.own (new1 u _), then_ h.k1.bel (new1 u _), fun t ht => by
      injection ht with ht
      subst ht
      exact ⟨own_new u zMoC 25, h.k1.bel.size, fun a ha => by have := (own_block h.k1.own a ha).1; omega⟩⟩, h.rp.keep (new1 u _), h.far, h.low, fun t ht => by
    injection ht with ht
    subst ht
    have hlo := gr_low h.rp
    exact grs_one (fun h0 b hb => by have := hlo.1 h0 b hb; omega) (fun h0 b hb => by have := hlo.2 h0 b hb; omega)⟩
/-- Behind the last one: a copy of the floors. -/
structure K4 (V u : World) (l : List Gr) (fl : List (Int × Int)) (g : Gr) (A : Option Addr) (n d : Nat) (B : Option Addr) (k e : Nat) (G : Option Nat) : Prop where
  k3 : K3 V u l g A n d G
  old : ownG pairC 2 59 u V.heap.size B k e fl
  sep : ∀ b, B = some b → ∀ a, A = some a → b.block ≠ a.block
  far : ∀ b, B = some b → GrsOff [g] b.block
  box : ∀ t, G = some t → ∀ b, B = some b → b.block ≠ t
theorem K4.of {V W u : World} {l : List Gr} {fl : List (Int × Int)} {g : Gr} {A : Option Addr} {n d : Nat} {B : Option Addr} {k e : Nat} {G : Option Nat} (h : K3 V W l g A n d G) (ho : ownG pairC 2 59 u W.heap.size B k e fl) (hb : Below W.heap.size W u) : K4 V u l fl g A n d B k e G := by
  have hlo := gr_low h.rp
  refine ⟨⟨ownG_keep h.own hb, then_ h.bel hb, h.rp.keep hb, h.far, h.low, fun t ht => ⟨(h.box t ht).1.below hb, (h.box t ht).2⟩⟩, ownG_mono ho h.bel.size, fun b hB a hA => ?_, fun b hB => ?_, fun t ht b hB => ?_⟩
  · have := (own_block ho b hB).2.1; have := (own_block h.own a hA).1; omega
  · have hbb := (own_block ho b hB).2.1
    exact grs_one (fun h0 c hc => by have := hlo.1 h0 c hc; omega) (fun h0 c hc => by have := hlo.2 h0 c hc; omega)
  · have hbb := (own_block ho b hB).2.1; have := (h.box t ht).1.lt; omega
/-- What stands behind the statement: the box, its two rows, all replies. -/
def KMid (V : World) (l : List Gr) (fl : List (Int × Int)) (who seq : Int) (y : Rp) (n k : Nat) (q : Value) (wx : World) : Prop :=
  ∃ (t : Nat) (A : Option Addr) (d : Nat) (B : Option Addr) (e : Nat) (g : Gr), q = .pointer (some ⟨t, 0, none⟩) ∧ V.heap.size ≤ t ∧ Own wx t 25 (moA A (n + 1) d B k e) ∧ ownG Gr.cells 11 53 wx V.heap.size A (n + 1) d (l ++ [g]) ∧ ownG pairC 2 59 wx V.heap.size B k e fl ∧
    (g.who = who ∧ g.seq = seq ∧ g.y = y) ∧ RpAt wx g.y g.A g.an g.ac g.B g.bn g.bc ∧ Below V.heap.size V wx ∧ (∀ b, B = some b → ∀ a, A = some a → b.block ≠ a.block) ∧ (∀ a, A = some a → a.block ≠ t ∧ GrsOff [g] a.block) ∧ (∀ b, B = some b → b.block ≠ t ∧ GrsOff [g] b.block) ∧ GrsOff [g] t ∧ ((∀ b, g.A = some b → V.heap.size ≤ b.block) ∧ (∀ b, g.B = some b → V.heap.size ≤ b.block))
theorem KMid.set {V u : World} {l : List Gr} {fl : List (Int × Int)} {g : Gr} {A : Option Addr} {n d : Nat} {B : Option Addr} {k e t : Nat} (h : K4 V u l fl g A (n + 1) d B k e (some t)) : KMid V l fl g.who g.seq g.y n k (.pointer (some ⟨t, 0, none⟩)) ((u.setCell ⟨t, 0, none⟩ (.slice A (n + 1) d)).setCell ⟨t, 1, none⟩ (.slice B k e)) := by
  obtain ⟨ho, hl, hA, hg⟩ := h.k3.box t rfl
  have g1 : u.grownBy ((u.setCell ⟨t, 0, none⟩ (.slice A (n + 1) d)).setCell ⟨t, 1, none⟩ (.slice B k e)) (some t) := Lib.grownBy_trans (Lib.grownBy_setCell u t 0 _) (Lib.grownBy_setCell _ t 1 _)
  refine ⟨t, A, d, B, e, g, rfl, hl, (ho.set 0 _).set 1 _, own_kept h.k3.own g1 hA, own_kept h.old g1 (h.box t rfl), ⟨rfl, rfl, rfl⟩, h.k3.rp.grown g1 (fun h0 a ha hh => (hg g (List.mem_singleton.2 rfl)).1 h0 a ha (Option.some.inj hh)) (fun h0 a ha hh => (hg g (List.mem_singleton.2 rfl)).2 h0 a ha (Option.some.inj hh)), (h.k3.bel.setCell (p := ⟨t, 0, none⟩) hl _).setCell (p := ⟨t, 1, none⟩) hl _, h.sep, fun a ha => ⟨hA a ha, h.k3.far a ha⟩, fun b hb => ⟨h.box t rfl b hb, h.far b hb⟩, hg, h.k3.low⟩
theorem KMid.new {V u : World} {l : List Gr} {fl : List (Int × Int)} {g : Gr} {A : Option Addr} {n d : Nat} {B : Option Addr} {k e : Nat} (h : K4 V u l fl g A (n + 1) d B k e none) : KMid V l fl g.who g.seq g.y n k (.pointer (some ⟨u.heap.size, 0, none⟩)) (u.alloc (.cells #[.slice A (n + 1) d, .slice B k e] 25)) := by
  have hlo := gr_low h.k3.rp
  have b1 := new1 u (.cells #[.slice A (n + 1) d, .slice B k e] 25)
  refine ⟨u.heap.size, A, d, B, e, g, rfl, h.k3.bel.size, own_new u _ _, ownG_keep h.k3.own b1, ownG_keep h.old b1, ⟨rfl, rfl, rfl⟩, h.k3.rp.keep b1, then_ h.k3.bel b1, h.sep, fun a ha => ⟨by have := (own_block h.k3.own a ha).1; omega, h.k3.far a ha⟩, fun b hb => ⟨by have := (own_block h.old b hb).1; omega, h.far b hb⟩, grs_one (fun h0 b hb => by have := hlo.1 h0 b hb; omega) (fun h0 b hb => by have := hlo.2 h0 b hb; omega), h.k3.low⟩
end Go.Proofs.Ytcbnfgehmeikgaa.P
