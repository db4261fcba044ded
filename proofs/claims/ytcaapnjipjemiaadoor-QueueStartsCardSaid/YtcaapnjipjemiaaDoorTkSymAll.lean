/- The library's stable sort of a row of things of k cells: what lies there behind it, function by function. -/
import Derived.Test.YtcaapnjipjemiaaDoorTkSymHi
import Derived.Shelf.SlSortCmp.KitK
import Derived.Deep.LoopGhost
namespace Go.Proofs.YtcaapnjipjemiaaDoor.P
open Go.Shelf Go.RowKit Go.Lib Go.Sort
set_option linter.unusedVariables false
set_option linter.unusedSimpArgs false
variable {P : Program} {α : Type} [Inhabited α]
def renT : Ren := ⟨fun | 20 => 62 | n => n, fun | 0 => 0 | 3 => 3 | 4 => 4 | 22 => 85 | 24 => 86 | 25 => 88 | n => n, fun n => n⟩
theorem SWK.cmpLays {g : Nat} {cb : Array Value} {enc : α → List Value} {k : Nat} {cf : α → α → Int} {blk off : Nat} {w0 W : World} {d0 dk : Array α} (h : CmpLays P g cb enc k cf blk off d0.size w0) (S : SWK enc k w0 blk off dk W) (hblk : blk < w0.heap.size) (hs : dk.size = d0.size) :
    CmpLays P g cb enc k cf blk off dk.size W := by
  obtain ⟨n, os, rfl⟩ := S
  intro m os' dk' hs' x y
  rw [sortWorldK_on enc k w0 blk off n m dk dk' os os' hblk hs']
  exact h _ _ dk' (hs'.trans hs) x y
theorem ins_any {k : Nat} (L : StT P k) (I : SlLaysF0.n20 P renT) (enc : α → List Value) (g : Nat) (cb : Array Value) (blk off cap : Nat) (d0 d : Array α) (w0 w : World)
    (R : RowK enc k w0 blk off d0) (hs : d0.size = d.size) (S : SWK enc k w0 blk off d w) (hsz : d.size < 4611686018427387904) (cf : α → α → Int) (hS : SWO (ltOf cf)) (eg : ∀ args w, (callFunc g args).run P w = .ok (.enter g args) w) (hcmp : CmpLays P g cb enc k cf blk off d0.size w0) (a b : Nat) (hab : a ≤ b) (hb : b ≤ d.size) :
    Calls P 62 #[.slice (some ⟨blk, off, none⟩) d.size cap, .int .i64 a, .int .i64 b, .func (.func g) #[] cb] w (SortEnd enc k w0 blk off (ltOf cf) a b d) := by
  refine (AnyQ.insertionSortCmpFunc I k L.aE L.zE enc R.hk R.h1 cf g cb blk off cap a b d w eg (SWK.cmpLays hcmp S R.hblk hs.symm) (S.holds R.hblk R.hH hs.symm) (S.lt R.hblk) hab hb hsz).mono ?_
  rintro e w' ⟨rfl, n, os, rfl⟩
  have h := insertionSort_holds hS d a b hab hb
  exact ⟨rfl, _, ⟨h.1, h.2, stab_insertion hS d a b hb⟩, S.on R.hblk n _ os (by rw [h.1.1])⟩
theorem sym_all {k : Nat} (L : StT P k) (enc : α → List Value) (g : Nat) (cb : Array Value) (blk off cap : Nat) (d0 : Array α) (w0 : World) (R : RowK enc k w0 blk off d0) (hsz : d0.size < 4611686018427387904) (cf : α → α → Int) (hS : SWO (ltOf cf)) (eg : ∀ args w, (callFunc g args).run P w = .ok (.enter g args) w) (hcmp : CmpLays P g cb enc k cf blk off d0.size w0) : ∀ N, SymUpto P N enc k w0 blk off cap g cb cf d0.size := by
  intro N
  induction N with
  | zero => intro d w a m b _ h; omega
  | succ N ih =>
    intro d w a m b hd hN ham hmb hb h1 h2 S
    have hs : d0.size = d.size := hd.symm
    rw [hs]
    have hcmp' := hcmp
    by_cases hm : m ≤ a + 1
    · exact sym_one L enc g cb blk off cap d0 d w0 w R hs S (by omega) cf hS eg hcmp' a m b hm (by omega) hmb (by omega) h1 h2
    · by_cases hbm : b ≤ m + 1
      · exact sym_last L enc g cb blk off cap d0 d w0 w R hs S (by omega) cf hS eg hcmp' a m b (by omega) hbm (by omega) (by omega) h1 h2
      · have IH : SymUpto P (b - a) enc k w0 blk off cap g cb cf d.size := by
          rw [hd]
          intro d' w' a' m' b' q1 q2 q3 q4 q5 q6 q7 q8
          exact ih d' w' a' m' b' q1 (by omega) q3 q4 q5 q6 q7 q8
        by_cases hc : m ≤ (a + b) / 2
        · exact sym_lo L enc g cb blk off cap d0 d w0 w R hs S (by omega) cf hS eg hcmp' a m b (by omega) (by omega) (by omega) h1 h2 _ rfl hc IH
        · exact sym_hi L enc g cb blk off cap d0 d w0 w R hs S (by omega) cf hS eg hcmp' a m b (by omega) (by omega) (by omega) h1 h2 _ rfl (by omega) IH
end Go.Proofs.YtcaapnjipjemiaaDoor.P
