/- The closure that makes a change by a thing's Mod. -/
import Derived.Test.YtgafkpngnoecaaaTxSwPure
import Derived.Test.YtgafkpngnoecaaaTxLive
namespace Go.Proofs.Ytgafkpngnoecaaa.P
open Go.RowKit Go.Sort
set_option maxHeartbeats 1000000
set_option linter.unusedVariables false
set_option linter.unusedSimpArgs false
set_option maxRecDepth 100000
theorem modC_ok {k : ByteArray} {md : Int} (hk : k.size ≤ maxLen) (hr : inI md) : (modC k md).ok := ⟨hk, (⟨by decide, by decide⟩ : inI 2), (⟨by decide, by decide⟩ : inI 1), hr, empty_ok⟩
theorem swap_any (v k : ByteArray) (x : KV) (p q : Addr) (w : World) (hp : w.cell? p = some (.string k)) (hq : w.cell? ⟨q.block, q.off + 3, none⟩ = some (.int .i64 x.mod)) (hk : k.size ≤ maxLen) (hv : v.size ≤ maxLen) (hm : inI x.mod) :
    Calls Try.prog 38 #[.string v, .pointer (some p), .pointer (some q)] w (TxTo (swapT k v x.mod) w) := by
  have R0 := Lib.hid (own_new w #[.slice none 0 0, .slice none 0 0, .slice none 0 0] 45)
  have OKC := Lib.hid (modC_ok hk hm)
  have OKM : Hid (Mu.ok ⟨false, k, v, 0⟩) := Lib.hid ⟨hk, hv, by simp [inI]⟩
  have hpl := World.block_lt_of_cell? w p hp
  have hql := World.block_lt_of_cell? w _ hq
  have hp' := ((new1 w (.cells #[.slice none 0 0, .slice none 0 0, .slice none 0 0] 45)).cell (p := p) hpl).trans hp
  have hq' := ((new1 w (.cells #[.slice none 0 0, .slice none 0 0, .slice none 0 0] 45)).cell (p := ⟨q.block, q.off + 3, none⟩) hql).trans hq
  have B1 := Lib.hid (new1 w (.cells #[.slice none 0 0, .slice none 0 0, .slice none 0 0] 45))
  clear hk hv hm hp hq
  go_enter Try.func38, Try.ntmps38
  go_wp2
  refine bodyPost_ret (v := (Tx.agg (swapT k v x.mod) (some ⟨w.heap.size + 1, 0, none⟩) 1 1 (some ⟨w.heap.size + 1 + 1, 0, none⟩) 1 1 none 0 0)) (by simp [results, Try.results38, go_sem]) rfl ⟨_, _, _, _, _, _, _, _, _, rfl, ⟨?_, ?_, Mus.bare _⟩, ?_⟩
  · exact cms_one (x := modC k x.mod) ((own_new2 w _ _ 56).alloc _).ex OKC.out
  · exact mus_one (x := ⟨false, k, v, 0⟩) (own_new3 w _ _ _ 67).ex OKM.out
  · exact then_ (then_ (new1 w _) (new1 _ _)) (new1 _ _)
end Go.Proofs.Ytgafkpngnoecaaa.P
