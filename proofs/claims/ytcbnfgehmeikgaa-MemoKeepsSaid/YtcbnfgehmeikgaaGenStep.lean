/- An append, as one step of a region that draws: by its run's equation. -/
import Derived.Test.YtcbnfgehmeikgaaProg
import Derived.WalkKit
import Derived.Deep.RegionLaw
namespace Go.Proofs.Ytcbnfgehmeikgaa.P
open Go.RowKit
set_option linter.unusedVariables false
theorem step_app {P : Program} {ops : Array Oper} {o : Oper} {a : Act} {w : World} {K : Act → World → Prop} {Q : Exit → Act → World → Prop} {E : Prop}
    (hg : o.guard = none) (sl x : Operand) (t u : TypeId) (hop : o.op = .call { callee := .builtin .append, args := #[sl, x], argTypes := #[t, u] })
    (v1 v2 : Value) (h1 : a.eval sl = v1) (h2 : a.eval x = v2) {v' : Value} {w' : World} (hr : (Builtin.append_ #[t, u] o.type #[v1, v2]).run P w = .ok v' w') (hK : K (a.put o.dst v') w') :
    if Region.wanted o (yielded ops a.tmps) = true then Oper.wp P o a w K Q else E := by
  have hw : Region.wanted o (yielded ops a.tmps) = true := by simp [Region.wanted, hg]
  rw [if_pos hw]
  unfold Oper.wp execOp
  simp only [hop, resolve, invoke, builtin, Sem.run_bind, Sem.run_pure, Result.andThen_ok, List.map_toArray, List.map_cons, List.map_nil, h1, h2, hr]
  exact hK
end Go.Proofs.Ytcbnfgehmeikgaa.P
