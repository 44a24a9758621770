/- A call of Solve, as one step of a region that draws. -/
import Derived.Test.YtjhghkieghdoaaaDiffMore
namespace Go.Proofs.Ytjhghkieghdoaaa
open Go.RowKit Go.Lib
namespace Diff
set_option linter.unusedVariables false
theorem step_solve {ops : Array Oper} {o : Oper} {a : Act} {w : World} {K : Act → World → Prop} {Q : Exit → Act → World → Prop} {E : Prop} {R : Ending → World → Prop}
    (hg : o.guard = none) (x y z : Operand) (hop : o.op = Op.call { callee := Callee.value (Operand.func 9), args := #[x, y, z], argTypes := #[3, 22, 3] })
    (vx vy vz : Value) (hx : a.eval x = vx) (hy : a.eval y = vy) (hz : a.eval z = vz) (hc : Calls Try.prog 9 #[vx, vy, vz] w R)
    (hK : ∀ e w', R e w' → ∃ v, e = .returned v ∧ K (a.put o.dst v) w') : if Region.wanted o (yielded ops a.tmps) = true then Oper.wp Try.prog o a w K Q else E := by
  have hw : Region.wanted o (yielded ops a.tmps) = true := by simp [Region.wanted, hg]
  rw [if_pos hw]
  have e1 : (execOp a.eval o).run Try.prog w = .ok (.enter 9 #[vx, vy, vz]) w := by
    simp [execOp, hop, resolve, invoke, hx, hy, hz]
    rfl
  rw [Oper.wp, e1, Oper.upon_enter]
  refine hc.mono fun e w' hR => ?_
  obtain ⟨v, rfl, hk⟩ := hK e w' hR
  exact hk
end Diff
end Go.Proofs.Ytjhghkieghdoaaa
