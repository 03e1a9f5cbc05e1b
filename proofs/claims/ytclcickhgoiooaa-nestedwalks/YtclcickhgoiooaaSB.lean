/- An append in a region that draws its order. -/
import Derived.Test.YtclcickhgoiooaaU0
import Derived.Deep.RegionLaw
namespace Go.Proofs.Ytclcickhgoiooaa
open Go.RowKit

/-- An append whose run is known, at a step of a region that draws its order. -/
theorem step_append_of {P : Program} {w : World} {ops : Array Oper} {o : Oper} {a : Act} {K : Act → World → Prop} {Q : Exit → Act → World → Prop} {E : Prop} {t ty : TypeId} {vs vx v' : Value} {w' : World}
    (hr : (Builtin.append_ #[t, t] ty #[vs, vx]).run P w = .ok v' w') (hgd : o.guard = none) (s x : Operand) (ho : o.op = .call { callee := .builtin .append, args := #[s, x], argTypes := #[t, t] }) (hty : o.type = ty) (hs : a.eval s = vs) (hx : a.eval x = vx)
    (h : K (a.put o.dst v') w') : if Region.wanted o (yielded ops a.tmps) = true then Oper.wp P o a w K Q else E := by
  rw [if_pos (by simp [Region.wanted, hgd])]
  exact wp_append_of hr s x ho hty hs hx h

end Go.Proofs.Ytclcickhgoiooaa
