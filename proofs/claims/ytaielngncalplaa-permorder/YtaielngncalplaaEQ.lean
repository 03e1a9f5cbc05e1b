/- Single operations over permissions. -/
import Derived.Test.YtaielngncalplaaEP
import Derived.Test.YtaielngncalplaaEM
namespace Go.Proofs.Ytaielngncalplaa
open Go.RowKit

section
variable {o : Oper} {a : Act} {w : World} {K : Act → World → Prop} {Q : Exit → Act → World → Prop} {b : Nat} {r q x : Bool}
theorem wp_load_p {y : Operand} (ho : o.op = .load 23 y) (hx : a.eval y = .pointer (some ⟨b, 0, none⟩)) (B : PX w b r q x) (h : K (a.put o.dst (.agg #[.bool r, .bool q, .bool x])) w) : o.wp Try.prog a w K Q := by
  unfold Oper.wp execOp
  have e0 := B.c0
  have e1 := B.c1
  have e2 := B.c2
  generalize a.eval = ρ at hx ⊢
  simp [ho, hx, go_sem, e0, e1, e2]
  exact h
theorem wp_alloc_p (ho : o.op = .alloc 23) (h : K (a.put o.dst (.pointer (some ⟨w.heap.size, 0, none⟩))) (w.alloc (.cells #[.bool false, .bool false, .bool false] 23))) : o.wp Try.prog a w K Q := by
  unfold Oper.wp execOp
  simp [ho, go_sem]
  exact h
theorem wp_store_p {y z : Operand} {r' q' x' : Bool} (ho : o.op = .store 23 y z) (hx : a.eval y = .pointer (some ⟨b, 0, none⟩)) (hz : a.eval z = .agg #[.bool r', .bool q', .bool x']) (B : PX w b r q x) (hd : o.dst = none) (h : K a (putP w b r' q' x')) : o.wp Try.prog a w K Q := by
  unfold Oper.wp execOp
  have e0 := B.c0
  have e1 := B.c1
  have e2 := B.c2
  have z0 := B.fz 0
  have z1 := B.fz 1
  have z2 := B.fz 2
  generalize a.eval = ρ at hx hz ⊢
  simp [ho, hx, hz, go_sem, e0, e1, e2, z0, z1, z2, hd]
  exact h
theorem wp_call2 {g : FuncId} {fn : Func} {y1 y2 : Operand} {ts : Array TypeId} {v1 v2 v : Value} (ho : o.op = .call { callee := .value (.func g), args := #[y1, y2], argTypes := ts }) (hf : Try.prog.funcs[g]? = some fn) (hb : fn.body.isSome = true) (hn : ¬ fn.name = "runtime.NumGoroutine") (h1 : a.eval y1 = v1) (h2 : a.eval y2 = v2)
    (hc : Calls Try.prog g #[v1, v2] w fun e w' => e = .returned v ∧ Kp w w') (h : ∀ w', Kp w w' → K (a.put o.dst v) w') : o.wp Try.prog a w K Q := by
  obtain ⟨c, hb⟩ := Option.isSome_iff_exists.1 hb
  have e : (callFunc g #[v1, v2]).run Try.prog w = .ok (.enter g #[v1, v2]) w := by simp [callFunc, go_sem, hf, hb, hn]
  have e2 : execOp a.eval o = callFunc g #[a.eval y1, a.eval y2] := by
    obtain ⟨dst, op, type, pos, after, guard⟩ := o
    simp only at ho
    subst ho
    have e3 : execOp a.eval { dst, op := .call { callee := .value (.func g), args := #[y1, y2], argTypes := ts }, type, pos, after, guard } = callFunc g (#[] ++ #[y1, y2].map a.eval ++ #[]) := rfl
    rw [e3]
    simp
  unfold Oper.wp
  rw [e2, h1, h2, e]
  refine hc.mono ?_
  rintro e w' ⟨rfl, k⟩
  exact h w' k
end

end Go.Proofs.Ytaielngncalplaa
