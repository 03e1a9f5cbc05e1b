/- Single operations over descriptors. -/
import Derived.Test.YtcbciehffgaapaaE5
import Derived.Test.YtcbciehffgaapaaEM
namespace Go.Proofs.Ytcbciehffgaapaa
open Go.RowKit

section
variable {o : Oper} {a : Act} {w : World} {K : Act → World → Prop} {Q : Exit → Act → World → Prop} {b : Nat} {k c : Int} {r q x : Bool} {f : Int}
theorem wp_move {y : Operand} (ho : o.op = .move y) (h : K (a.put o.dst (a.eval y)) w) : o.wp Try.prog a w K Q := by
  unfold Oper.wp execOp
  simp only [ho, Sem.run_pure]
  exact h
theorem wp_load_d {y : Operand} (ho : o.op = .load 48 y) (hx : a.eval y = .pointer (some ⟨b, 0, none⟩)) (B : BX w b k c r q x f) (h : K (a.put o.dst (.agg #[.int .i64 k, .int .u64 c, .bool r, .bool q, .bool x, .int .i64 f])) w) : o.wp Try.prog a w K Q := by
  unfold Oper.wp execOp
  have e0 := B.c0
  have e1 := B.c1
  have e2 := B.c2
  have e3 := B.c3
  have e4 := B.c4
  have e5 := B.c5
  generalize a.eval = ρ at hx ⊢
  simp [ho, hx, go_sem, e0, e1, e2, e3, e4, e5]
  exact h
theorem wp_alloc_d (ho : o.op = .alloc 48) (h : K (a.put o.dst (.pointer (some ⟨w.heap.size, 0, none⟩))) (w.alloc (.cells #[.int .i64 0, .int .u64 0, .bool false, .bool false, .bool false, .int .i64 0] 48))) : o.wp Try.prog a w K Q := by
  unfold Oper.wp execOp
  simp [ho, go_sem]
  exact h
theorem wp_store_d {y z : Operand} {k' c' : Int} {r' q' x' : Bool} {f' : Int} (ho : o.op = .store 48 y z) (hx : a.eval y = .pointer (some ⟨b, 0, none⟩)) (hz : a.eval z = .agg #[.int .i64 k', .int .u64 c', .bool r', .bool q', .bool x', .int .i64 f']) (B : BX w b k c r q x f) (hd : o.dst = none) (h : K a (putD w b k' c' r' q' x' f')) : o.wp Try.prog a w K Q := by
  unfold Oper.wp execOp
  have e0 := B.c0
  have e1 := B.c1
  have e2 := B.c2
  have e3 := B.c3
  have e4 := B.c4
  have e5 := B.c5
  have z0 := B.fz 0
  have z1 := B.fz 1
  have z2 := B.fz 2
  have z3 := B.fz 3
  have z4 := B.fz 4
  have z5 := B.fz 5
  generalize a.eval = ρ at hx hz ⊢
  simp [ho, hx, hz, go_sem, e0, e1, e2, e3, e4, e5, z0, z1, z2, z3, z4, z5, hd]
  exact h
theorem wp_call3 {g : FuncId} {fn : Func} {y1 y2 y3 : Operand} {ts : Array TypeId} {v1 v2 v3 v : Value} (ho : o.op = .call { callee := .value (.func g), args := #[y1, y2, y3], argTypes := ts }) (hf : Try.prog.funcs[g]? = some fn) (hb : fn.body.isSome = true) (hn : ¬ fn.name = "runtime.NumGoroutine") (h1 : a.eval y1 = v1) (h2 : a.eval y2 = v2) (h3 : a.eval y3 = v3)
    (hc : Calls Try.prog g #[v1, v2, v3] w fun e w' => e = .returned v ∧ Kp w w') (h : ∀ w', Kp w w' → K (a.put o.dst v) w') : o.wp Try.prog a w K Q := by
  obtain ⟨c, hb⟩ := Option.isSome_iff_exists.1 hb
  have e : (callFunc g #[v1, v2, v3]).run Try.prog w = .ok (.enter g #[v1, v2, v3]) w := by simp [callFunc, go_sem, hf, hb, hn]
  have e2 : execOp a.eval o = callFunc g #[a.eval y1, a.eval y2, a.eval y3] := by
    obtain ⟨dst, op, type, pos, after, guard⟩ := o
    simp only at ho
    subst ho
    have e3 : execOp a.eval { dst, op := .call { callee := .value (.func g), args := #[y1, y2, y3], argTypes := ts }, type, pos, after, guard } = callFunc g (#[] ++ #[y1, y2, y3].map a.eval ++ #[]) := rfl
    rw [e3]
    simp
  unfold Oper.wp
  rw [e2, h1, h2, h3, e]
  refine hc.mono ?_
  rintro e w' ⟨rfl, k⟩
  exact h w' k
end

end Go.Proofs.Ytcbciehffgaapaa
