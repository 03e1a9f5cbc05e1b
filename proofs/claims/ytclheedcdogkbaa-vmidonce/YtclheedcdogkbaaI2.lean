/- vmid: rollOn, New. -/
import Derived.Test.YtclheedcdogkbaaI1
import Derived.Test.YtclheedcdogkbaaLQ
namespace Go.Proofs.Ytclheedcdogkbaa
open Go.RowKit
set_option maxRecDepth 10000

/-- n IDs, the turn t, none given: as cells. -/
def rowA (n t : Nat) : Array Value := (Value.int .i64 (n : Int) :: Value.int .i64 (t : Int) :: Value.int .i64 0 :: List.replicate 256 (Value.int .i64 0)).toArray
theorem rowA_size (n t : Nat) : (rowA n t).size = 259 := rfl
theorem build_row2 (n t : Nat) (w : World) : (Instr.build 49 #[(0, .int .i64 (n : Int)), (1, .int .i64 (t : Int))]).run Try.prog w = .ok (.agg (rowA n t)) w := by kernel_rfl
theorem build_row1 (n : Nat) (w : World) : (Instr.build 49 #[(0, .int .i64 (n : Int))]).run Try.prog w = .ok (.agg (rowA n 0)) w := by kernel_rfl
theorem size_row : (Try.prog.info? 49).map (·.size) = some 259 := by kernel_rfl
theorem rowA_one (n t : Nat) : (rowA n t).all (·.oneCell') = true := by kernel_rfl
theorem VI.ofRow {w : World} {b n t : Nat} (h : w.heap[b]? = some (.cells (rowA n t) 49 (0, 0))) : VI w b n ⟨t, 0, fun _ => 0⟩ := by
  refine ⟨_, h, rfl, rfl, rfl, rfl, fun i hi => ?_⟩
  show ((Value.int .i64 (n : Int) :: Value.int .i64 (t : Int) :: Value.int .i64 0 :: List.replicate 256 (Value.int .i64 0)).toArray)[3 + i]? = _
  rw [List.getElem?_toArray, show 3 + i = i + 1 + 1 + 1 by omega, List.getElem?_cons_succ, List.getElem?_cons_succ, List.getElem?_cons_succ, List.getElem?_replicate, if_pos hi]
  rfl
theorem box_row (n : Nat) (w : World) : (Instr.box 49 (.agg (rowA n 0))).run Try.prog w = .ok (.pointer (some ⟨w.heap.size, 0, none⟩)) (w.alloc (.cells (rowA n 0) 49)) := by
  rfl

section
variable {P : Program} {w : World} {ops : Array Oper} {rest : List Oper} {o : Oper} {a : Act} {Q : Exit → Act → World → Prop}
theorem wpList_buildw_of {v : Value} {vs : Array (Nat × Value)} (t : TypeId) (hr : (Instr.build t vs).run P w = .ok v w) (ps : Array (Nat × Operand)) (hg : o.guard = none) (ho : o.op = .build t ps) (hx : (ps.map fun (i, x) => (i, a.eval x)) = vs) (h : wpList P ops Q rest (a.put o.dst v) w) : wpList P ops Q (o :: rest) a w := by
  refine wpList_plain hg fun K hK => ?_
  subst hx
  unfold Oper.wp execOp
  simp only [ho, Sem.run_bind, hr, Result.andThen_ok, Sem.run_pure]
  exact hK _ _ h
theorem wpList_boxv_of {v vx : Value} {w' : World} (t : TypeId) (hr : (Instr.box t vx).run P w = .ok v w') (x : Operand) (hg : o.guard = none) (ho : o.op = .box t x) (hx : a.eval x = vx) (h : wpList P ops Q rest (a.put o.dst v) w') : wpList P ops Q (o :: rest) a w := by
  refine wpList_plain hg fun K hK => ?_
  unfold Oper.wp execOp
  simp only [ho, hx, Sem.run_bind, hr, Result.andThen_ok, Sem.run_pure]
  exact hK _ _ h
end
section
variable {w : World} {b n : Nat} {s : IV}
set_option maxHeartbeats 2000000 in
theorem vroll_any (h : VI w b n s) (ht : s.t < 1000000) :
    Calls Try.prog 17 #[.pointer (some ⟨b, 0, none⟩)] w fun e w' => e = .returned (.tuple #[]) ∧ VI w' b n (rolS s) ∧ Fr (· = b) w w' := by
  have c0 := h.c0
  have c1 := h.c1
  obtain ⟨A, a1, a2, _⟩ := h.blk
  have HL : Hid (b < w.heap.size) := h.lt
  have HS : Hid (rolS s = ⟨s.t + 1, 0, fun _ => 0⟩) := rfl
  have et : (s.t : Int) + 1 = ((s.t + 1 : Nat) : Int) := by omega
  have ew : IntKind.i64.wrap ((s.t + 1 : Nat) : Int) = ((s.t + 1 : Nat) : Int) := by rw [IntKind.wrap_i64]; omega
  generalize rolS s = S at *
  generalize s.t + 1 = t1 at *
  generalize s.t = t at *
  have y1 : (t : Int) < 1000000 := by omega
  clear h
  go_enter Try.func17, Try.ntmps17
  go_wp2_with fail
  refine wp_region_last 12 mixed (by kernel_rfl) (by kernel_rfl) ?_
  dsimp only [List.take]
  iterate 10 (quiet_step (fail))
  refine wpQuiet_buildv_of 49 (build_row2 n t1) _ rfl rfl (by simp only [List.map_toArray, List.map_cons, List.map_nil]; rfl) ?_
  have r1 := rowA_size n t1
  have r2 := rowA_one n t1
  have r3 : Hid (∀ w', w'.heap[b]? = some (.cells (rowA n t1) 49 (0, 0)) → VI w' b n S) := fun w' h => by rw [HS.out]; exact VI.ofRow h
  generalize rowA n t1 = R at *
  quiet_step (fail)
  refine wpQuiet_nil ?_
  rintro _ ⟨nq, rfl⟩
  have hh : (w.drewN nq).heap[b]? = some (.cells A 49 (0, 0)) := a1
  refine wpOps_one rfl rfl (wp_store_row 49 _ _ rfl b R rfl rfl _ A hh (by rw [r1]; exact size_row) (by rw [a2, r1]) r2 ?_)
  have hr := r3.out _ (setRow_heap (w.drewN nq) b A R _ (0, 0) hh)
  have hf : Fr (· = b) w ((w.drewN nq).setRow b R) := ⟨rfl, rfl, rfl, by simp [World.setRow], fun k hk hS => by rw [setRow_other _ _ _ _ hS]; rfl⟩
  clear r3 a1 a2 c0 c1 hh
  generalize (w.drewN nq).setRow b R = W2 at *
  have HH : Hid (VI W2 b n S ∧ Fr (· = b) w W2) := ⟨hr, hf⟩
  clear hr hf
  refine wpOps_nil ?_
  go_wp2
  go_end0
  exact ⟨rfl, HH.out⟩
end

/-- A new one. -/
def newS : IV := ⟨0, 0, fun _ => 0⟩
theorem newS_ok {n : Nat} (h1 : 1 ≤ n) (h2 : n ≤ 255) : okV n newS := ⟨h1, h2, Nat.zero_le _, fun _ => Nat.zero_le _, fun _ _ => rfl⟩
set_option maxHeartbeats 1000000 in
theorem vnew_ok (n : Nat) (w : World) (h1 : 1 ≤ n) (h2 : n ≤ 255) :
    Calls Try.prog 6 #[.int .i64 (n : Int)] w fun e w' => e = .returned (.tuple #[.pointer (some ⟨w.heap.size, 0, none⟩), .int .i64 0]) ∧ VI w' w.heap.size n newS ∧ Kp w w' := by
  have y1 : (1 : Int) ≤ n := by omega
  have y2 : (n : Int) ≤ 255 := by omega
  have hb := build_row1 n
  have hx := box_row n
  have HV : Hid (VI (w.alloc (.cells (rowA n 0) 49)) w.heap.size n newS) := VI.ofRow (heap_alloc_new w _)
  generalize rowA n 0 = R at *
  go_enter Try.func6, Try.ntmps6
  go_wp2_with (first | (refine wpList_buildw_of 49 (hb _) _ rfl rfl (by simp only [List.map_toArray, List.map_cons, List.map_nil]; rfl) ?_) | (refine wpList_boxv_of 49 (hx _) _ rfl rfl rfl ?_))
  go_ret2
  exact ⟨rfl, HV.out, (Kp.refl w).alloc _⟩
set_option maxHeartbeats 1000000 in
theorem vnew_no (n : Int) (w : World) (h : ¬ (1 ≤ n ∧ n ≤ 255)) :
    Calls Try.prog 6 #[.int .i64 n] w fun e w' => e = .returned (.tuple #[.pointer none, .int .i64 1]) ∧ w' = w := by
  by_cases c1 : n < 1
  · have d1 : decide (n < 1) = true := decide_eq_true c1
    clear h
    go_enter Try.func6, Try.ntmps6
    go_wp2
    go_ret2
    exact ⟨rfl, rfl⟩
  · have d1 : decide (n < 1) = false := decide_eq_false c1
    have d2 : decide (255 < n) = true := decide_eq_true (by omega)
    clear h
    go_enter Try.func6, Try.ntmps6
    go_wp2
    go_ret2
    exact ⟨rfl, rfl⟩

end Go.Proofs.Ytclheedcdogkbaa
