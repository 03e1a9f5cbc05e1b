/- ledger: is, fits, after, moveOf, mayRelease, mayMove. -/
import Derived.Test.YtjeahpekcbogeaaNX
import Derived.Deep.WholeRow
namespace Go.Proofs.Ytjeahpekcbogeaa
open Go.RowKit

/-- Has the entry the state, and the party? -/
def isN (e : Int × Int) (st pt : Int) : Bool := decide (e.1 = st) && (decide (pt < 0) || decide (e.2 = pt))
def fitB (p : Int) (named : Bool) : Bool := if named then decide (1 ≤ p) && decide (p ≤ 255) else decide (p = 0)
def mvF : Nat → Int
  | 4 => 2 | 5 => 3 | 6 => 4 | 7 => 5 | 8 => 4 | 10 => 6 | _ => 0
def mvT : Nat → Int
  | 1 => 1 | 2 => 2 | 3 => 4 | 4 => 3 | 5 => 2 | 6 => 5 | 7 => 4 | 8 => 6 | 10 => 4 | _ => 0
def mvO : Nat → Bool
  | 5 => true | 6 => true | 7 => true | 8 => true | _ => false
def mvG : Nat → Bool
  | 3 => true | 4 => true | 6 => true | 7 => true | 10 => true | _ => false
/-- What is told of a release. -/
def relN (s q p : Int) : Int := if s = 0 ∨ s = 3 then 20 else if fitB p (decide (s = 4) || decide (s = 5)) = false then 1 else if q ≠ p then 21 else 0
/-- What is told of another move. -/
def movN (s q f : Int) (o g : Bool) (p : Int) : Int := if fitB p (o || g) = false then 1 else if s ≠ f then 20 else if o = true ∧ q ≠ p then 21 else 0

set_option maxHeartbeats 4000000 in
theorem is_any (s q st pt : Int) (w : World) :
    Calls Try.prog 27 #[.agg #[.int .i64 s, .int .i64 q], .int .i64 st, .int .i64 pt] w fun e w' => e = .returned (.bool (isN (s, q) st pt)) ∧ Kp w w' := by
  unfold isN
  by_cases h1 : s = st
  · subst h1
    by_cases h2 : pt < 0
    · rw [decide_eq_true rfl, decide_eq_true h2]
      go_enter Try.func27, Try.ntmps27
      go_wp2
      go_ret
      exact ⟨rfl, (Kp.refl _).alloc _⟩
    · by_cases h3 : q = pt
      · subst h3
        rw [decide_eq_true rfl, decide_eq_false h2, decide_eq_true rfl]
        go_enter Try.func27, Try.ntmps27
        go_wp2
        go_ret
        exact ⟨rfl, (Kp.refl _).alloc _⟩
      · rw [decide_eq_true rfl, decide_eq_false h2, decide_eq_false h3]
        have y : (q == pt) = false := by simpa using h3
        go_enter Try.func27, Try.ntmps27
        go_wp2
        go_ret
        exact ⟨rfl, (Kp.refl _).alloc _⟩
  · rw [decide_eq_false h1, Bool.false_and]
    have y : (s == st) = false := by simpa using h1
    go_enter Try.func27, Try.ntmps27
    go_wp2
    go_ret
    exact ⟨rfl, (Kp.refl _).alloc _⟩

set_option maxHeartbeats 4000000 in
theorem fits_any (p : Int) (named : Bool) (w : World) :
    Calls Try.prog 30 #[.int .i64 p, .bool named] w fun e w' => e = .returned (.bool (fitB p named)) ∧ w' = w := by
  unfold fitB
  cases named
  · rw [if_neg (by decide)]
    by_cases h : p = 0
    · subst h
      go_enter Try.func30, Try.ntmps30
      go_wp2
      go_ret
      exact ⟨rfl, rfl⟩
    · rw [decide_eq_false h]
      have y : (p == 0) = false := by simpa using h
      go_enter Try.func30, Try.ntmps30
      go_wp2
      go_ret
      exact ⟨rfl, rfl⟩
  · rw [if_pos rfl]
    by_cases h : 1 ≤ p
    · by_cases h2 : p ≤ 255
      · rw [decide_eq_true h, decide_eq_true h2]
        go_enter Try.func30, Try.ntmps30
        go_wp2
        go_ret
        exact ⟨rfl, rfl⟩
      · rw [decide_eq_true h, decide_eq_false h2]
        go_enter Try.func30, Try.ntmps30
        go_wp2
        go_ret
        exact ⟨rfl, rfl⟩
    · rw [decide_eq_false h, Bool.false_and]
      go_enter Try.func30, Try.ntmps30
      go_wp2
      go_ret
      exact ⟨rfl, rfl⟩

set_option maxHeartbeats 4000000 in
theorem after_any (f t : Int) (o g : Bool) (p : Int) (w : World) :
    Calls Try.prog 25 #[.agg #[.int .i64 f, .int .i64 t, .bool o, .bool g], .int .i64 p] w fun e w' => e = .returned (entV (t, if g then p else 0)) ∧ Kp w w' := by
  unfold entV
  cases g
  · go_enter Try.func25, Try.ntmps25
    go_wp2_with fail
    exact bodyPost_ret (res_n rfl rfl (NX.made1 w _ _ _)) rfl ⟨rfl, ((Kp.refl _).alloc _).alloc _⟩
  · go_enter Try.func25, Try.ntmps25
    go_wp2_with fail
    exact bodyPost_ret (res_n rfl rfl (NX.made1 w _ _ _)) rfl ⟨rfl, ((Kp.refl _).alloc _).alloc _⟩

/-- The move lies in the block b. -/
def VX (w : World) (b : Nat) (f t : Int) (o g : Bool) : Prop := w.heap[b]? = some (.cells #[.int .i64 f, .int .i64 t, .bool o, .bool g] 54)
theorem res_v {w : World} {b : Nat} {f t : Int} {o g : Bool} {fn : Func} {c : Tmp} {tmps : Array Value} (hf : fn.results = #[.cell c 54]) (hc : tmps.getD c undef = .pointer (some ⟨b, 0, none⟩)) (B : VX w b f t o g) :
    (results fn tmps).run Try.prog w = .ok (.agg #[.int .i64 f, .int .i64 t, .bool o, .bool g]) w := by
  have hc' : tmps[c]?.getD undef = .pointer (some ⟨b, 0, none⟩) := by simpa using hc
  have hl : (loadVar 54 ⟨b, 0, none⟩).run Try.prog w = .ok (.agg #[.int .i64 f, .int .i64 t, .bool o, .bool g]) w :=
    run_loadVar_row w b _ 54 _ _ _ B Try.underlying54 rfl (by kernel_rfl)
  simp [results, hf, hc', asAddr, hl]

section
variable {P : Program} {w : World} {ops : Array Oper} {rest : List Oper} {o : Oper} {a : Act} {Q : Exit → Act → World → Prop}
theorem wpList_buildv_of {v : Value} {vs : Array (Nat × Value)} (t : TypeId) (hr : (Instr.build t vs).run P w = .ok v w) (ps : Array (Nat × Operand)) (hg : o.guard = none) (ho : o.op = .build t ps) (hx : (ps.map fun (i, x) => (i, a.eval x)) = vs) (h : wpList P ops Q rest (a.put o.dst v) w) : wpList P ops Q (o :: rest) a w := by
  refine wpList_plain hg fun K hK => ?_
  subst hx
  unfold Oper.wp execOp
  simp only [ho, Sem.run_bind, hr, Result.andThen_ok, Sem.run_pure]
  exact hK _ _ h
theorem wpList_allocv_of {v : Value} {w' : World} (t : TypeId) (hr : (Instr.alloc t true (.tuple #[])).run P w = .ok v w') (hg : o.guard = none) (ho : o.op = .alloc t) (h : wpList P ops Q rest (a.put o.dst v) w') : wpList P ops Q (o :: rest) a w := by
  refine wpList_plain hg fun K hK => ?_
  unfold Oper.wp execOp
  simp only [ho, Sem.run_bind, hr, Result.andThen_ok, Sem.run_pure]
  exact hK _ _ h
theorem wpList_storev_of {va vx : Value} {w' : World} (t : TypeId) (hr : (Instr.storeAt t va vx).run P w = .ok () w') (x y : Operand) (hg : o.guard = none) (ho : o.op = .store t x y) (hx : a.eval x = va) (hy : a.eval y = vx) (h : wpList P ops Q rest (a.put o.dst undef) w') : wpList P ops Q (o :: rest) a w := by
  refine wpList_plain hg fun K hK => ?_
  unfold Oper.wp execOp
  simp only [ho, hx, hy, Sem.run_bind, hr, Result.andThen_ok, Sem.run_pure]
  exact hK _ _ h
end

/-- The moves as cells. -/
def mvA : Array Value := #[.int .i64 0, .int .i64 0, .bool false, .bool false, .int .i64 0, .int .i64 1, .bool false, .bool false, .int .i64 0, .int .i64 2, .bool false, .bool false, .int .i64 0, .int .i64 4, .bool false, .bool true, .int .i64 2, .int .i64 3, .bool false, .bool true, .int .i64 3, .int .i64 2, .bool true, .bool false, .int .i64 4, .int .i64 5, .bool true, .bool true, .int .i64 5, .int .i64 4, .bool true, .bool true, .int .i64 4, .int .i64 6, .bool true, .bool false, .int .i64 0, .int .i64 0, .bool false, .bool false, .int .i64 6, .int .i64 4, .bool false, .bool true]
def mvZ : Array Value := #[.int .i64 0, .int .i64 0, .bool false, .bool false, .int .i64 0, .int .i64 0, .bool false, .bool false, .int .i64 0, .int .i64 0, .bool false, .bool false, .int .i64 0, .int .i64 0, .bool false, .bool false, .int .i64 0, .int .i64 0, .bool false, .bool false, .int .i64 0, .int .i64 0, .bool false, .bool false, .int .i64 0, .int .i64 0, .bool false, .bool false, .int .i64 0, .int .i64 0, .bool false, .bool false, .int .i64 0, .int .i64 0, .bool false, .bool false, .int .i64 0, .int .i64 0, .bool false, .bool false, .int .i64 0, .int .i64 0, .bool false, .bool false]
theorem build_mv (w : World) : (Instr.build 65 #[(1, .agg #[.int .i64 0, .int .i64 1, .bool false, .bool false]), (2, .agg #[.int .i64 0, .int .i64 2, .bool false, .bool false]), (3, .agg #[.int .i64 0, .int .i64 4, .bool false, .bool true]), (4, .agg #[.int .i64 2, .int .i64 3, .bool false, .bool true]), (5, .agg #[.int .i64 3, .int .i64 2, .bool true, .bool false]), (6, .agg #[.int .i64 4, .int .i64 5, .bool true, .bool true]), (7, .agg #[.int .i64 5, .int .i64 4, .bool true, .bool true]), (8, .agg #[.int .i64 4, .int .i64 6, .bool true, .bool false]), (9, .agg #[.int .i64 0, .int .i64 0, .bool false, .bool false]), (10, .agg #[.int .i64 6, .int .i64 4, .bool false, .bool true])]).run Try.prog w = .ok (.agg mvA) w := by kernel_rfl
theorem alloc_mv (w : World) : (Instr.alloc 65 true (.tuple #[])).run Try.prog w = .ok (.pointer (some ⟨w.heap.size, 0, none⟩)) (w.alloc (.cells mvZ 65)) := by
  have hz : ∀ w, (zeroValue 65).run Try.prog w = .ok (.agg mvZ) w := fun w => by kernel_rfl
  unfold Instr.alloc
  simp only [Sem.run_bind, hz, Result.andThen_ok]
  rfl
theorem store_mv (w : World) : (Instr.storeAt 65 (.pointer (some ⟨w.heap.size, 0, none⟩)) (.agg mvA)).run Try.prog (w.alloc (.cells mvZ 65)) = .ok () (w.alloc (.cells mvA 65)) :=
  run_storeAt_new w _ _ _ (by kernel_rfl) (by kernel_rfl) (by kernel_rfl)
theorem cell_mv (w : World) (i : Nat) : (w.alloc (.cells mvA 65)).cell? ⟨w.heap.size, i, none⟩ = mvA[i]? := cell_of_row _ _ i _ _ _ (heap_alloc_new w _)

theorem mvA_at (a : Nat) (h2 : a ≤ 10) : mvA[a * 4]? = some (.int .i64 (mvF a)) ∧ mvA[a * 4 + 1]? = some (.int .i64 (mvT a)) ∧ mvA[a * 4 + 2]? = some (.bool (mvO a)) ∧ mvA[a * 4 + 3]? = some (.bool (mvG a)) := by
  have h : a = 0 ∨ a = 1 ∨ a = 2 ∨ a = 3 ∨ a = 4 ∨ a = 5 ∨ a = 6 ∨ a = 7 ∨ a = 8 ∨ a = 9 ∨ a = 10 := by omega
  rcases h with rfl | rfl | rfl | rfl | rfl | rfl | rfl | rfl | rfl | rfl | rfl <;> exact ⟨rfl, rfl, rfl, rfl⟩
theorem VX.made0 (w : World) (o1 : Obj) (f t : Int) (o g : Bool) : VX ((w.alloc (.cells #[.int .i64 f, .int .i64 t, .bool o, .bool g] 54)).alloc o1) w.heap.size f t o g :=
  (((Kp.refl (w.alloc (.cells #[.int .i64 f, .int .i64 t, .bool o, .bool g] 54))).alloc o1).block _ (by simp)).trans (heap_alloc_new w _)

set_option maxHeartbeats 4000000 in
theorem moveOf_any (a : Nat) (h2 : a ≤ 10) (w : World) :
    Calls Try.prog 22 #[.int .i64 (a : Int)] w fun e w' => e = .returned (.agg #[.int .i64 (mvF a), .int .i64 (mvT a), .bool (mvO a), .bool (mvG a)]) ∧ Kp w w' := by
  obtain ⟨g0, g1, g2, g3⟩ := mvA_at a h2
  have b1 := build_mv
  have a1 := alloc_mv
  have s1 := store_mv
  have y1 : (a : Int) < 11 := by omega
  generalize mvF a = f at *
  generalize mvT a = t at *
  generalize mvO a = o at *
  generalize mvG a = g at *
  go_enter Try.func22, Try.ntmps22
  go_wp2_with (first | (with_reducible refine wpList_buildv_of 65 (b1 _) _ rfl rfl rfl ?_) | (with_reducible refine wpList_allocv_of 65 (a1 _) rfl rfl ?_) | (with_reducible refine wpList_storev_of 65 (s1 _) _ _ rfl rfl rfl rfl ?_))
  exact bodyPost_ret (res_v rfl rfl (VX.made0 w _ _ _ _ _)) rfl ⟨rfl, ((Kp.refl _).alloc _).alloc _⟩

end Go.Proofs.Ytjeahpekcbogeaa
