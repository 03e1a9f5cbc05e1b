/- nested: Walk's last call of Second, in whatever order its region is walked. -/
import Derived.Test.YtclcickhgoiooaaNJ
import Derived.Test.YtclcickhgoiooaaLA
namespace Go.Proofs.Ytclcickhgoiooaa
open Go.RowKit
set_option maxRecDepth 10000

theorem ready_on {ops : Array Oper} {t : Array Bool} {k j : Nat} (h : k ∈ Region.ready .any ops t) (hd : ((ops[k]?).map fun q => q.after.any fun e => e.on == j && Region.binds .any e).getD false = true) : t.getD j false = true := by
  obtain ⟨_, q, hq, ha⟩ := mem_ready.1 h
  rw [hq] at hd
  simp only [Option.map_some, Option.getD_some] at hd
  rw [Array.any_eq_true] at hd
  obtain ⟨i, hi, h2⟩ := hd
  have he : q.after[i] ∈ q.after := Array.getElem_mem hi
  rw [Bool.and_eq_true, beq_iff_eq] at h2
  rw [← h2.1]
  exact ready_dep h hq he h2.2
theorem ready_all2 {ops : Array Oper} {t : Array Bool} (hd : ((List.range ops.size).all fun i => ((ops[i]?).map fun q => q.after.all fun e => decide (e.on < i) || !Region.binds .any e).getD true) = true) (hs : t.size = ops.size) (hr : Region.ready .any ops t = []) : ∀ i, i < ops.size → t.getD i false = true := by
  intro i
  induction i using Nat.strongRecOn with
  | _ i ih =>
    intro hi
    cases c : t.getD i false
    · have hq : ops[i]? = some ops[i] := Array.getElem?_eq_getElem hi
      have hm : i ∈ Region.ready .any ops t := by
        refine mem_ready.2 ⟨?_, _, hq, fun e he hb => ?_⟩
        · rw [Array.getD_eq_getD_getElem?, Array.getElem?_eq_getElem (by omega)] at c ⊢
          exact c
        · rw [List.all_eq_true] at hd
          have := hd i (List.mem_range.2 hi)
          rw [hq] at this
          simp only [Option.map_some, Option.getD_some, Array.all_eq_true_iff_forall_mem] at this
          have l := this e he
          rw [hb, Bool.not_true, Bool.or_false, decide_eq_true_eq] at l
          exact ih e.on l (by omega)
      rw [hr] at hm
      cases hm
    · rfl

/-! ### single operations -/
section
variable {oo : Oper} {a : Act} {w : World} {K : Act → World → Prop} {Q : Exit → Act → World → Prop} {b : Nat}
theorem op_move {y : Operand} (ho : oo.op = .move y) (h : K (a.put oo.dst (a.eval y)) w) : oo.wp Try.prog a w K Q := by
  unfold Oper.wp execOp
  simp only [ho, Sem.run_pure]
  exact h
theorem op_assign {y : Operand} (ho : oo.op = .assign y) (h : K (a.put oo.dst (a.eval y)) w) : oo.wp Try.prog a w K Q := by
  unfold Oper.wp execOp
  simp only [ho, Sem.run_pure]
  exact h
theorem op_extract {y : Operand} {vs : Array Value} {i : Nat} {v : Value} (ho : oo.op = .extract y i) (hx : a.eval y = .tuple vs) (hv : vs[i]? = some v) (h : K (a.put oo.dst v) w) : oo.wp Try.prog a w K Q := by
  unfold Oper.wp execOp
  generalize a.eval = ρ at hx ⊢
  simp [ho, hx, go_sem, hv]
  exact h
theorem op_view {y : Operand} (ho : oo.op = .fieldAddr 29 y 0) (hx : a.eval y = .pointer (some ⟨b, 0, none⟩)) (h : K (a.put oo.dst (.pointer (some ⟨b, 0, none⟩))) w) : oo.wp Try.prog a w K Q := by
  unfold Oper.wp execOp
  generalize a.eval = ρ at hx ⊢
  simp [ho, hx, go_sem]
  exact h
theorem op_word {y : Operand} {v : Value} (ho : oo.op = .load 23 y) (hx : a.eval y = .pointer (some ⟨b, 0, none⟩)) (hc : w.cell? ⟨b, 0, none⟩ = some v) (h : K (a.put oo.dst v) w) : oo.wp Try.prog a w K Q := by
  unfold Oper.wp execOp
  generalize a.eval = ρ at hx ⊢
  simp [ho, hx, go_sem, hc]
  exact h
theorem op_step {y : Operand} {s : SV} (ho : oo.op = .load 80 y) (hx : a.eval y = .pointer (some ⟨b, 0, none⟩)) (B : RX w b 80 (encS s)) (h : K (a.put oo.dst (stV s)) w) : oo.wp Try.prog a w K Q := by
  unfold Oper.wp execOp
  have e := load_step s B
  generalize a.eval = ρ at hx ⊢
  have e2 : (Instr.loadAt 80 (.pointer (some ⟨b, 0, none⟩))).run Try.prog w = .ok (stV s) w := e
  simp only [ho, hx, Sem.run_bind, e2, Result.andThen_ok, Sem.run_pure]
  exact h
theorem op_alloc (ho : oo.op = .alloc 33) (h : K (a.put oo.dst (.pointer (some ⟨w.heap.size, 0, none⟩))) (w.alloc (.cells (encO zO).toArray 33))) : oo.wp Try.prog a w K Q := by
  unfold Oper.wp execOp
  simp [ho, go_sem]
  exact h
theorem op_store_o {y z : Operand} {s s' : OV} (ho : oo.op = .store 33 y z) (hx : a.eval y = .pointer (some ⟨b, 0, none⟩)) (hz : a.eval z = ouV s) (B : RX w b 33 (encO s')) (hd : oo.dst = none) (h : K a (putR w b 0 (encO s))) : oo.wp Try.prog a w K Q := by
  unfold Oper.wp execOp
  unfold ouV at hz
  have c0 := B.cell (j := 0) rfl
  have c1 := B.cell (j := 1) rfl
  have c2 := B.cell (j := 2) rfl
  have c3 := B.cell (j := 3) rfl
  have c4 := B.cell (j := 4) rfl
  have c5 := B.cell (j := 5) rfl
  have c6 := B.cell (j := 6) rfl
  have c7 := B.cell (j := 7) rfl
  have fz := B.fz
  generalize a.eval = ρ at hx hz ⊢
  simp [ho, hx, hz, go_sem, c0, c1, c2, c3, c4, c5, c6, c7, fz, hd, Act.put]
  exact h
theorem op_store_f {y z : Operand} {s s' : FV} (ho : oo.op = .store 35 y z) (hx : a.eval y = .pointer (some ⟨b, 0, none⟩)) (hz : a.eval z = faV s) (B : RX w b 35 (encF s')) (hd : oo.dst = none) (h : K a (putR w b 0 (encF s))) : oo.wp Try.prog a w K Q := by
  unfold Oper.wp execOp
  unfold faV at hz
  have c0 := B.cell (j := 0) rfl
  have c1 := B.cell (j := 1) rfl
  have c2 := B.cell (j := 2) rfl
  have c3 := B.cell (j := 3) rfl
  have c4 := B.cell (j := 4) rfl
  have fz := B.fz
  generalize a.eval = ρ at hx hz ⊢
  simp [ho, hx, hz, go_sem, c0, c1, c2, c3, c4, fz, hd, Act.put]
  exact h
theorem op_call {g : FuncId} {fn : Func} {ys : Array Operand} {ts : Array TypeId} {vs : Array Value} {v : Value} {Φ : World → Prop} (ho : oo.op = .call { callee := .value (.func g), args := ys, argTypes := ts }) (hf : Try.prog.funcs[g]? = some fn) (hb : fn.body.isSome = true) (hn : ¬ fn.name = "runtime.NumGoroutine") (hv : ys.map a.eval = vs)
    (hc : Calls Try.prog g vs w fun e w' => e = .returned v ∧ Φ w') (h : ∀ w', Φ w' → K (a.put oo.dst v) w') : oo.wp Try.prog a w K Q := by
  obtain ⟨c, hb⟩ := Option.isSome_iff_exists.1 hb
  have e : (callFunc g vs).run Try.prog w = .ok (.enter g vs) w := by simp [callFunc, go_sem, hf, hb, hn]
  have e2 : execOp a.eval oo = callFunc g vs := by
    obtain ⟨dst, op, type, pos, after, guard⟩ := oo
    simp only at ho
    subst ho
    have e3 : execOp a.eval { dst, op := .call { callee := .value (.func g), args := ys, argTypes := ts }, type, pos, after, guard } = callFunc g (#[] ++ ys.map a.eval ++ #[]) := rfl
    rw [e3, hv]
    simp
  unfold Oper.wp
  rw [e2, e]
  refine hc.mono ?_
  rintro e w' ⟨rfl, k⟩
  exact h w' k
end

/-! ### the region -/
theorem layA_swap (a : Act) (s n : Nat) (u : Nat → Value) (k : Nat) (v : Value) (hk : k < s) : (layA a s n u).put (some k) v = layA (a.put (some k) v) s n u := by
  unfold layA Act.put
  simp only [Act.mk.injEq, and_true]
  apply Array.ext_getElem?
  intro i
  rw [Array.getElem?_setIfInBounds, lays_size, lays_get, lays_get, Array.getElem?_setIfInBounds, Array.size_setIfInBounds]
  by_cases c : k = i
  · subst c
    rw [if_pos rfl, if_pos rfl]
    have hn : ¬ (s ≤ k ∧ k < s + n ∧ k < a.tmps.size) := fun hc => Nat.not_le.2 hk hc.1
    rw [if_neg hn]
  · rw [if_neg c, if_neg c]
structure WOps (ops : Array Oper) : Prop where
  sz : ops.size = 16
  o0 : ∃ q, ops[0]? = some q ∧ q.op = .move (.tmp 0) ∧ q.dst = some 84 ∧ q.guard = none
  o1 : ∃ q, ops[1]? = some q ∧ q.op = .fieldAddr 29 (.tmp 5) 0 ∧ q.dst = some 85 ∧ q.guard = none
  o2 : ∃ q, ops[2]? = some q ∧ q.op = .load 23 (.tmp 85) ∧ q.dst = some 86 ∧ q.guard = none
  o3 : ∃ q, ops[3]? = some q ∧ q.op = .move (.tmp 2) ∧ q.dst = some 87 ∧ q.guard = none
  o4 : ∃ q, ops[4]? = some q ∧ q.op = .load 80 (.tmp 12) ∧ q.dst = some 88 ∧ q.guard = none
  o5 : ∃ q, ops[5]? = some q ∧ q.op = .call { callee := .value (.func 31), args := #[.tmp 87, .tmp 88], argTypes := #[23, 80] } ∧ q.dst = some 89 ∧ q.guard = none
  o6 : ∃ q, ops[6]? = some q ∧ q.op = .move (.tmp 3) ∧ q.dst = some 90 ∧ q.guard = none
  o7 : ∃ q, ops[7]? = some q ∧ q.op = .call { callee := .value (.func 28), args := #[.tmp 84, .tmp 86, .tmp 89, .tmp 90], argTypes := #[24, 23, 23, 3] } ∧ q.dst = some 91 ∧ q.guard = none
  o8 : ∃ q, ops[8]? = some q ∧ q.op = .move (.tmp 91) ∧ q.dst = some 83 ∧ q.guard = none
  o9 : ∃ q, ops[9]? = some q ∧ q.op = .extract (.tmp 83) 0 ∧ q.dst = some 92 ∧ q.guard = none
  o10 : ∃ q, ops[10]? = some q ∧ q.op = .extract (.tmp 83) 1 ∧ q.dst = some 93 ∧ q.guard = none
  o11 : ∃ q, ops[11]? = some q ∧ q.op = .extract (.tmp 83) 2 ∧ q.dst = some 94 ∧ q.guard = none
  o12 : ∃ q, ops[12]? = some q ∧ q.op = .alloc 33 ∧ q.dst = some 15 ∧ q.guard = none
  o13 : ∃ q, ops[13]? = some q ∧ q.op = .store 33 (.tmp 15) (.tmp 92) ∧ q.dst = none ∧ q.guard = none
  o14 : ∃ q, ops[14]? = some q ∧ q.op = .store 35 (.tmp 13) (.tmp 93) ∧ q.dst = none ∧ q.guard = none
  o15 : ∃ q, ops[15]? = some q ∧ q.op = .assign (.tmp 94) ∧ q.dst = some 16 ∧ q.guard = none
  d2x1 : ∀ t, 2 ∈ Region.ready .any ops t → t.getD 1 false = true
  d5x3 : ∀ t, 5 ∈ Region.ready .any ops t → t.getD 3 false = true
  d5x4 : ∀ t, 5 ∈ Region.ready .any ops t → t.getD 4 false = true
  d7x0 : ∀ t, 7 ∈ Region.ready .any ops t → t.getD 0 false = true
  d7x2 : ∀ t, 7 ∈ Region.ready .any ops t → t.getD 2 false = true
  d7x5 : ∀ t, 7 ∈ Region.ready .any ops t → t.getD 5 false = true
  d7x6 : ∀ t, 7 ∈ Region.ready .any ops t → t.getD 6 false = true
  d8x7 : ∀ t, 8 ∈ Region.ready .any ops t → t.getD 7 false = true
  d9x8 : ∀ t, 9 ∈ Region.ready .any ops t → t.getD 8 false = true
  d10x8 : ∀ t, 10 ∈ Region.ready .any ops t → t.getD 8 false = true
  d11x8 : ∀ t, 11 ∈ Region.ready .any ops t → t.getD 8 false = true
  d13x9 : ∀ t, 13 ∈ Region.ready .any ops t → t.getD 9 false = true
  d13x12 : ∀ t, 13 ∈ Region.ready .any ops t → t.getD 12 false = true
  d13x7 : ∀ t, 13 ∈ Region.ready .any ops t → t.getD 7 false = true
  d14x10 : ∀ t, 14 ∈ Region.ready .any ops t → t.getD 10 false = true
  d14x7 : ∀ t, 14 ∈ Region.ready .any ops t → t.getD 7 false = true
  d15x11 : ∀ t, 15 ∈ Region.ready .any ops t → t.getD 11 false = true
  all : ∀ t : Array Bool, t.size = 16 → Region.ready .any ops t = [] → ∀ i, i < 16 → t.getD i false = true
/-- The slot of an operation's value. -/
def slW (k : Nat) : Nat := if k < 8 then k + 1 else if k = 8 then 0 else k
theorem slW_lt {k : Nat} (h : k < 12) : slW k < 12 := by unfold slW; split <;> (try split) <;> omega
theorem slW_ne {i j : Nat} (hi : i < 12) (hj : j < 12) (h : j ≠ i) : slW j ≠ slW i := by unfold slW; split <;> split <;> (try split) <;> (try split) <;> omega
def vaW (p bv two u q m : Nat) (acc : Int) (s : SV) (o : OV) (f : FV) : Nat → Value
  | 0 => .pointer (some ⟨p, 0, none⟩)
  | 1 => .pointer (some ⟨bv, 0, none⟩)
  | 2 => .int .u64 (two : Int)
  | 3 => .int .u64 (u : Int)
  | 4 => stV s
  | 5 => .int .u64 (q : Int)
  | 6 => .int .i64 acc
  | 7 => .tuple #[ouV o, faV f, .int .i64 (m : Int)]
  | 8 => .tuple #[ouV o, faV f, .int .i64 (m : Int)]
  | 9 => ouV o
  | 10 => faV f
  | _ => .int .i64 (m : Int)
structure RI (w6 : World) (S : Nat → Prop) (fb : Nat) (P : World → Prop) (va : Nat → Value) (o : OV) (f f0 : FV) (m : Nat) (t : Array Bool) (x u : Nat → Value) (v : World) : Prop where
  sz : t.size = 16
  fr : Fr (fun i => S i ∨ i = fb) w6 v
  kp : t.getD 7 false = false → Kp w6 v
  mem : t.getD 7 false = true → P v
  box : t.getD 12 false = true → ∃ ob, x 0 = .pointer (some ⟨ob, 0, none⟩) ∧ w6.heap.size ≤ ob ∧ RX v ob 33 (encO (cond (t.getD 13 false) o zO))
  flt : RX v fb 35 (encF (cond (t.getD 14 false) f f0))
  val : ∀ k, k < 12 → t.getD k false = true → u (slW k) = va k
  n15 : t.getD 15 false = true → x 1 = .int .i64 (m : Int)
  m13 : t.getD 13 false = true → t.getD 12 false = true
section
variable {w6 : World} {S : Nat → Prop} {fb : Nat} {P : World → Prop} {va : Nat → Value} {o : OV} {f f0 : FV} {m : Nat} {t : Array Bool} {x u : Nat → Value} {v v' : World}
theorem set_same (t : Array Bool) {i : Nat} (h : i < t.size) : (t.setIfInBounds i true).getD i false = true := by
  rw [Array.getD_eq_getD_getElem?, Array.getElem?_setIfInBounds, if_pos rfl, if_pos h]; rfl
theorem set_other (t : Array Bool) {i j : Nat} (h : i ≠ j) : (t.setIfInBounds i true).getD j false = t.getD j false := getD_set_ne false h
/-- A value more, in a world in which all that lay lies. -/
theorem RI.more (h : RI w6 S fb P va o f f0 m t x u v) (hP : ∀ v v', P v → Kp v v' → P v') (i : Nat) (hi : i < 12) (h7 : i ≠ 7) (k : Kp v v') : RI w6 S fb P va o f f0 m (t.setIfInBounds i true) x (updV u (slW i) (va i)) v' := by
  refine ⟨by rw [Array.size_setIfInBounds]; exact h.sz, h.fr.trans (k.fr _), fun c => (h.kp (by rwa [set_other t h7] at c)).trans k, fun c => hP _ _ (h.mem (by rwa [set_other t h7] at c)) k, fun c => ?_, ?_, fun j hj c => ?_, fun c => h.n15 (by rwa [set_other t (by omega)] at c), fun c => by rw [set_other t (by omega)] at c ⊢; exact h.m13 c⟩
  · rw [set_other t (by omega)] at c
    obtain ⟨ob, b1, b2, b3⟩ := h.box c
    refine ⟨ob, b1, b2, ?_⟩
    rw [set_other t (by omega)]
    exact b3.kp k
  · rw [set_other t (by omega)]
    exact h.flt.kp k
  · unfold updV
    by_cases e : j = i
    · subst e; rw [if_pos rfl]
    · rw [set_other t (fun e' => e e'.symm)] at c
      rw [if_neg (slW_ne hi hj e)]
      exact h.val j hj c
end

set_option maxHeartbeats 4000000 in
theorem walk_last {ops : Array Oper} {id : Nat} {Q : Exit → Act → World → Prop} {a : Act} {w6 : World} (H : WOps ops) (S : Nat → Prop) (P : World → Prop) (hP : ∀ v v', P v → Fr (fun i => ¬ S i) v v' → P v') (p bv bs fb two u q m : Nat) (acc : Int) (s : SV) (o : OV) (f f0 : FV)
    (hs : a.tmps.size = 107) (e0 : a.eval (.tmp 0) = .pointer (some ⟨p, 0, none⟩)) (e5 : a.eval (.tmp 5) = .pointer (some ⟨bv, 0, none⟩)) (e2 : a.eval (.tmp 2) = .int .u64 (u : Int)) (e12 : a.eval (.tmp 12) = .pointer (some ⟨bs, 0, none⟩)) (e13 : a.eval (.tmp 13) = .pointer (some ⟨fb, 0, none⟩)) (e3 : a.eval (.tmp 3) = .int .i64 acc)
    (CV : w6.cell? ⟨bv, 0, none⟩ = some (.int .u64 (two : Int))) (hv : bv < w6.heap.size ∧ ¬ S bv ∧ bv ≠ fb) (CS : RX w6 bs 80 (encS s)) (hbs : ¬ S bs ∧ bs ≠ fb) (CF : RX w6 fb 35 (encF f0)) (hf : ¬ S fb) (hS : ∀ i, S i → i < w6.heap.size)
    (ko : ∀ v, Calls Try.prog 31 #[.int .u64 (u : Int), stV s] v fun e w' => e = .returned (.int .u64 (q : Int)) ∧ Kp v w')
    (ks : ∀ v, Kp w6 v → Calls Try.prog 28 #[.pointer (some ⟨p, 0, none⟩), .int .u64 (two : Int), .int .u64 (q : Int), .int .i64 acc] v fun e w' => e = .returned (.tuple #[ouV o, faV f, .int .i64 (m : Int)]) ∧ P w' ∧ Fr S v w')
    (done : ∀ x u v ob, x 0 = .pointer (some ⟨ob, 0, none⟩) → x 1 = .int .i64 (m : Int) → w6.heap.size ≤ ob → RX v ob 33 (encO o) → RX v fb 35 (encF f) → P v → Fr (fun i => S i ∨ i = fb) w6 v → Q .normal (layA (layA a 15 2 x) 83 12 u) v) : (Code.region id ops true).wp Try.prog Q a w6 := by
  have sz1 : ∀ x, (layA a 15 2 x).tmps.size = 107 := fun x => (lays_size 15 x a.tmps 2).trans hs
  have ev : ∀ (x u : Nat → Value) (k : Nat), k < 12 → (layA (layA a 15 2 x) 83 12 u).eval (.tmp (83 + k)) = u k := fun x u k hk => layA_in _ 83 12 k u hk (by rw [sz1]; omega)
  have ex : ∀ (x u : Nat → Value) (k : Nat), k < 2 → (layA (layA a 15 2 x) 83 12 u).eval (.tmp (15 + k)) = x k := fun x u k hk => (layA_out _ 83 12 (15 + k) u (by omega)).trans (layA_in a 15 2 k x hk (by omega))
  have el : ∀ (x u : Nat → Value) (k : Nat), k < 15 → (layA (layA a 15 2 x) 83 12 u).eval (.tmp k) = a.eval (.tmp k) := fun x u k hk => (layA_out _ 83 12 k u (by omega)).trans (layA_out a 15 2 k x (by omega))
  have pu : ∀ (x u : Nat → Value) (k : Nat) (val : Value), k < 12 → (layA (layA a 15 2 x) 83 12 u).put (some (83 + k)) val = layA (layA a 15 2 x) 83 12 (updV u k val) := fun x u k val hk => layA_put _ 83 12 k u val hk
  have px : ∀ (x u : Nat → Value) (k : Nat) (val : Value), k < 2 → (layA (layA a 15 2 x) 83 12 u).put (some (15 + k)) val = layA (layA a 15 2 (updV x k val)) 83 12 u := fun x u k val hk => by
    rw [← layA_put a 15 2 k x val hk]
    exact layA_swap _ 83 12 u (15 + k) val (by omega)
  have hPk : ∀ v v', P v → Kp v v' → P v' := fun v v' h k => hP v v' h (k.fr _)
  obtain ⟨VA, hVA⟩ : ∃ VA, VA = vaW p bv two u q m acc s o f := ⟨_, rfl⟩
  refine wp_region_inv mixed (fun listed a' v => ∃ (x u : Nat → Value), a' = layA (layA a 15 2 x) 83 12 u ∧ RI w6 S fb P VA o f f0 m listed x u v) ?_ ?_ ?_
  · refine ⟨fun k => a.eval (.tmp (15 + k)), fun k => a.eval (.tmp (83 + k)), ?_, ?_⟩
    · rw [layA_self a 15 2 (by omega), layA_self a 83 12 (by omega)]
    · have k : Kp w6 w6.drew := (Kp.refl w6).drew
      have nn : ∀ j, (Array.replicate ops.size false).getD j false = false := fun j => by
        rw [Array.getD_eq_getD_getElem?, Array.getElem?_replicate]; split <;> rfl
      refine ⟨by rw [Array.size_replicate]; exact H.sz, k.fr _, fun _ => k, (fun c => by rw [nn] at c; cases c), (fun c => by rw [nn] at c; cases c), ?_, (fun j _ c => by rw [nn] at c; cases c), (fun c => by rw [nn] at c; cases c), (fun c => by rw [nn] at c; cases c)⟩
      rw [nn]; exact CF.kp k
  · rintro t a' v i ⟨x, u', rfl, h⟩ hi
    have hlt : i < 16 := by obtain ⟨_, q, hq, _⟩ := mem_ready.1 hi; have := (Array.getElem?_eq_some_iff.1 hq).1; rw [H.sz] at this; exact this
    have hl : t.getD i true = false := (mem_ready.1 hi).1
    have mk : ∀ i, i < 12 → i ≠ 7 → ∀ v', Kp v v' → ∀ (val : Value) (d : Option Tmp), val = VA i → d = some (83 + slW i) → ∃ x2 u2, (layA (layA a 15 2 x) 83 12 u').put d val = layA (layA a 15 2 x2) 83 12 u2 ∧ RI w6 S fb P VA o f f0 m (t.setIfInBounds i true) x2 u2 v' := fun i hi h7 v' k val d hv hd =>
      ⟨x, updV u' (slW i) (VA i), by rw [hv, hd]; exact pu x u' (slW i) (VA i) (slW_lt hi), h.more hPk i hi h7 k⟩
    rcases (by omega : i = 0 ∨ i = 1 ∨ i = 2 ∨ i = 3 ∨ i = 4 ∨ i = 5 ∨ i = 6 ∨ i = 7 ∨ i = 8 ∨ i = 9 ∨ i = 10 ∨ i = 11 ∨ i = 12 ∨ i = 13 ∨ i = 14 ∨ i = 15) with rfl | rfl | rfl | rfl | rfl | rfl | rfl | rfl | rfl | rfl | rfl | rfl | rfl | rfl | rfl | rfl
    · obtain ⟨oo, hq, ho, hd, hg⟩ := H.o0
      refine wpOp_of hq hg ?_
      refine op_move ho ?_
      rw [el x u' 0 (by decide), e0]
      exact mk 0 (by decide) (by decide) v (Kp.refl v) _ _ (by rw [hVA]; rfl) hd
    · obtain ⟨oo, hq, ho, hd, hg⟩ := H.o1
      refine wpOp_of hq hg ?_
      refine op_view ho ((el x u' 5 (by decide)).trans e5) ?_
      exact mk 1 (by decide) (by decide) v (Kp.refl v) _ _ (by rw [hVA]; rfl) hd
    · obtain ⟨oo, hq, ho, hd, hg⟩ := H.o2
      refine wpOp_of hq hg ?_
      refine op_word ho ((ev x u' 2 (by decide)).trans ((h.val 1 (by decide) (H.d2x1 t hi)).trans (by rw [hVA]; rfl))) ((h.fr.cell (a := ⟨bv, 0, none⟩) hv.1 (fun c => c.elim hv.2.1 hv.2.2)).trans CV) ?_
      exact mk 2 (by decide) (by decide) v (Kp.refl v) _ _ (by rw [hVA]; rfl) hd
    · obtain ⟨oo, hq, ho, hd, hg⟩ := H.o3
      refine wpOp_of hq hg ?_
      refine op_move ho ?_
      rw [el x u' 2 (by decide), e2]
      exact mk 3 (by decide) (by decide) v (Kp.refl v) _ _ (by rw [hVA]; rfl) hd
    · obtain ⟨oo, hq, ho, hd, hg⟩ := H.o4
      refine wpOp_of hq hg ?_
      refine op_step ho ((el x u' 12 (by decide)).trans e12) (CS.fr h.fr (fun c => c.elim hbs.1 hbs.2)) ?_
      exact mk 4 (by decide) (by decide) v (Kp.refl v) _ _ (by rw [hVA]; rfl) hd
    · obtain ⟨oo, hq, ho, hd, hg⟩ := H.o5
      refine wpOp_of hq hg ?_
      refine op_call ho Try.func31 rfl (by decide) (vs := #[.int .u64 (u : Int), stV s]) (by simp only [List.map_toArray, List.map_cons, List.map_nil]; rw [(ev x u' 4 (by decide)).trans (h.val 3 (by decide) (H.d5x3 t hi)), (ev x u' 5 (by decide)).trans (h.val 4 (by decide) (H.d5x4 t hi)), hVA]; rfl) (ko v) ?_
      intro v' k
      exact mk 5 (by decide) (by decide) v' k _ _ (by rw [hVA]; rfl) hd
    · obtain ⟨oo, hq, ho, hd, hg⟩ := H.o6
      refine wpOp_of hq hg ?_
      refine op_move ho ?_
      rw [el x u' 3 (by decide), e3]
      exact mk 6 (by decide) (by decide) v (Kp.refl v) _ _ (by rw [hVA]; rfl) hd
    · obtain ⟨oo, hq, ho, hd, hg⟩ := H.o7
      refine wpOp_of hq hg ?_
      have l7 : t.getD 7 false = false := by rw [Array.getD_eq_getD_getElem?] at hl ⊢; rw [Array.getElem?_eq_getElem (by rw [h.sz]; decide)] at hl ⊢; exact hl
      refine op_call ho Try.func28 rfl (by decide) (vs := #[.pointer (some ⟨p, 0, none⟩), .int .u64 (two : Int), .int .u64 (q : Int), .int .i64 acc]) (by simp only [List.map_toArray, List.map_cons, List.map_nil]; rw [(ev x u' 1 (by decide)).trans (h.val 0 (by decide) (H.d7x0 t hi)), (ev x u' 3 (by decide)).trans (h.val 2 (by decide) (H.d7x2 t hi)), (ev x u' 6 (by decide)).trans (h.val 5 (by decide) (H.d7x5 t hi)), (ev x u' 7 (by decide)).trans (h.val 6 (by decide) (H.d7x6 t hi)), hVA]; rfl) (ks v (h.kp l7)) ?_
      rintro v' ⟨p', k⟩
      rw [hd]
      have e := pu x u' 8 (.tuple #[ouV o, faV f, .int .i64 (m : Int)]) (by decide)
      refine ⟨x, _, e, by rw [Array.size_setIfInBounds]; exact h.sz, h.fr.trans (k.mono (fun _ _ => .inl)), (fun c => by rw [set_same t (by rw [h.sz]; decide)] at c; cases c), fun _ => p', fun c => ?_, ?_, fun j hj c => ?_, fun c => h.n15 (by rwa [set_other t (by decide)] at c), fun c => by rw [set_other t (by decide)] at c ⊢; exact h.m13 c⟩
      · rw [set_other t (by decide)] at c
        obtain ⟨ob, b1, b2, b3⟩ := h.box c
        refine ⟨ob, b1, b2, ?_⟩
        rw [set_other t (by decide)]
        exact b3.fr k (fun c => by have := hS _ c; omega)
      · rw [set_other t (by decide)]
        exact h.flt.fr k hf
      · unfold updV
        by_cases e : j = 7
        · subst e; rw [hVA]; rfl
        · rw [set_other t (fun e' => e e'.symm)] at c
          rw [if_neg (show ¬ slW j = 8 from slW_ne (i := 7) (by decide) hj e)]
          exact h.val j hj c
    · obtain ⟨oo, hq, ho, hd, hg⟩ := H.o8
      refine wpOp_of hq hg ?_
      refine op_move ho ?_
      rw [(ev x u' 8 (by decide)).trans (h.val 7 (by decide) (H.d8x7 t hi))]
      exact mk 8 (by decide) (by decide) v (Kp.refl v) _ _ (by rw [hVA]; rfl) hd
    · obtain ⟨oo, hq, ho, hd, hg⟩ := H.o9
      refine wpOp_of hq hg ?_
      refine op_extract ho ((ev x u' 0 (by decide)).trans ((h.val 8 (by decide) (H.d9x8 t hi)).trans (by rw [hVA]; rfl))) rfl ?_
      exact mk 9 (by decide) (by decide) v (Kp.refl v) _ _ (by rw [hVA]; rfl) hd
    · obtain ⟨oo, hq, ho, hd, hg⟩ := H.o10
      refine wpOp_of hq hg ?_
      refine op_extract ho ((ev x u' 0 (by decide)).trans ((h.val 8 (by decide) (H.d10x8 t hi)).trans (by rw [hVA]; rfl))) rfl ?_
      exact mk 10 (by decide) (by decide) v (Kp.refl v) _ _ (by rw [hVA]; rfl) hd
    · obtain ⟨oo, hq, ho, hd, hg⟩ := H.o11
      refine wpOp_of hq hg ?_
      refine op_extract ho ((ev x u' 0 (by decide)).trans ((h.val 8 (by decide) (H.d11x8 t hi)).trans (by rw [hVA]; rfl))) rfl ?_
      exact mk 11 (by decide) (by decide) v (Kp.refl v) _ _ (by rw [hVA]; rfl) hd
    · obtain ⟨oo, hq, ho, hd, hg⟩ := H.o12
      refine wpOp_of hq hg ?_
      refine op_alloc ho ?_
      rw [hd]
      have k : Kp v (v.alloc (.cells (encO zO).toArray 33)) := (Kp.refl v).alloc _
      have l13 : t.getD 13 false = false := by
        cases c : t.getD 13 false
        · rfl
        · have l12 : t.getD 12 false = false := by rw [Array.getD_eq_getD_getElem?] at hl ⊢; rw [Array.getElem?_eq_getElem (by rw [h.sz]; decide)] at hl ⊢; exact hl
          have := h.m13 c
          rw [l12] at this; cases this
      refine ⟨_, u', px x u' 0 _ (by decide), by rw [Array.size_setIfInBounds]; exact h.sz, h.fr.trans (k.fr _), fun c => (h.kp (by rwa [set_other t (by decide)] at c)).trans k, fun c => hPk _ _ (h.mem (by rwa [set_other t (by decide)] at c)) k, fun _ => ⟨v.heap.size, rfl, h.fr.size, ?_⟩, ?_, fun j hj c => h.val j hj (by rwa [set_other t (by omega)] at c), fun c => ?_, fun _ => set_same t (by rw [h.sz]; decide)⟩
      · rw [set_other t (by decide), l13]; exact RX.made v _ _
      · rw [set_other t (by decide)]; exact h.flt.kp k
      · rw [set_other t (by decide)] at c
        exact h.n15 c
    · obtain ⟨oo, hq, ho, hd, hg⟩ := H.o13
      refine wpOp_of hq hg ?_
      obtain ⟨ob, b1, b2, b3⟩ := h.box (H.d13x12 t hi)
      refine op_store_o (s := o) ho ((ex x u' 0 (by decide)).trans b1) ((ev x u' 9 (by decide)).trans ((h.val 9 (by decide) (H.d13x9 t hi)).trans (by rw [hVA]; rfl))) b3 hd ?_
      have k := putR_fr v ob 0 (encO o)
      have l7 := H.d13x7 t hi
      have fbl := CF.lt
      refine ⟨x, u', rfl, by rw [Array.size_setIfInBounds]; exact h.sz, h.fr.trans2 k (fun i hi e => by omega), (fun c => by rw [set_other t (by decide), l7] at c; cases c), fun _ => hP _ _ (h.mem l7) (k.mono (fun i _ e c => by have := hS i c; omega)), fun _ => ⟨ob, b1, b2, ?_⟩, ?_, fun j hj c => h.val j hj (by rwa [set_other t (by omega)] at c), fun c => h.n15 (by rwa [set_other t (by decide)] at c), fun _ => by rw [set_other t (by decide)]; exact H.d13x12 t hi⟩
      · rw [set_same t (by rw [h.sz]; decide)]; exact b3.put (U := encO o) rfl
      · rw [set_other t (by decide)]; exact h.flt.fr k (by omega)
    · obtain ⟨oo, hq, ho, hd, hg⟩ := H.o14
      refine wpOp_of hq hg ?_
      refine op_store_f (s := f) ho ((el x u' 13 (by decide)).trans e13) ((ev x u' 10 (by decide)).trans ((h.val 10 (by decide) (H.d14x10 t hi)).trans (by rw [hVA]; rfl))) h.flt hd ?_
      have k := putR_fr v fb 0 (encF f)
      have l7 := H.d14x7 t hi
      have fbl := CF.lt
      refine ⟨x, u', rfl, by rw [Array.size_setIfInBounds]; exact h.sz, h.fr.trans (k.mono (fun _ _ => .inr)), (fun c => by rw [set_other t (by decide), l7] at c; cases c), fun _ => hP _ _ (h.mem l7) (k.mono (fun i _ e => e ▸ hf)), fun c => ?_, ?_, fun j hj c => h.val j hj (by rwa [set_other t (by omega)] at c), fun c => h.n15 (by rwa [set_other t (by decide)] at c), fun c => by rw [set_other t (by decide)] at c ⊢; exact h.m13 c⟩
      · rw [set_other t (by decide)] at c
        obtain ⟨ob, b1, b2, b3⟩ := h.box c
        refine ⟨ob, b1, b2, ?_⟩
        rw [set_other t (by decide)]
        exact b3.fr k (by omega)
      · rw [set_same t (by rw [h.sz]; decide)]; exact h.flt.put (U := encF f) rfl
    · obtain ⟨oo, hq, ho, hd, hg⟩ := H.o15
      refine wpOp_of hq hg ?_
      refine op_assign ho ?_
      rw [(ev x u' 11 (by decide)).trans (h.val 11 (by decide) (H.d15x11 t hi)), show VA 11 = .int .i64 (m : Int) from by rw [hVA]; rfl]
      rw [hd]
      refine ⟨_, u', px x u' 1 _ (by decide), by rw [Array.size_setIfInBounds]; exact h.sz, h.fr, fun c => h.kp (by rwa [set_other t (by decide)] at c), fun c => h.mem (by rwa [set_other t (by decide)] at c), fun c => ?_, ?_, fun j hj c => h.val j hj (by rwa [set_other t (by omega)] at c), fun _ => rfl, fun c => by rw [set_other t (by decide)] at c ⊢; exact h.m13 c⟩
      · rw [set_other t (by decide)] at c
        obtain ⟨ob, b1, b2, b3⟩ := h.box c
        refine ⟨ob, b1, b2, ?_⟩
        rw [set_other t (by decide)]
        exact b3
      · rw [set_other t (by decide)]; exact h.flt
  · rintro t a' v ⟨x, u', rfl, h⟩ hr
    have al := H.all t h.sz hr
    obtain ⟨ob, b1, b2, b3⟩ := h.box (al 12 (by decide))
    have fl := h.flt
    rw [al 13 (by decide)] at b3
    rw [al 14 (by decide)] at fl
    exact done x u' v ob b1 (h.n15 (al 15 (by decide))) b2 b3 fl (h.mem (al 7 (by decide))) h.fr

end Go.Proofs.Ytclcickhgoiooaa
