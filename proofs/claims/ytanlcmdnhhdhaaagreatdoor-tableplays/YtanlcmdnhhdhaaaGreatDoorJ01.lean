/- Joined: EP, E2, E3, E4, E5. -/
import Derived.Test.YtanlcmdnhhdhaaaGreatDoorJ00
/- Permissions: like ones; one in a block of one's own. -/
namespace Go.Proofs.YtanlcmdnhhdhaaaGreatDoor
open Go.RowKit

theorem eq_perm (n : Nat) (a b c a' b' c' : Bool) (w : World) : (Op.equalIn (n + 2) 39 (.agg #[.bool a, .bool b, .bool c]) (.agg #[.bool a', .bool b', .bool c'])).run Tryz.prog w = .ok ((a == a') && (b == b') && (c == c')) w := by
  rw [run_equalIn_struct w (n + 1) _ _ _ (by kernel_rfl) (by kernel_rfl)]
  have pe : ∀ x y : Bool, (Op.equalIn (n + 1) 4 (.bool x) (.bool y)).run Tryz.prog w = .ok (x == y) w := fun x y => run_equalIn_bool w n 4 x y Tryz.underlying4
  have p0 : ∀ x y z : Bool, (part 4 #[.bool x, .bool y, .bool z] 0).run Tryz.prog w = .ok (.bool x) w := fun x y z => by simp [part, isAgg, run_underlying Tryz.underlying4]
  have p1 : ∀ x y z : Bool, (part 4 #[.bool x, .bool y, .bool z] 1).run Tryz.prog w = .ok (.bool y) w := fun x y z => by simp [part, isAgg, run_underlying Tryz.underlying4]
  have p2 : ∀ x y z : Bool, (part 4 #[.bool x, .bool y, .bool z] 2).run Tryz.prog w = .ok (.bool z) w := fun x y z => by simp [part, isAgg, run_underlying Tryz.underlying4]
  simp only [Program.fieldsOf, Tryz.underlying39, Op.eqFields]
  cases a <;> cases a' <;> cases b <;> cases b' <;> cases c <;> cases c' <;> simp [p0, p1, p2, pe]

/-- Are two permissions alike? -/
def samP (a b c a' b' c' : Bool) : Bool := (a == a') && (b == b') && (c == c')
theorem samP_eq {a b c a' b' c' : Bool} : samP a b c a' b' c' = true ↔ a = a' ∧ b = b' ∧ c = c' := by
  cases a <;> cases a' <;> cases b <;> cases b' <;> cases c <;> cases c' <;> simp [samP]
theorem eq_permP (a b c a' b' c' : Bool) (w : World) : (Op.equalIn 10000 39 (.agg #[.bool a, .bool b, .bool c]) (.agg #[.bool a', .bool b', .bool c'])).run Tryz.prog w = .ok (samP a b c a' b' c') w := eq_perm 9998 a b c a' b' c' w

/-- The permission lies in the block b. -/
def PX (w : World) (b : Nat) (r q x : Bool) : Prop := w.heap[b]? = some (.cells #[.bool r, .bool q, .bool x] 39)
section
variable {W w w' : World} {b : Nat} {r q x : Bool}
theorem PX.c0 (h : PX w b r q x) : w.cell? ⟨b, 0, none⟩ = some (.bool r) := by rw [cell_of_row _ _ 0 _ _ _ h]; rfl
theorem PX.c1 (h : PX w b r q x) : w.cell? ⟨b, 1, none⟩ = some (.bool q) := by rw [cell_of_row _ _ 1 _ _ _ h]; rfl
theorem PX.c2 (h : PX w b r q x) : w.cell? ⟨b, 2, none⟩ = some (.bool x) := by rw [cell_of_row _ _ 2 _ _ _ h]; rfl
theorem PX.lt (h : PX w b r q x) : b < w.heap.size := by
  unfold PX at h
  by_cases c : b < w.heap.size
  · exact c
  · rw [show w.heap[b]? = none from by simp; omega] at h; cases h
theorem PX.kp (h : PX w b r q x) (g : Kp w w') : PX w' b r q x := (g.block b h.lt).trans h
theorem PX.made (w : World) (r q x : Bool) : PX (w.alloc (.cells #[.bool r, .bool q, .bool x] 39)) w.heap.size r q x := heap_alloc_new w _
theorem PX.made2 (w : World) (o1 o2 : Obj) (r q x : Bool) : PX (((w.alloc o1).alloc o2).alloc (.cells #[.bool r, .bool q, .bool x] 39)) (w.heap.size + 1 + 1) r q x := by
  have h := PX.made ((w.alloc o1).alloc o2) r q x
  simpa using h
theorem PX.made1 (w : World) (o1 : Obj) (r q x : Bool) : PX ((w.alloc o1).alloc (.cells #[.bool r, .bool q, .bool x] 39)) (w.heap.size + 1) r q x := by
  have h := PX.made (w.alloc o1) r q x
  simpa using h
theorem PX.fz (h : PX w b r q x) (j : Nat) : w.frozen? ⟨b, j, none⟩ = false := frozen_of_row w b j _ _ h
/-- The world behind a store of a whole permission. -/
def putP (w : World) (b : Nat) (r q x : Bool) : World := ((w.setCell ⟨b, 0, none⟩ (.bool r)).setCell ⟨b, 1, none⟩ (.bool q)).setCell ⟨b, 2, none⟩ (.bool x)
theorem PX.put (h : PX w b r q x) (r' q' x' : Bool) : PX (putP w b r' q' x') b r' q' x' := by
  have h0 := heap_setCell_same w b 0 _ _ (.bool r') h
  have h1 := heap_setCell_same _ b 1 _ _ (.bool q') h0
  have h2 := heap_setCell_same _ b 2 _ _ (.bool x') h1
  exact h2
theorem Kp.putP (h : Kp W w) (hb : W.heap.size ≤ b) : Kp W (putP w b r q x) := ((h.set _ _ hb).set _ _ hb).set _ _ hb
theorem putP_other {c : Nat} {r' q' x' : Bool} (h : PX w c r' q' x') (hb : c ≠ b) : PX (Go.Proofs.YtanlcmdnhhdhaaaGreatDoor.putP w b r q x) c r' q' x' := by
  show (Go.Proofs.YtanlcmdnhhdhaaaGreatDoor.putP w b r q x).heap[c]? = _
  unfold Go.Proofs.YtanlcmdnhhdhaaaGreatDoor.putP
  rw [heap_setCell_other _ _ _ _ hb, heap_setCell_other _ _ _ _ hb, heap_setCell_other _ _ _ _ hb]
  exact h
theorem PX.load (h : PX w b r q x) : (loadVar 39 ⟨b, 0, none⟩).run Tryz.prog w = .ok (.agg #[.bool r, .bool q, .bool x]) w :=
  run_loadVar_row w b _ 39 _ _ _ h Tryz.underlying39 rfl (by kernel_rfl)
theorem res_p {fn : Func} {c : Tmp} {tmps : Array Value} (hf : fn.results = #[.cell c 39]) (hc : tmps.getD c undef = .pointer (some ⟨b, 0, none⟩)) (B : PX w b r q x) :
    (results fn tmps).run Tryz.prog w = .ok (.agg #[.bool r, .bool q, .bool x]) w := by
  have hc' : tmps[c]?.getD undef = .pointer (some ⟨b, 0, none⟩) := by simpa using hc
  simp [results, hf, hc', asAddr, B.load]
theorem res_p2 {fn : Func} {c t : Tmp} {tmps : Array Value} (hf : fn.results = #[.cell c 39, .tmp t]) (hc : tmps.getD c undef = .pointer (some ⟨b, 0, none⟩)) (B : PX w b r q x) :
    (results fn tmps).run Tryz.prog w = .ok (.tuple #[.agg #[.bool r, .bool q, .bool x], tmps.getD t undef]) w := by
  have hc' : tmps[c]?.getD undef = .pointer (some ⟨b, 0, none⟩) := by simpa using hc
  simp [results, hf, hc', asAddr, B.load]
end

end Go.Proofs.YtanlcmdnhhdhaaaGreatDoor

/- desc: like structs; formed; Check. -/
namespace Go.Proofs.YtanlcmdnhhdhaaaGreatDoor
open Go.RowKit

/-- A descriptor, as the program holds it. -/
theorem eq_desc (k a k' a' s s' : Int) (r q x r' q' x' : Bool) (w : World) : (Op.equalIn 10000 62 (.agg #[.int .i64 k, .int .u64 a, .bool r, .bool q, .bool x, .int .i64 s]) (.agg #[.int .i64 k', .int .u64 a', .bool r', .bool q', .bool x', .int .i64 s'])).run Tryz.prog w =
    .ok ((k == k') && (a == a') && ((r == r') && (q == q') && (x == x')) && (s == s')) w := by
  rw [show (10000 : Nat) = 9999 + 1 from rfl, run_equalIn_struct w 9999 _ _ _ (by kernel_rfl) (by kernel_rfl)]
  have pi : ∀ x y : Int, (Op.equalIn 9999 3 (.int .i64 x) (.int .i64 y)).run Tryz.prog w = .ok (x == y) w := fun x y => run_equalIn_int w 9998 3 .i64 .i64 x y Tryz.underlying3
  have pu : ∀ x y : Int, (Op.equalIn 9999 37 (.int .u64 x) (.int .u64 y)).run Tryz.prog w = .ok (x == y) w := fun x y => run_equalIn_int w 9998 37 .u64 .u64 x y Tryz.underlying37
  have pp : ∀ a b c a' b' c' : Bool, (Op.equalIn 9999 39 (.agg #[.bool a, .bool b, .bool c]) (.agg #[.bool a', .bool b', .bool c'])).run Tryz.prog w = .ok ((a == a') && (b == b') && (c == c')) w := fun a b c a' b' c' => eq_perm 9997 a b c a' b' c' w
  have h0 : ∀ (k a : Int) (r q x : Bool) (s : Int), (part 3 #[.int .i64 k, .int .u64 a, .bool r, .bool q, .bool x, .int .i64 s] 0).run Tryz.prog w = .ok (.int .i64 k) w := fun k a r q x s => by simp [part, isAgg, run_underlying Tryz.underlying3]
  have h1 : ∀ (k a : Int) (r q x : Bool) (s : Int), (part 37 #[.int .i64 k, .int .u64 a, .bool r, .bool q, .bool x, .int .i64 s] 1).run Tryz.prog w = .ok (.int .u64 a) w := fun k a r q x s => by simp [part, isAgg, run_underlying Tryz.underlying37]
  have h2 : ∀ (k a : Int) (r q x : Bool) (s : Int), (part 39 #[.int .i64 k, .int .u64 a, .bool r, .bool q, .bool x, .int .i64 s] 2).run Tryz.prog w = .ok (.agg #[.bool r, .bool q, .bool x]) w := fun k a r q x s => by
    simp [part, isAgg, run_underlying Tryz.underlying39]
  have h3 : ∀ (k a : Int) (r q x : Bool) (s : Int), (part 3 #[.int .i64 k, .int .u64 a, .bool r, .bool q, .bool x, .int .i64 s] 5).run Tryz.prog w = .ok (.int .i64 s) w := fun k a r q x s => by simp [part, isAgg, run_underlying Tryz.underlying3]
  have e0 := pi k k'
  have e1 := pu a a'
  have e2 := pp r q x r' q' x'
  have e3 := pi s s'
  clear pi pu pp
  generalize (k == k') = c0 at *
  generalize (a == a') = c1 at *
  generalize ((r == r') && (q == q') && (x == x')) = c2 at *
  generalize (s == s') = c3 at *
  simp only [Program.fieldsOf, Tryz.underlying62, Op.eqFields]
  cases c0 <;> cases c1 <;> cases c2 <;> cases c3 <;> simp [h0, h1, h2, h3, e0, e1, e2, e3]

/-- Do a descriptor's parts go with its kind, with each other and with the level? -/
def fm (l k a : Int) (r q x : Bool) (s : Int) : Bool :=
  if (q && !r) = true then false else if k = 1 then decide (l ≠ 3) && (!r && !q && !x) else if k = 2 then decide (l ≠ 0) && decide (l ≠ 3) else if k = 3 then decide (l = 3)
  else decide (k = 0) && decide (a = 0) && (!r && !q && !x) && decide (s = 0)

set_option maxHeartbeats 4000000 in
theorem formed_any (l k a : Int) (r q x : Bool) (s : Int) (w : World) :
    Calls Tryz.prog 89 #[.int .i64 l, .agg #[.int .i64 k, .int .u64 a, .bool r, .bool q, .bool x, .int .i64 s]] w fun e w' => e = .returned (.bool (fm l k a r q x s)) ∧ Kp w w' := by
  have hp : ∀ (a b c : Bool) w, (Op.equalIn 10000 39 (.agg #[.bool a, .bool b, .bool c]) (.agg #[.bool false, .bool false, .bool false])).run Tryz.prog w = .ok (!a && !b && !c) w := fun a b c w => by have := eq_perm 9998 a b c false false false w; rw [this]; cases a <;> cases b <;> cases c <;> rfl
  have hd : ∀ (k a : Int) (r q x : Bool) (s : Int) w, (Op.equalIn 10000 62 (.agg #[.int .i64 k, .int .u64 a, .bool r, .bool q, .bool x, .int .i64 s]) (.agg #[.int .i64 0, .int .u64 0, .bool false, .bool false, .bool false, .int .i64 0])).run Tryz.prog w =
    .ok (decide (k = 0) && decide (a = 0) && (!r && !q && !x) && decide (s = 0)) w := fun k a r q x s w => by have := eq_desc k a 0 0 s 0 r q x false false false w; rw [this]; cases r <;> cases q <;> cases x <;> simp <;> rfl
  by_cases hb : (q && !r) = true
  · rw [fm, if_pos hb]
    obtain ⟨rfl, rfl⟩ : q = true ∧ r = false := by cases q <;> cases r <;> simp at hb ⊢
    go_enter Tryz.func89, Tryz.ntmps89
    go_wp2
    go_ret
    exact ⟨rfl, (Kp.refl _).alloc _⟩
  have hc : (q = false ∧ (r = false ∨ r = true)) ∨ (q = true ∧ r = true) := by cases q <;> cases r <;> simp at hb ⊢
  rw [fm, if_neg hb]
  clear hb
  by_cases c1 : k = 1
  · subst c1
    rw [if_pos rfl]
    by_cases c : l = 3
    · subst c
      rw [show decide ((3 : Int) ≠ 3) = false from rfl, Bool.false_and]
      rcases hc with ⟨rfl, rfl | rfl⟩ | ⟨rfl, rfl⟩
      all_goals
        go_enter Tryz.func89, Tryz.ntmps89
        go_wp2
        go_ret
        exact ⟨rfl, (Kp.refl _).alloc _⟩
    · have d1 : (l != 3) = true := by rw [bne_iff_ne]; exact c
      rw [decide_eq_true c, Bool.true_and]
      rcases hc with ⟨rfl, rfl | rfl⟩ | ⟨rfl, rfl⟩
      all_goals
        go_enter Tryz.func89, Tryz.ntmps89
        go_wp2
        go_ret
        exact ⟨rfl, (Kp.refl _).alloc _⟩
  by_cases c2 : k = 2
  · subst c2
    rw [if_neg c1, if_pos rfl]
    by_cases c : l = 0
    · subst c
      rw [show decide ((0 : Int) ≠ 0) = false from rfl, Bool.false_and]
      rcases hc with ⟨rfl, rfl | rfl⟩ | ⟨rfl, rfl⟩
      all_goals
        go_enter Tryz.func89, Tryz.ntmps89
        go_wp2
        go_ret
        exact ⟨rfl, (Kp.refl _).alloc _⟩
    by_cases c' : l = 3
    · subst c'
      rw [show decide ((3 : Int) ≠ 3) = false from rfl, Bool.and_false]
      rcases hc with ⟨rfl, rfl | rfl⟩ | ⟨rfl, rfl⟩
      all_goals
        go_enter Tryz.func89, Tryz.ntmps89
        go_wp2
        go_ret
        exact ⟨rfl, (Kp.refl _).alloc _⟩
    · have d1 : (l != 3) = true := by rw [bne_iff_ne]; exact c'
      have d2 : (l != 0) = true := by rw [bne_iff_ne]; exact c
      rw [decide_eq_true c, decide_eq_true c', Bool.true_and]
      rcases hc with ⟨rfl, rfl | rfl⟩ | ⟨rfl, rfl⟩
      all_goals
        go_enter Tryz.func89, Tryz.ntmps89
        go_wp2
        go_ret
        exact ⟨rfl, (Kp.refl _).alloc _⟩
  by_cases c3 : k = 3
  · subst c3
    rw [if_neg c1, if_neg c2, if_pos rfl]
    by_cases c : l = 3
    · subst c
      rw [show decide ((3 : Int) = 3) = true from rfl]
      rcases hc with ⟨rfl, rfl | rfl⟩ | ⟨rfl, rfl⟩
      all_goals
        go_enter Tryz.func89, Tryz.ntmps89
        go_wp2
        go_ret
        exact ⟨rfl, (Kp.refl _).alloc _⟩
    · have c' : (l == 3) = false := by rw [beq_eq_false_iff_ne]; exact c
      rw [decide_eq_false c]
      rcases hc with ⟨rfl, rfl | rfl⟩ | ⟨rfl, rfl⟩
      all_goals
        go_enter Tryz.func89, Tryz.ntmps89
        go_wp2
        go_ret
        exact ⟨rfl, (Kp.refl _).alloc _⟩
  rw [if_neg c1, if_neg c2, if_neg c3]
  rcases hc with ⟨rfl, rfl | rfl⟩ | ⟨rfl, rfl⟩
  all_goals
    go_enter Tryz.func89, Tryz.ntmps89
    go_wp2
    go_ret
    exact ⟨by first | rfl | simp, (Kp.refl _).alloc _⟩

end Go.Proofs.YtanlcmdnhhdhaaaGreatDoor

/- desc: a descriptor in a block of one's own; Check. -/
namespace Go.Proofs.YtanlcmdnhhdhaaaGreatDoor
open Go.RowKit

/-- The descriptor lies in the block b. -/
def BX (w : World) (b : Nat) (k a : Int) (r q x : Bool) (f : Int) : Prop := w.heap[b]? = some (.cells #[.int .i64 k, .int .u64 a, .bool r, .bool q, .bool x, .int .i64 f] 62)
section
variable {w w' : World} {b : Nat} {k a : Int} {r q x : Bool} {f : Int}
theorem BX.c0 (h : BX w b k a r q x f) : w.cell? ⟨b, 0, none⟩ = some (.int .i64 k) := by rw [cell_of_row _ _ 0 _ _ _ h]; rfl
theorem BX.c1 (h : BX w b k a r q x f) : w.cell? ⟨b, 1, none⟩ = some (.int .u64 a) := by rw [cell_of_row _ _ 1 _ _ _ h]; rfl
theorem BX.c2 (h : BX w b k a r q x f) : w.cell? ⟨b, 2, none⟩ = some (.bool r) := by rw [cell_of_row _ _ 2 _ _ _ h]; rfl
theorem BX.c3 (h : BX w b k a r q x f) : w.cell? ⟨b, 3, none⟩ = some (.bool q) := by rw [cell_of_row _ _ 3 _ _ _ h]; rfl
theorem BX.c4 (h : BX w b k a r q x f) : w.cell? ⟨b, 4, none⟩ = some (.bool x) := by rw [cell_of_row _ _ 4 _ _ _ h]; rfl
theorem BX.c5 (h : BX w b k a r q x f) : w.cell? ⟨b, 5, none⟩ = some (.int .i64 f) := by rw [cell_of_row _ _ 5 _ _ _ h]; rfl
theorem BX.lt (h : BX w b k a r q x f) : b < w.heap.size := by
  unfold BX at h
  by_cases c : b < w.heap.size
  · exact c
  · rw [show w.heap[b]? = none from by simp; omega] at h; cases h
theorem BX.kp (h : BX w b k a r q x f) (g : Kp w w') : BX w' b k a r q x f := (g.block b h.lt).trans h
theorem BX.made (w : World) (k a : Int) (r q x : Bool) (f : Int) : BX (w.alloc (.cells #[.int .i64 k, .int .u64 a, .bool r, .bool q, .bool x, .int .i64 f] 62)) w.heap.size k a r q x f := heap_alloc_new w _
end

/-- What refuses a descriptor. -/
def dchk (s l k : Int) (a : Nat) (r q x : Bool) (f : Int) : Int :=
  if ¬ (isPl s l = true ∧ isKd k = true ∧ 0 ≤ f ∧ f ≤ 15) then 1 else if fm l k a r q x f = false then 4 else if topS s ≤ a then 2 else if a % unitN l k ≠ 0 then 3 else 0
theorem unit_pos {s l k : Int} (h : isPl s l = true) : 0 < unitN l k := by
  have := isPl_iff.1 h
  unfold unitN
  split
  · unfold spn; rw [if_pos (isLv_iff.2 ⟨this.2.2.1, this.2.2.2⟩)]; exact Nat.two_pow_pos _
  · decide

set_option maxHeartbeats 4000000 in
theorem dcheck_any (s l k : Int) (a : Nat) (r q x : Bool) (f : Int) (w : World) :
    Calls Tryz.prog 111 #[.int .i64 s, .int .i64 l, .agg #[.int .i64 k, .int .u64 (a : Int), .bool r, .bool q, .bool x, .int .i64 f]] w fun e w' => e = .returned (.int .i64 (dchk s l k a r q x f)) ∧ Kp w w' := by
  have c1 := isPlace_any s l
  have c2 := isKind_any k
  have c3 := formed_any l k a r q x f
  have c4 := top_any s
  have c5 := unit_any l k
  have up := @unit_pos s l k
  unfold dchk
  generalize unitN l k = un at *
  generalize topS s = tp at *
  generalize fm l k a r q x f = fo at *
  generalize isPl s l = pl at *
  generalize isKd k = kd at *
  cases pl
  · rw [if_pos (by simp)]
    go_enter Tryz.func111, Tryz.ntmps111
    go_wp2_with (first | (go_at_call 85; with_reducible refine (c1 _).mono ?_; rintro e w' ⟨rfl, rfl⟩) | (go_at_call 133; with_reducible refine (c2 _).mono ?_; rintro e w' ⟨rfl, rfl⟩))
    go_ret
    exact ⟨rfl, (Kp.refl _).alloc _⟩
  cases kd
  · rw [if_pos (by simp)]
    go_enter Tryz.func111, Tryz.ntmps111
    go_wp2_with (first | (go_at_call 85; with_reducible refine (c1 _).mono ?_; rintro e w' ⟨rfl, rfl⟩) | (go_at_call 133; with_reducible refine (c2 _).mono ?_; rintro e w' ⟨rfl, rfl⟩))
    go_ret
    exact ⟨rfl, (Kp.refl _).alloc _⟩
  by_cases h1 : f < 0
  · rw [if_pos (by omega)]
    go_enter Tryz.func111, Tryz.ntmps111
    go_wp2_with (first | (go_at_call 85; with_reducible refine (c1 _).mono ?_; rintro e w' ⟨rfl, rfl⟩) | (go_at_call 133; with_reducible refine (c2 _).mono ?_; rintro e w' ⟨rfl, rfl⟩))
    go_ret
    exact ⟨rfl, (Kp.refl _).alloc _⟩
  by_cases h2 : 15 < f
  · rw [if_pos (by omega)]
    go_enter Tryz.func111, Tryz.ntmps111
    go_wp2_with (first | (go_at_call 85; with_reducible refine (c1 _).mono ?_; rintro e w' ⟨rfl, rfl⟩) | (go_at_call 133; with_reducible refine (c2 _).mono ?_; rintro e w' ⟨rfl, rfl⟩))
    go_ret
    exact ⟨rfl, (Kp.refl _).alloc _⟩
  rw [if_neg (by simp; omega)]
  have up := up rfl
  cases fo
  · rw [if_pos rfl]
    go_enter Tryz.func111, Tryz.ntmps111
    go_wp2_with (first | (go_at_call 85; with_reducible refine (c1 _).mono ?_; rintro e w' ⟨rfl, rfl⟩) | (go_at_call 133; with_reducible refine (c2 _).mono ?_; rintro e w' ⟨rfl, rfl⟩))
    with_reducible refine (c3 _).mono ?_
    rintro e w1 ⟨rfl, K⟩
    have HK : Hid (Kp w w1) := ((Kp.refl _).alloc _).trans K
    clear K
    go_wp2
    go_ret
    exact ⟨rfl, HK.out⟩
  rw [if_neg (by decide)]
  have y0 : (0 : Int) < un := by omega
  have y1 : ¬ ((un : Nat) : Int) = 0 := by omega
  have y2 : (a : Int) % (un : Nat) = ((a % un : Nat) : Int) := by simp
  by_cases t : tp ≤ a
  · rw [if_pos t]
    have t1 : ((tp : Nat) : Int) ≤ a := by omega
    go_enter Tryz.func111, Tryz.ntmps111
    go_wp2_with (first | (go_at_call 85; with_reducible refine (c1 _).mono ?_; rintro e w' ⟨rfl, rfl⟩) | (go_at_call 133; with_reducible refine (c2 _).mono ?_; rintro e w' ⟨rfl, rfl⟩))
    with_reducible refine (c3 _).mono ?_
    rintro e w1 ⟨rfl, K⟩
    have B := (BX.made w k a r q x f).kp K
    have HK : Hid (Kp w w1) := ((Kp.refl _).alloc _).trans K
    have x0 := B.c0
    have x1 := B.c1
    clear K B
    go_wp2_with fail
    go_quiet (first | (go_at_call 46; refine Calls.quiet_of_same (c4 _)))
    go_wp2
    go_ret
    exact ⟨rfl, HK.out.drewN _⟩
  rw [if_neg t]
  have t1 : ¬ ((tp : Nat) : Int) ≤ a := by omega
  by_cases g : a % un = 0
  · rw [if_neg (by omega)]
    rw [g] at y2
    have y3 : (a : Int).tmod (un : Nat) = 0 := by rw [Int.tmod_eq_emod_of_nonneg (by omega)]; exact y2
    clear g
    go_enter Tryz.func111, Tryz.ntmps111
    go_wp2_with (first | (go_at_call 85; with_reducible refine (c1 _).mono ?_; rintro e w' ⟨rfl, rfl⟩) | (go_at_call 133; with_reducible refine (c2 _).mono ?_; rintro e w' ⟨rfl, rfl⟩))
    with_reducible refine (c3 _).mono ?_
    rintro e w1 ⟨rfl, K⟩
    have B := (BX.made w k a r q x f).kp K
    have HK : Hid (Kp w w1) := ((Kp.refl _).alloc _).trans K
    have x0 := B.c0
    have x1 := B.c1
    clear K B
    go_wp2_with fail
    go_quiet (first | (go_at_call 46; refine Calls.quiet_of_same (c4 _)))
    rename_i nq
    have z0 : (w1.drewN nq).cell? ⟨w.heap.size, 0, none⟩ = some (.int .i64 k) := x0
    have z1 : (w1.drewN nq).cell? ⟨w.heap.size, 1, none⟩ = some (.int .u64 (a : Int)) := x1
    have HK2 : Hid (Kp w (w1.drewN nq)) := HK.out.drewN nq
    clear x0 x1 HK
    generalize w1.drewN nq = w2 at *
    go_wp2_with fail
    go_quiet (first | (go_at_call 90; refine Calls.quiet_of_same (c5 _)))
    go_wp2
    go_ret
    exact ⟨rfl, HK2.out.drewN _⟩
  · rw [if_pos g]
    have y3 : (a : Int).tmod (un : Nat) = ((a % un : Nat) : Int) := by rw [Int.tmod_eq_emod_of_nonneg (by omega)]; exact y2
    have g1 : ((a % un : Nat) : Int) ≠ 0 := by omega
    have g2 : (((a % un : Nat) : Int) != 0) = true := by rw [bne_iff_ne]; exact g1
    clear y2
    generalize a % un = m at *
    go_enter Tryz.func111, Tryz.ntmps111
    go_wp2_with (first | (go_at_call 85; with_reducible refine (c1 _).mono ?_; rintro e w' ⟨rfl, rfl⟩) | (go_at_call 133; with_reducible refine (c2 _).mono ?_; rintro e w' ⟨rfl, rfl⟩))
    with_reducible refine (c3 _).mono ?_
    rintro e w1 ⟨rfl, K⟩
    have B := (BX.made w k a r q x f).kp K
    have HK : Hid (Kp w w1) := ((Kp.refl _).alloc _).trans K
    have x0 := B.c0
    have x1 := B.c1
    clear K B
    go_wp2_with fail
    go_quiet (first | (go_at_call 46; refine Calls.quiet_of_same (c4 _)))
    rename_i nq
    have z0 : (w1.drewN nq).cell? ⟨w.heap.size, 0, none⟩ = some (.int .i64 k) := x0
    have z1 : (w1.drewN nq).cell? ⟨w.heap.size, 1, none⟩ = some (.int .u64 (a : Int)) := x1
    have HK2 : Hid (Kp w (w1.drewN nq)) := HK.out.drewN nq
    clear x0 x1 HK
    generalize w1.drewN nq = w2 at *
    go_wp2_with fail
    go_quiet (first | (go_at_call 90; refine Calls.quiet_of_same (c5 _)))
    go_wp2
    go_ret
    exact ⟨rfl, HK2.out.drewN _⟩

end Go.Proofs.YtanlcmdnhhdhaaaGreatDoor

/- desc: the word of a descriptor; Encode. -/
namespace Go.Proofs.YtanlcmdnhhdhaaaGreatDoor
open Go.RowKit

theorem and_low {u M low : Nat} (hu : u < 2 ^ low) (hM : M % 2 ^ low = 2 ^ low - 1) : u &&& M = u := by
  have e : u &&& M = (u &&& M) % 2 ^ low := (Nat.mod_eq_of_lt (Nat.lt_of_le_of_lt Nat.and_le_left hu)).symm
  rw [e, Nat.and_mod_two_pow, hM, Nat.and_two_pow_sub_one_eq_mod, Nat.mod_mod, Nat.mod_eq_of_lt hu]
theorem set_low {u low n v : Nat} (hu : u < 2 ^ low) (hM : (18446744073709551615 - on n * 2 ^ low) % 2 ^ low = 2 ^ low - 1) (hv : v < 2 ^ n) : setN u low n v = u + v * 2 ^ low := by
  unfold setN
  rw [and_low hu hM, Nat.mod_eq_of_lt hv, Nat.or_comm, Nat.mul_comm, ← Nat.two_pow_add_eq_or_of_lt hu, Nat.add_comm]
theorem one_lt (b : Bool) : oneN b < 2 := by cases b <;> decide

theorem setBit_low (u i : Nat) (b : Bool) (m : Nat) (w : World) (hi : i < 64) (hu : u < 2 ^ i) (hM : (18446744073709551615 - on 1 * 2 ^ i) % 2 ^ i = 2 ^ i - 1) (hm : m = u + oneN b * 2 ^ i) :
    Calls Tryz.prog 129 #[.int .u64 (u : Int), .int .i64 (i : Int), .bool b] w fun e w' => e = .returned (.int .u64 (m : Nat)) ∧ Dr w w' := by
  have h64 : (2 : Nat) ^ i < 18446744073709551616 := Nat.lt_of_le_of_lt (Nat.pow_le_pow_right (by decide) (show i ≤ 63 by omega)) (by decide)
  have := setBit_any u i b w (by omega) hi
  rw [set_low hu hM (by have := one_lt b; omega), ← hm] at this
  exact this
theorem set_lows (u i n v : Nat) (m : Nat) (w : World) (hn : 1 ≤ n) (hi : i + n ≤ 64) (hu : u < 2 ^ i) (hM : (18446744073709551615 - on n * 2 ^ i) % 2 ^ i = 2 ^ i - 1) (hv : v < 2 ^ n) (hm : m = u + v * 2 ^ i) :
    Calls Tryz.prog 130 #[.int .u64 (u : Int), .int .i64 (i : Int), .int .i64 (n : Int), .int .u64 (v : Int)] w fun e w' => e = .returned (.int .u64 (m : Nat)) ∧ Dr w w' := by
  have h64 : (2 : Nat) ^ i < 18446744073709551616 := Nat.lt_of_le_of_lt (Nat.pow_le_pow_right (by decide) (show i ≤ 63 by omega)) (by decide)
  have h65 : (2 : Nat) ^ n ≤ 18446744073709551616 := Nat.le_trans (Nat.pow_le_pow_right (by decide) (show n ≤ 64 by omega)) (by decide)
  have := set_any u i n v w (by omega) (by omega) hn hi
  rw [set_low hu hM hv, ← hm] at this
  exact this

/-- A descriptor's word. -/
def wrd (k : Int) (a : Nat) (r q x : Bool) (f : Int) : Nat :=
  if k = 0 then 0 else 1 + 2 * oneN (k != 2) + 64 * oneN r + 128 * oneN q + 256 * oneN x + a + f.toNat * 36028797018963968
/-- What Encode tells. -/
def dencN (s l k : Int) (a : Nat) (r q x : Bool) (f : Int) : Nat := if dchk s l k a r q x f = 0 then wrd k a r q x f else 0

theorem unit_dvd {s l k : Int} (h : isPl s l = true) : 4096 ∣ unitN l k := by
  have := isPl_iff.1 h
  unfold unitN
  split
  · unfold spn
    rw [if_pos (isLv_iff.2 ⟨this.2.2.1, this.2.2.2⟩)]
    exact Nat.pow_dvd_pow 2 (m := 12) (by unfold sh; omega)
  · exact Nat.dvd_refl _
theorem chk_ok {s l k : Int} {a : Nat} {r q x : Bool} {f : Int} (h : dchk s l k a r q x f = 0) :
    isPl s l = true ∧ isKd k = true ∧ (0 ≤ f ∧ f ≤ 15) ∧ fm l k a r q x f = true ∧ a < topS s ∧ a % unitN l k = 0 := by
  unfold dchk at h
  split at h
  · cases h
  rename_i h1
  split at h
  · cases h
  rename_i h2
  split at h
  · cases h
  rename_i h3
  split at h
  · cases h
  rename_i h4
  have h1 := Decidable.not_not.1 h1
  exact ⟨h1.1, h1.2.1, h1.2.2, by simpa using h2, by omega, by omega⟩
theorem top_le (s : Int) : topS s ≤ 1099511627776 := by unfold topS; split; exact Nat.le_refl _; split <;> decide
theorem chk_addr {s l k : Int} {a : Nat} {r q x : Bool} {f : Int} (h : dchk s l k a r q x f = 0) : ∃ c, a = c * 4096 ∧ c < 268435456 := by
  obtain ⟨h1, _, _, _, h5, h6⟩ := chk_ok h
  have := Nat.dvd_trans (unit_dvd h1 (k := k)) (Nat.dvd_of_mod_eq_zero h6)
  obtain ⟨c, hc⟩ := this
  have := top_le s
  exact ⟨c, by omega, by omega⟩

set_option maxHeartbeats 4000000 in
set_option maxRecDepth 10000 in
theorem encode_any (s l k : Int) (a : Nat) (r q x : Bool) (f : Int) (w : World) :
    Calls Tryz.prog 106 #[.int .i64 s, .int .i64 l, .agg #[.int .i64 k, .int .u64 (a : Int), .bool r, .bool q, .bool x, .int .i64 f]] w fun e w' => e = .returned (.tuple #[.int .u64 (dencN s l k a r q x f : Nat), .int .i64 (dchk s l k a r q x f)]) ∧ Kp w w' := by
  have c1 := dcheck_any s l k a r q x f
  by_cases h : dchk s l k a r q x f = 0
  · rw [dencN, if_pos h, h]
    rw [h] at c1
    by_cases hk : k = 0
    · subst hk
      rw [wrd, if_pos rfl]
      clear h
      go_enter Tryz.func106, Tryz.ntmps106
      go_wp2_with fail
      with_reducible refine (c1 _).mono ?_
      rintro e w1 ⟨rfl, K⟩
      have B := (BX.made w 0 a r q x f).kp K
      have HK : Hid (Kp w w1) := ((Kp.refl _).alloc _).trans K
      have x0 := B.c0
      clear K B
      go_wp2
      go_ret2
      exact ⟨rfl, HK.out⟩
    · rw [wrd, if_neg hk]
      obtain ⟨c, ha, hc⟩ := chk_addr h
      obtain ⟨_, _, ⟨hf0, hf1⟩, _⟩ := chk_ok h
      obtain ⟨g, rfl⟩ : ∃ g : Nat, f = g := ⟨f.toNat, by omega⟩
      obtain ⟨bb, hbb⟩ : ∃ bb, (k != 2) = bb := ⟨_, rfl⟩
      rw [hbb, Int.toNat_natCast]
      have o1 := one_lt bb
      have o2 := one_lt r
      have o3 := one_lt q
      have o4 := one_lt x
      obtain ⟨n2, e2⟩ : ∃ n, n = 1 + oneN bb * 2 ^ 1 := ⟨_, rfl⟩
      obtain ⟨n3, e3⟩ : ∃ n, n = n2 + oneN r * 2 ^ 6 := ⟨_, rfl⟩
      obtain ⟨n4, e4⟩ : ∃ n, n = n3 + oneN q * 2 ^ 7 := ⟨_, rfl⟩
      obtain ⟨n5, e5⟩ : ∃ n, n = n4 + oneN x * 2 ^ 8 := ⟨_, rfl⟩
      obtain ⟨n6, e6⟩ : ∃ n, n = n5 + c * 2 ^ 12 := ⟨_, rfl⟩
      obtain ⟨n7, e7⟩ : ∃ n, n = n6 + g * 2 ^ 55 := ⟨_, rfl⟩
      have hw : IntKind.u64.wrap (c : Int) = c := by simp [IntKind.wrap, IntKind.bits, IntKind.signed]; omega
      have s1 : Aside (∀ w, Calls Tryz.prog 129 #[.int .u64 0, .int .i64 0, .bool true] w fun e w' => e = .returned (.int .u64 1) ∧ Dr w w') := fun w => setBit_low 0 0 true 1 w (by decide) (by decide) (by decide +kernel) rfl
      have s2 : Aside (∀ w, Calls Tryz.prog 129 #[.int .u64 1, .int .i64 1, .bool bb] w fun e w' => e = .returned (.int .u64 (n2 : Nat)) ∧ Dr w w') := fun w => setBit_low 1 1 bb n2 w (by decide) (by decide) (by decide +kernel) e2
      have s3 : Aside (∀ w, Calls Tryz.prog 129 #[.int .u64 (n2 : Nat), .int .i64 6, .bool r] w fun e w' => e = .returned (.int .u64 (n3 : Nat)) ∧ Dr w w') := fun w => setBit_low n2 6 r n3 w (by decide) (by omega) (by decide +kernel) e3
      have s4 : Aside (∀ w, Calls Tryz.prog 129 #[.int .u64 (n3 : Nat), .int .i64 7, .bool q] w fun e w' => e = .returned (.int .u64 (n4 : Nat)) ∧ Dr w w') := fun w => setBit_low n3 7 q n4 w (by decide) (by omega) (by decide +kernel) e4
      have s5 : Aside (∀ w, Calls Tryz.prog 129 #[.int .u64 (n4 : Nat), .int .i64 8, .bool x] w fun e w' => e = .returned (.int .u64 (n5 : Nat)) ∧ Dr w w') := fun w => setBit_low n4 8 x n5 w (by decide) (by omega) (by decide +kernel) e5
      have s6 : Aside (∀ w, Calls Tryz.prog 130 #[.int .u64 (n5 : Nat), .int .i64 12, .int .i64 36, .int .u64 (IntKind.u64.wrap (c : Nat))] w fun e w' => e = .returned (.int .u64 (n6 : Nat)) ∧ Dr w w') := fun w => by rw [hw]; exact set_lows n5 12 36 c n6 w (by decide) (by decide) (by omega) (by decide +kernel) (by omega) e6
      have s7 : Aside (∀ w, Calls Tryz.prog 130 #[.int .u64 (n6 : Nat), .int .i64 55, .int .i64 4, .int .u64 (g : Nat)] w fun e w' => e = .returned (.int .u64 (n7 : Nat)) ∧ Dr w w') := fun w => set_lows n6 55 4 g n7 w (by decide) (by decide) (by omega) (by decide +kernel) (by omega) e7
      have q7 : 1 + 2 * oneN bb + 64 * oneN r + 128 * oneN q + 256 * oneN x + a + g * 36028797018963968 = n7 := by omega
      have a1 : (a : Int) / 4096 = (c : Nat) := by omega
      have a2 : (a : Int).tdiv 4096 = (c : Nat) := by rw [Int.tdiv_eq_ediv_of_nonneg (by omega)]; exact a1
      have g1 : (g : Int) ≤ 15 := by omega
      rw [q7]
      clear hw q7 e2 e3 e4 e5 e6 e7 o1 o2 o3 o4 h ha hc hf0 hf1
      go_enter Tryz.func106, Tryz.ntmps106
      go_wp2_with fail
      with_reducible refine (c1 _).mono ?_
      rintro e w1 ⟨rfl, K⟩
      have B := (BX.made w k a r q x g).kp K
      have HK : Hid (Kp w w1) := ((Kp.refl _).alloc _).trans K
      have HB : Hid (BX w1 w.heap.size k a r q x g) := B
      have x0 := B.c0
      clear K B c1
      go_wp2_with fail
      with_reducible refine (s1.out _).mono ?_
      rintro e w2 ⟨rfl, D⟩
      have HK' : Hid (Kp w w2) := HK.out.trans D.kp
      have HB' : Hid (BX w2 w.heap.size k a r q x g) := HB.out.kp D.kp
      clear x0 HK HB D
      have HK := HK'
      have HB := HB'
      clear HK' HB'
      have xx := HB.out.c0
      go_wp2_with fail
      with_reducible refine (s2.out _).mono ?_
      rintro e w3 ⟨rfl, D⟩
      have HK' : Hid (Kp w w3) := HK.out.trans D.kp
      have HB' : Hid (BX w3 w.heap.size k a r q x g) := HB.out.kp D.kp
      clear xx HK HB D
      have HK := HK'
      have HB := HB'
      clear HK' HB'
      have xx := HB.out.c2
      go_wp2_with fail
      with_reducible refine (s3.out _).mono ?_
      rintro e w4 ⟨rfl, D⟩
      have HK' : Hid (Kp w w4) := HK.out.trans D.kp
      have HB' : Hid (BX w4 w.heap.size k a r q x g) := HB.out.kp D.kp
      clear xx HK HB D
      have HK := HK'
      have HB := HB'
      clear HK' HB'
      have xx := HB.out.c3
      go_wp2_with fail
      with_reducible refine (s4.out _).mono ?_
      rintro e w5 ⟨rfl, D⟩
      have HK' : Hid (Kp w w5) := HK.out.trans D.kp
      have HB' : Hid (BX w5 w.heap.size k a r q x g) := HB.out.kp D.kp
      clear xx HK HB D
      have HK := HK'
      have HB := HB'
      clear HK' HB'
      have xx := HB.out.c4
      go_wp2_with fail
      with_reducible refine (s5.out _).mono ?_
      rintro e w6 ⟨rfl, D⟩
      have HK' : Hid (Kp w w6) := HK.out.trans D.kp
      have HB' : Hid (BX w6 w.heap.size k a r q x g) := HB.out.kp D.kp
      clear xx HK HB D
      have HK := HK'
      have HB := HB'
      clear HK' HB'
      have xx := HB.out.c1
      go_wp2_with fail
      with_reducible refine (s6.out _).mono ?_
      rintro e w7 ⟨rfl, D⟩
      have HK' : Hid (Kp w w7) := HK.out.trans D.kp
      have HB' : Hid (BX w7 w.heap.size k a r q x g) := HB.out.kp D.kp
      clear xx HK HB D
      have HK := HK'
      have HB := HB'
      clear HK' HB'
      have xx := HB.out.c5
      go_wp2_with fail
      with_reducible refine (s7.out _).mono ?_
      rintro e w8 ⟨rfl, D⟩
      have HK' : Hid (Kp w w8) := HK.out.trans D.kp
      have HB' : Hid (BX w8 w.heap.size k a r q x g) := HB.out.kp D.kp
      clear xx HK HB D
      have HK := HK'
      have HB := HB'
      clear HK' HB'
      go_wp2_with fail
      go_ret2
      exact ⟨rfl, HK.out⟩
  · rw [dencN, if_neg h]
    generalize dchk s l k a r q x f = e at *
    have h1 : (e != 0) = true := by rw [bne_iff_ne]; exact h
    go_enter Tryz.func106, Tryz.ntmps106
    go_wp2_with fail
    with_reducible refine (c1 _).mono ?_
    rintro e w1 ⟨rfl, K⟩
    have HK : Hid (Kp w w1) := ((Kp.refl _).alloc _).trans K
    clear K
    go_wp2
    go_ret2
    exact ⟨rfl, HK.out⟩

end Go.Proofs.YtanlcmdnhhdhaaaGreatDoor

/- desc: what a word's parts say. -/
namespace Go.Proofs.YtanlcmdnhhdhaaaGreatDoor
open Go.RowKit

section
variable {W w : World} {b : Nat} {k a : Int} {r q x : Bool} {f : Int}
theorem BX.fz (h : BX w b k a r q x f) (j : Nat) : w.frozen? ⟨b, j, none⟩ = false := frozen_of_row w b j _ _ h
/-- The world behind a store of a whole descriptor. -/
def putD (w : World) (b : Nat) (k a : Int) (r q x : Bool) (f : Int) : World :=
  (((((w.setCell ⟨b, 0, none⟩ (.int .i64 k)).setCell ⟨b, 1, none⟩ (.int .u64 a)).setCell ⟨b, 2, none⟩ (.bool r)).setCell ⟨b, 3, none⟩ (.bool q)).setCell ⟨b, 4, none⟩ (.bool x)).setCell ⟨b, 5, none⟩ (.int .i64 f)
theorem BX.put (h : BX w b k a r q x f) (k' a' : Int) (r' q' x' : Bool) (f' : Int) : BX (putD w b k' a' r' q' x' f') b k' a' r' q' x' f' := by
  have h0 := heap_setCell_same w b 0 _ _ (.int .i64 k') h
  have h1 := heap_setCell_same _ b 1 _ _ (.int .u64 a') h0
  have h2 := heap_setCell_same _ b 2 _ _ (.bool r') h1
  have h3 := heap_setCell_same _ b 3 _ _ (.bool q') h2
  have h4 := heap_setCell_same _ b 4 _ _ (.bool x') h3
  have h5 := heap_setCell_same _ b 5 _ _ (.int .i64 f') h4
  exact h5
theorem Kp.putD (h : Kp W w) (hb : W.heap.size ≤ b) : Kp W (putD w b k a r q x f) :=
  (((((h.set _ _ hb).set _ _ hb).set _ _ hb).set _ _ hb).set _ _ hb).set _ _ hb
theorem putD_other {c : Nat} {k' a' : Int} {r' q' x' : Bool} {f' : Int} (h : BX w c k' a' r' q' x' f') (hb : c ≠ b) : BX (Go.Proofs.YtanlcmdnhhdhaaaGreatDoor.putD w b k a r q x f) c k' a' r' q' x' f' := by
  show (Go.Proofs.YtanlcmdnhhdhaaaGreatDoor.putD w b k a r q x f).heap[c]? = _
  unfold Go.Proofs.YtanlcmdnhhdhaaaGreatDoor.putD
  rw [heap_setCell_other _ _ _ _ hb, heap_setCell_other _ _ _ _ hb, heap_setCell_other _ _ _ _ hb, heap_setCell_other _ _ _ _ hb, heap_setCell_other _ _ _ _ hb, heap_setCell_other _ _ _ _ hb]
  exact h
theorem BX.load (h : BX w b k a r q x f) : (loadVar 62 ⟨b, 0, none⟩).run Tryz.prog w = .ok (.agg #[.int .i64 k, .int .u64 a, .bool r, .bool q, .bool x, .int .i64 f]) w :=
  run_loadVar_row w b _ 62 _ _ _ h Tryz.underlying62 rfl (by kernel_rfl)
theorem res_d {fn : Func} {c : Tmp} {tmps : Array Value} (hf : fn.results = #[.cell c 62]) (hc : tmps.getD c undef = .pointer (some ⟨b, 0, none⟩)) (B : BX w b k a r q x f) :
    (results fn tmps).run Tryz.prog w = .ok (.agg #[.int .i64 k, .int .u64 a, .bool r, .bool q, .bool x, .int .i64 f]) w := by
  have hc' : tmps[c]?.getD undef = .pointer (some ⟨b, 0, none⟩) := by simpa using hc
  simp [results, hf, hc', asAddr, B.load]
theorem res_d2 {fn : Func} {c t : Tmp} {tmps : Array Value} (hf : fn.results = #[.cell c 62, .tmp t]) (hc : tmps.getD c undef = .pointer (some ⟨b, 0, none⟩)) (B : BX w b k a r q x f) :
    (results fn tmps).run Tryz.prog w = .ok (.tuple #[.agg #[.int .i64 k, .int .u64 a, .bool r, .bool q, .bool x, .int .i64 f], tmps.getD t undef]) w := by
  have hc' : tmps[c]?.getD undef = .pointer (some ⟨b, 0, none⟩) := by simpa using hc
  simp [results, hf, hc', asAddr, B.load]
end

/-- The address that a word says. -/
def adN (u : Nat) : Nat := fieldN u 12 36 * 4096

set_option maxHeartbeats 4000000 in
theorem dparts_any (l : Int) (u : Nat) (w : World) (hu : u < 18446744073709551616) :
    Calls Tryz.prog 87 #[.int .i64 l, .int .u64 (u : Int)] w fun e w' => e = .returned (.agg #[.int .i64 (kdN l u), .int .u64 (adN u : Nat), .bool (btN u 6), .bool (btN u 7), .bool (btN u 8), .int .i64 (fieldN u 55 4 : Nat)]) ∧ Kp w w' := by
  have s1 : Aside (∀ w, Calls Tryz.prog 114 #[.int .i64 l, .int .u64 (u : Int)] w fun e w' => e = .returned (.int .i64 (kdN l u)) ∧ Dr w w') := fun w => kindOf_any l u w hu
  have s2 : Aside (∀ w, Calls Tryz.prog 82 #[.int .u64 (u : Int), .int .i64 12, .int .i64 36] w fun e w' => e = .returned (.int .u64 (fieldN u 12 36 : Nat)) ∧ Dr w w') := fun w => field_any u 12 36 w hu (by decide) (by decide)
  have s3 : Aside (∀ w, Calls Tryz.prog 86 #[.int .u64 (u : Int), .int .i64 6] w fun e w' => e = .returned (.bool (btN u 6)) ∧ Dr w w') := fun w => hasBit_any u 6 w hu (by decide)
  have s4 : Aside (∀ w, Calls Tryz.prog 86 #[.int .u64 (u : Int), .int .i64 7] w fun e w' => e = .returned (.bool (btN u 7)) ∧ Dr w w') := fun w => hasBit_any u 7 w hu (by decide)
  have s5 : Aside (∀ w, Calls Tryz.prog 86 #[.int .u64 (u : Int), .int .i64 8] w fun e w' => e = .returned (.bool (btN u 8)) ∧ Dr w w') := fun w => hasBit_any u 8 w hu (by decide)
  have s6 : Aside (∀ w, Calls Tryz.prog 82 #[.int .u64 (u : Int), .int .i64 55, .int .i64 4] w fun e w' => e = .returned (.int .u64 (fieldN u 55 4 : Nat)) ∧ Dr w w') := fun w => field_any u 55 4 w hu (by decide) (by decide)
  have l1 := field_lt u 12 36
  have l2 := field_lt u 55 4
  unfold adN
  clear hu
  generalize fieldN u 12 36 = a at *
  generalize fieldN u 55 4 = f at *
  generalize kdN l u = k at *
  generalize btN u 6 = r at *
  generalize btN u 7 = q at *
  generalize btN u 8 = x at *
  go_enter Tryz.func87, Tryz.ntmps87
  go_wp2_with fail
  with_reducible refine (s1.out _).mono ?_
  rintro e w1 ⟨rfl, D⟩
  have B1 := (BX.made w 0 0 false false false 0).kp D.kp
  have HK : Hid (Kp w w1) := ((Kp.refl _).alloc _).trans D.kp
  have HB : Hid (BX w1 w.heap.size 0 0 false false false 0) := B1
  clear D B1
  go_wp2_with fail
  with_reducible refine (s2.out _).mono ?_
  rintro e w2 ⟨rfl, D⟩
  have HK' : Hid (Kp w w2) := HK.out.trans D.kp
  have HB' : Hid (BX w2 w.heap.size 0 0 false false false 0) := HB.out.kp D.kp
  clear D HK HB
  go_wp2_with fail
  with_reducible refine (s3.out _).mono ?_
  rintro e w3 ⟨rfl, D⟩
  have HK : Hid (Kp w w3) := HK'.out.trans D.kp
  have HB : Hid (BX w3 w.heap.size 0 0 false false false 0) := HB'.out.kp D.kp
  clear D HK' HB'
  go_wp2_with fail
  with_reducible refine (s4.out _).mono ?_
  rintro e w4 ⟨rfl, D⟩
  have HK' : Hid (Kp w w4) := HK.out.trans D.kp
  have HB' : Hid (BX w4 w.heap.size 0 0 false false false 0) := HB.out.kp D.kp
  clear D HK HB
  go_wp2_with fail
  with_reducible refine (s5.out _).mono ?_
  rintro e w5 ⟨rfl, D⟩
  have HK : Hid (Kp w w5) := HK'.out.trans D.kp
  have HB : Hid (BX w5 w.heap.size 0 0 false false false 0) := HB'.out.kp D.kp
  clear D HK' HB'
  go_wp2_with fail
  with_reducible refine (s6.out _).mono ?_
  rintro e w6 ⟨rfl, D⟩
  have HK' : Hid (Kp w w6) := HK.out.trans D.kp
  have B := HB.out.kp D.kp
  have x0 := B.c0
  have x1 := B.c1
  have x2 := B.c2
  have x3 := B.c3
  have x4 := B.c4
  have x5 := B.c5
  have y0 := B.fz 0
  have y1 := B.fz 1
  have y2 := B.fz 2
  have y3 := B.fz 3
  have y4 := B.fz 4
  have y5 := B.fz 5
  have HB2 : Hid (BX w6 w.heap.size 0 0 false false false 0) := B
  have f1 : (f : Int) < 16 := by omega
  have a1 : (a : Int) < 68719476736 := by omega
  clear D B HK l1 l2
  go_wp2_with fail
  refine bodyPost_ret (res_d rfl rfl (BX.put HB2.out k (a * 4096) r q x f)) rfl ⟨?_, HK'.out.putD (Nat.le_refl _)⟩
  rw [show ((a * 4096 : Nat) : Int) = (a : Int) * 4096 from by omega]

end Go.Proofs.YtanlcmdnhhdhaaaGreatDoor
