/- desc: like structs; formed; Check. -/
import Derived.Test.YtcbciehffgaapaaE1
import Derived.Test.YtcbciehffgaapaaEP
namespace Go.Proofs.Ytcbciehffgaapaa
open Go.RowKit

/-- A descriptor, as the program holds it. -/
theorem eq_desc (k a k' a' s s' : Int) (r q x r' q' x' : Bool) (w : World) : (Op.equalIn 10000 48 (.agg #[.int .i64 k, .int .u64 a, .bool r, .bool q, .bool x, .int .i64 s]) (.agg #[.int .i64 k', .int .u64 a', .bool r', .bool q', .bool x', .int .i64 s'])).run Try.prog w =
    .ok ((k == k') && (a == a') && ((r == r') && (q == q') && (x == x')) && (s == s')) w := by
  rw [show (10000 : Nat) = 9999 + 1 from rfl, run_equalIn_struct w 9999 _ _ _ (by kernel_rfl) (by kernel_rfl)]
  have pi : ∀ x y : Int, (Op.equalIn 9999 3 (.int .i64 x) (.int .i64 y)).run Try.prog w = .ok (x == y) w := fun x y => run_equalIn_int w 9998 3 .i64 .i64 x y Try.underlying3
  have pu : ∀ x y : Int, (Op.equalIn 9999 22 (.int .u64 x) (.int .u64 y)).run Try.prog w = .ok (x == y) w := fun x y => run_equalIn_int w 9998 22 .u64 .u64 x y Try.underlying22
  have pp : ∀ a b c a' b' c' : Bool, (Op.equalIn 9999 46 (.agg #[.bool a, .bool b, .bool c]) (.agg #[.bool a', .bool b', .bool c'])).run Try.prog w = .ok ((a == a') && (b == b') && (c == c')) w := fun a b c a' b' c' => eq_perm 9997 a b c a' b' c' w
  have h0 : ∀ (k a : Int) (r q x : Bool) (s : Int), (part 3 #[.int .i64 k, .int .u64 a, .bool r, .bool q, .bool x, .int .i64 s] 0).run Try.prog w = .ok (.int .i64 k) w := fun k a r q x s => by simp [part, isAgg, run_underlying Try.underlying3]
  have h1 : ∀ (k a : Int) (r q x : Bool) (s : Int), (part 22 #[.int .i64 k, .int .u64 a, .bool r, .bool q, .bool x, .int .i64 s] 1).run Try.prog w = .ok (.int .u64 a) w := fun k a r q x s => by simp [part, isAgg, run_underlying Try.underlying22]
  have h2 : ∀ (k a : Int) (r q x : Bool) (s : Int), (part 46 #[.int .i64 k, .int .u64 a, .bool r, .bool q, .bool x, .int .i64 s] 2).run Try.prog w = .ok (.agg #[.bool r, .bool q, .bool x]) w := fun k a r q x s => by
    simp [part, isAgg, run_underlying Try.underlying46]
  have h3 : ∀ (k a : Int) (r q x : Bool) (s : Int), (part 3 #[.int .i64 k, .int .u64 a, .bool r, .bool q, .bool x, .int .i64 s] 5).run Try.prog w = .ok (.int .i64 s) w := fun k a r q x s => by simp [part, isAgg, run_underlying Try.underlying3]
  have e0 := pi k k'
  have e1 := pu a a'
  have e2 := pp r q x r' q' x'
  have e3 := pi s s'
  clear pi pu pp
  generalize (k == k') = c0 at *
  generalize (a == a') = c1 at *
  generalize ((r == r') && (q == q') && (x == x')) = c2 at *
  generalize (s == s') = c3 at *
  simp only [Program.fieldsOf, Try.underlying48, Op.eqFields]
  cases c0 <;> cases c1 <;> cases c2 <;> cases c3 <;> simp [h0, h1, h2, h3, e0, e1, e2, e3]

/-- Do a descriptor's parts go with its kind, with each other and with the level? -/
def fm (l k a : Int) (r q x : Bool) (s : Int) : Bool :=
  if (q && !r) = true then false else if k = 1 then decide (l ≠ 3) && (!r && !q && !x) else if k = 2 then decide (l ≠ 0) && decide (l ≠ 3) else if k = 3 then decide (l = 3)
  else decide (k = 0) && decide (a = 0) && (!r && !q && !x) && decide (s = 0)

set_option maxHeartbeats 4000000 in
theorem formed_any (l k a : Int) (r q x : Bool) (s : Int) (w : World) :
    Calls Try.prog 45 #[.int .i64 l, .agg #[.int .i64 k, .int .u64 a, .bool r, .bool q, .bool x, .int .i64 s]] w fun e w' => e = .returned (.bool (fm l k a r q x s)) ∧ Kp w w' := by
  have hp : ∀ (a b c : Bool) w, (Op.equalIn 10000 46 (.agg #[.bool a, .bool b, .bool c]) (.agg #[.bool false, .bool false, .bool false])).run Try.prog w = .ok (!a && !b && !c) w := fun a b c w => by have := eq_perm 9998 a b c false false false w; rw [this]; cases a <;> cases b <;> cases c <;> rfl
  have hd : ∀ (k a : Int) (r q x : Bool) (s : Int) w, (Op.equalIn 10000 48 (.agg #[.int .i64 k, .int .u64 a, .bool r, .bool q, .bool x, .int .i64 s]) (.agg #[.int .i64 0, .int .u64 0, .bool false, .bool false, .bool false, .int .i64 0])).run Try.prog w =
    .ok (decide (k = 0) && decide (a = 0) && (!r && !q && !x) && decide (s = 0)) w := fun k a r q x s w => by have := eq_desc k a 0 0 s 0 r q x false false false w; rw [this]; cases r <;> cases q <;> cases x <;> simp <;> rfl
  by_cases hb : (q && !r) = true
  · rw [fm, if_pos hb]
    obtain ⟨rfl, rfl⟩ : q = true ∧ r = false := by cases q <;> cases r <;> simp at hb ⊢
    go_enter Try.func45, Try.ntmps45
    go_wp2
    go_ret
    exact ⟨rfl, (Kp.refl _).alloc _⟩
  have hc : (q = false ∧ (r = false ∨ r = true)) ∨ (q = true ∧ r = true) := by cases q <;> cases r <;> simp at hb ⊢
  rw [fm, if_neg hb]
  clear hb
  by_cases c1 : k = 1
  · subst c1
    rw [if_pos rfl]
    by_cases c : l = 3
    · subst c
      rw [show decide ((3 : Int) ≠ 3) = false from rfl, Bool.false_and]
      rcases hc with ⟨rfl, rfl | rfl⟩ | ⟨rfl, rfl⟩
      all_goals
        go_enter Try.func45, Try.ntmps45
        go_wp2
        go_ret
        exact ⟨rfl, (Kp.refl _).alloc _⟩
    · have d1 : (l != 3) = true := by rw [bne_iff_ne]; exact c
      rw [decide_eq_true c, Bool.true_and]
      rcases hc with ⟨rfl, rfl | rfl⟩ | ⟨rfl, rfl⟩
      all_goals
        go_enter Try.func45, Try.ntmps45
        go_wp2
        go_ret
        exact ⟨rfl, (Kp.refl _).alloc _⟩
  by_cases c2 : k = 2
  · subst c2
    rw [if_neg c1, if_pos rfl]
    by_cases c : l = 0
    · subst c
      rw [show decide ((0 : Int) ≠ 0) = false from rfl, Bool.false_and]
      rcases hc with ⟨rfl, rfl | rfl⟩ | ⟨rfl, rfl⟩
      all_goals
        go_enter Try.func45, Try.ntmps45
        go_wp2
        go_ret
        exact ⟨rfl, (Kp.refl _).alloc _⟩
    by_cases c' : l = 3
    · subst c'
      rw [show decide ((3 : Int) ≠ 3) = false from rfl, Bool.and_false]
      rcases hc with ⟨rfl, rfl | rfl⟩ | ⟨rfl, rfl⟩
      all_goals
        go_enter Try.func45, Try.ntmps45
        go_wp2
        go_ret
        exact ⟨rfl, (Kp.refl _).alloc _⟩
    · have d1 : (l != 3) = true := by rw [bne_iff_ne]; exact c'
      have d2 : (l != 0) = true := by rw [bne_iff_ne]; exact c
      rw [decide_eq_true c, decide_eq_true c', Bool.true_and]
      rcases hc with ⟨rfl, rfl | rfl⟩ | ⟨rfl, rfl⟩
      all_goals
        go_enter Try.func45, Try.ntmps45
        go_wp2
        go_ret
        exact ⟨rfl, (Kp.refl _).alloc _⟩
  by_cases c3 : k = 3
  · subst c3
    rw [if_neg c1, if_neg c2, if_pos rfl]
    by_cases c : l = 3
    · subst c
      rw [show decide ((3 : Int) = 3) = true from rfl]
      rcases hc with ⟨rfl, rfl | rfl⟩ | ⟨rfl, rfl⟩
      all_goals
        go_enter Try.func45, Try.ntmps45
        go_wp2
        go_ret
        exact ⟨rfl, (Kp.refl _).alloc _⟩
    · have c' : (l == 3) = false := by rw [beq_eq_false_iff_ne]; exact c
      rw [decide_eq_false c]
      rcases hc with ⟨rfl, rfl | rfl⟩ | ⟨rfl, rfl⟩
      all_goals
        go_enter Try.func45, Try.ntmps45
        go_wp2
        go_ret
        exact ⟨rfl, (Kp.refl _).alloc _⟩
  rw [if_neg c1, if_neg c2, if_neg c3]
  rcases hc with ⟨rfl, rfl | rfl⟩ | ⟨rfl, rfl⟩
  all_goals
    go_enter Try.func45, Try.ntmps45
    go_wp2
    go_ret
    exact ⟨by first | rfl | simp, (Kp.refl _).alloc _⟩

end Go.Proofs.Ytcbciehffgaapaa
