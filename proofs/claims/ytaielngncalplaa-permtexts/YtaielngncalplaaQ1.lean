/- perm: And, Allows, Judge, letters. -/
import Derived.Test.YtaielngncalplaaEP
namespace Go.Proofs.Ytaielngncalplaa
open Go.RowKit

/-- What an access asks for. -/
def alP (r q x : Bool) (c : Int) : Bool := if c = 1 then r else if c = 2 then q else if c = 3 then x else false
/-- Whose fault it is. -/
def juP (a b : Bool) : Int := if a = false then 1 else if b = false then 2 else 0

set_option maxHeartbeats 4000000 in
theorem pand_any (a b c a' b' c' : Bool) (w : World) :
    Calls Try.prog 9 #[.agg #[.bool a, .bool b, .bool c], .agg #[.bool a', .bool b', .bool c']] w fun e w' => e = .returned (.agg #[.bool (a && a'), .bool (b && b'), .bool (c && c')]) ∧ Kp w w' := by
  cases a <;> cases b <;> cases c
  all_goals
    go_enter Try.func9, Try.ntmps9
    go_wp2_with fail
    exact bodyPost_ret (res_p rfl rfl (PX.made2 w _ _ _ _ _)) rfl ⟨rfl, (((Kp.refl _).alloc _).alloc _).alloc _⟩

set_option maxHeartbeats 4000000 in
theorem pallows_any (r q x : Bool) (c : Int) (w : World) :
    Calls Try.prog 10 #[.agg #[.bool r, .bool q, .bool x], .int .i64 c] w fun e w' => e = .returned (.bool (alP r q x c)) ∧ Kp w w' := by
  unfold alP
  by_cases h1 : c = 1
  · subst h1
    rw [if_pos rfl]
    go_enter Try.func10, Try.ntmps10
    go_wp2
    go_ret
    exact ⟨rfl, (Kp.refl _).alloc _⟩
  rw [if_neg h1]
  by_cases h2 : c = 2
  · subst h2
    rw [if_pos rfl]
    go_enter Try.func10, Try.ntmps10
    go_wp2
    go_ret
    exact ⟨rfl, (Kp.refl _).alloc _⟩
  rw [if_neg h2]
  by_cases h3 : c = 3
  · subst h3
    rw [if_pos rfl]
    go_enter Try.func10, Try.ntmps10
    go_wp2
    go_ret
    exact ⟨rfl, (Kp.refl _).alloc _⟩
  rw [if_neg h3]
  go_enter Try.func10, Try.ntmps10
  go_wp2
  go_ret
  exact ⟨rfl, (Kp.refl _).alloc _⟩

set_option maxHeartbeats 4000000 in
theorem lallows_any (r q x : Bool) (c : Int) (w : World) :
    Calls Try.prog 7 #[.agg #[.bool r, .bool q, .bool x], .int .i64 c] w fun e w' => e = .returned (.bool (alP r q x c)) ∧ Kp w w' := by
  unfold alP
  by_cases h1 : c = 1
  · subst h1
    rw [if_pos rfl]
    cases r
    all_goals
      go_enter Try.func7, Try.ntmps7
      go_wp2
      go_ret
      exact ⟨rfl, (Kp.refl _).alloc _⟩
  rw [if_neg h1]
  by_cases h2 : c = 2
  · subst h2
    rw [if_pos rfl]
    cases q
    all_goals
      go_enter Try.func7, Try.ntmps7
      go_wp2
      go_ret
      exact ⟨rfl, (Kp.refl _).alloc _⟩
  rw [if_neg h2]
  by_cases h3 : c = 3
  · subst h3
    rw [if_pos rfl]
    go_enter Try.func7, Try.ntmps7
    go_wp2
    go_ret
    exact ⟨rfl, (Kp.refl _).alloc _⟩
  rw [if_neg h3]
  have d1 : (c == 1) = false := by rw [beq_eq_false_iff_ne]; exact h1
  have d2 : (c == 2) = false := by rw [beq_eq_false_iff_ne]; exact h2
  have d3 : (c == 3) = false := by rw [beq_eq_false_iff_ne]; exact h3
  go_enter Try.func7, Try.ntmps7
  go_wp2
  go_ret
  exact ⟨rfl, (Kp.refl _).alloc _⟩

theorem pletter_any (a : Bool) (c : Nat) (w : World) :
    Calls Try.prog 16 #[.bool a, .int .u8 (c : Int)] w fun e w' => e = .returned (.int .u8 ((if a then c else 45 : Nat) : Int)) ∧ w' = w := by
  cases a
  all_goals
    go_enter Try.func16, Try.ntmps16
    go_wp2
    go_ret
    exact ⟨rfl, rfl⟩

theorem lletter_any (a : Bool) (s : ByteArray) (w : World) :
    Calls Try.prog 13 #[.bool a, .string s] w fun e w' => e = .returned (.string (if a then s else ⟨#[45]⟩)) ∧ w' = w := by
  cases a
  all_goals
    go_enter Try.func13, Try.ntmps13
    go_wp2
    go_ret
    exact ⟨rfl, rfl⟩

end Go.Proofs.Ytaielngncalplaa
