/- tlb: what is left of a list when lines are lost. -/
import Derived.Test.YtclcickhgoiooaaT8
import Derived.Test.YtclcickhgoiooaaT10
namespace Go.Proofs.Ytclcickhgoiooaa
open Go.RowKit

theorem lsT_los (T : Nat → PC) (P : LN → Bool) (N : Nat) : ∀ n, n ≤ N → lsT (losT T P N) n = (lsT T n).filter (fun l => !P l)
  | 0, _ => rfl
  | n + 1, h => by
    have ih := lsT_los T P N n (by omega)
    cases hon : (T n).on
    · have e1 : losT T P N n = T n := if_neg (by rw [hon]; simp)
      rw [lsT_off hon, lsT_off (by rw [e1]; exact hon), ih]
    · cases hp : P (T n).l
      · have e1 : losT T P N n = T n := if_neg (by rw [hp]; simp)
        rw [lsT_on hon, lsT_on (by rw [e1]; exact hon), ih, e1, List.filter_append]
        simp [hp]
      · have e1 : losT T P N n = zP := if_pos ⟨by omega, by rw [hon, hp]; rfl⟩
        rw [lsT_on hon, lsT_off (by rw [e1]; rfl), ih, List.filter_append]
        simp [hp]
theorem los_len (T : Nat → PC) (P : LN → Bool) : ∀ n, losN T P n + ((lsT T n).filter (fun l => !P l)).length = (lsT T n).length
  | 0 => rfl
  | n + 1 => by
    have ih := los_len T P n
    unfold losN
    cases hon : (T n).on
    · rw [lsT_off hon, if_neg (by simp), Nat.add_zero, ih]
    · rw [lsT_on hon, List.filter_append, List.length_append, List.length_append]
      cases hp : P (T n).l
      · rw [if_neg (by simp)]
        simp [hp]
        omega
      · rw [if_pos (by simp)]
        simp [hp]
        omega

/-- Which lines are lost, by a kind from 0 to 3. -/
def prB (q : Int) (m : LN) : LN → Bool := if q = 0 then suB true false false false false m else if q = 1 then suB true true false false false m else if q = 2 then suB true false false true false m else suB false false false false true m

end Go.Proofs.Ytclcickhgoiooaa
