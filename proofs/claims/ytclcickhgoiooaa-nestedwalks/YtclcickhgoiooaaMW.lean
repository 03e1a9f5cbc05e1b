/- The words of frames, by their bytes. -/
import Derived.Test.YtclcickhgoiooaaJP
namespace Go.Proofs.Ytclcickhgoiooaa
open Go.RowKit

theorem numb_putAt (f : Nat → Nat) (p s v : Nat) : ∀ k, k ≤ s → numb (putF f p s v) p k = v % 2 ^ (8 * k)
  | 0, _ => by simp [numb, Nat.mod_one]
  | k + 1, h => by
    have ih := numb_putAt f p s v k (by omega)
    have e : putF f p s v (p + k) = v / 2 ^ (8 * k) % 256 := by
      unfold putF; rw [if_pos (by omega), show p + k - p = k by omega]
    unfold numb
    rw [ih, e, show 8 * (k + 1) = 8 * k + 8 by omega, Nat.pow_add, Nat.mod_mul, Nat.mul_comm (2 ^ (8 * k))]
/-- The words of frames. -/
def wM (B : Nat → Nat → Nat) : Nat → Nat → Nat := fun x i => numb (B x) (8 * i) 8
def updM (M : Nat → Nat → Nat) (x i v : Nat) : Nat → Nat → Nat := fun y j => if y = x ∧ j = i then v else M y j
def zerM (M : Nat → Nat → Nat) (x : Nat) : Nat → Nat → Nat := fun y j => if y = x then 0 else M y j
theorem wM_put (B : Nat → Nat → Nat) (x i v : Nat) (hv : v < 18446744073709551616) : wM (putFr B x (putF (B x) (8 * i) 8 v)) = updM (wM B) x i v := by
  funext y j
  unfold wM updM putFr
  by_cases c : y = x
  · subst c
    rw [if_pos rfl]
    by_cases c2 : j = i
    · subst c2
      rw [if_pos ⟨rfl, rfl⟩, numb_putAt _ _ _ _ _ (Nat.le_refl _)]
      exact Nat.mod_eq_of_lt hv
    · rw [if_neg (by omega)]
      refine numb_like _ _ _ _ _ fun k hk => ?_
      unfold putF
      rw [if_neg (by omega)]
  · rw [if_neg c, if_neg (by omega)]
theorem wM_zero (B : Nat → Nat → Nat) (x : Nat) : wM (putFr B x z0) = zerM (wM B) x := by
  funext y j
  unfold wM zerM putFr
  by_cases c : y = x
  · rw [if_pos c, if_pos c, numb_zero]
  · rw [if_neg c, if_neg c]
theorem chk_word {N x i : Nat} (hx : x < N) (hi : i < 512) : chkP N (x * 4096 + 8 * i) (8 : Nat) = 0 := by
  unfold chkP
  rw [if_neg (by omega), if_neg (by show ¬ (x * 4096 + 8 * i) % 8 ≠ 0; omega), if_neg (by omega)]
/-- What a memory of N frames tells of a place. -/
def rdB (N : Nat) (B : Nat → Nat → Nat) : Nat → Nat × Bool := fun a => if a % 8 = 0 ∧ a / 4096 < N then (numb (B (a / 4096)) (a % 4096) 8, true) else (0, false)
theorem rdB_at {N : Nat} {B : Nat → Nat → Nat} {x i : Nat} (hx : x < N) (hi : i < 512) : rdB N B (x * 4096 + 8 * i) = (wM B x i, true) := by
  unfold rdB wM
  rw [if_pos (by omega), show (x * 4096 + 8 * i) / 4096 = x by omega, show (x * 4096 + 8 * i) % 4096 = 8 * i by omega]

end Go.Proofs.Ytclcickhgoiooaa
