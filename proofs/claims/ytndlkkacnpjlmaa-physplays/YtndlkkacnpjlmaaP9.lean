/- PhysKeeps: numbers in a page that was written; the loop over a word's parts. -/
import Derived.Test.YtndlkkacnpjlmaaP8
namespace Go.Proofs.Ytndlkkacnpjlmaa
open Go.RowKit Go.Maps

theorem and_lim (n : Int) (M : Nat) (hM : M < 9223372036854775808) : ∃ m : Nat, bits .and .i64 n (M : Int) = (m : Int) ∧ m ≤ M := by
  have h1 : (BitVec.ofInt 64 n &&& BitVec.ofInt 64 (M : Int)).toNat ≤ M := by
    rw [BitVec.toNat_and]
    refine Nat.le_trans Nat.and_le_right ?_
    rw [BitVec.toNat_ofInt]
    omega
  refine ⟨_, ?_, h1⟩
  show IntKind.i64.wrap ((BitVec.ofInt 64 n &&& BitVec.ofInt 64 (M : Int)).toNat : Nat) = _
  rw [IntKind.wrap_i64]
  omega

/-- A number out of the bytes that a number was laid into. -/
theorem numb_in (f : Nat → Nat) (p n v q : Nat) (hq : p ≤ q) : ∀ k, q + k ≤ p + n → numb (putF f p n v) q k = v / 2 ^ (8 * (q - p)) % 2 ^ (8 * k)
  | 0, _ => by simp [numb, Nat.mod_one]
  | k + 1, h => by
    unfold numb
    rw [numb_in f p n v q hq k (by omega)]
    have e : putF f p n v (q + k) = v / 2 ^ (8 * (q - p)) / 2 ^ (8 * k) % 256 := by
      unfold putF
      rw [if_pos (by omega), show q + k - p = (q - p) + k by omega, Nat.mul_add, Nat.pow_add, Nat.div_div_eq_div_mul]
    rw [e]
    generalize v / 2 ^ (8 * (q - p)) = u
    rw [show 8 * (k + 1) = 8 * k + 8 by omega, Nat.pow_add, Nat.mod_mul, Nat.mul_comm (2 ^ (8 * k))]
theorem numb_whole (f : Nat → Nat) (p v : Nat) (h : v < 18446744073709551616) : numb (putF f p 8 v) p 8 = v := by
  rw [numb_in f p 8 v p (Nat.le_refl _) 8 (Nat.le_refl _), Nat.sub_self, Nat.mul_zero, Nat.pow_zero, Nat.div_one, Nat.mod_eq_of_lt]
  exact h

/-- One part more of a word. -/
theorem part_step (v r s : Nat) : v / 2 ^ (8 * (r + s)) * 2 ^ (8 * s) + v / 2 ^ (8 * r) % 2 ^ (8 * s) = v / 2 ^ (8 * r) := by
  rw [Nat.mul_add, Nat.pow_add, ← Nat.div_div_eq_div_mul]
  have := Nat.div_add_mod (v / 2 ^ (8 * r)) (2 ^ (8 * s))
  rw [Nat.mul_comm] at this
  exact this
theorem part_or (v r s : Nat) (hv : v < 18446744073709551616) : v / 2 ^ (8 * (r + s)) * 2 ^ (8 * s) < 18446744073709551616 ∧ bits .or .u64 ((v / 2 ^ (8 * (r + s)) * 2 ^ (8 * s) : Nat) : Int) ((v / 2 ^ (8 * r) % 2 ^ (8 * s) : Nat) : Int) = ((v / 2 ^ (8 * r) : Nat) : Int) := by
  have h1 := part_step v r s
  have h2 : v / 2 ^ (8 * r) < 18446744073709551616 := Nat.lt_of_le_of_lt (Nat.div_le_self _ _) hv
  have h3 : v / 2 ^ (8 * r) % 2 ^ (8 * s) < 2 ^ (8 * s) := Nat.mod_lt _ (Nat.two_pow_pos _)
  refine ⟨by omega, ?_⟩
  rw [u64_or_nat _ _ (by omega) (by omega)]
  have := Nat.shiftLeft_add_eq_or_of_lt h3 (v / 2 ^ (8 * (r + s)))
  rw [Nat.shiftLeft_eq] at this
  rw [← this, h1]

theorem putF_zero_iff (p v : Nat) (hp : p + 8 ≤ 4096) (hv : v < 18446744073709551616) : alike (putF z0 p 8 v) z0 4096 = decide (v = 0) := by
  by_cases e : v = 0
  · subst e
    rw [decide_eq_true rfl]
    refine alike_of (fun i _ => ?_)
    unfold putF
    split
    · rw [Nat.zero_div]; rfl
    · rfl
  · rw [decide_eq_false e]
    cases ha : alike (putF z0 p 8 v) z0 4096
    · rfl
    · have h := (alike_iff _ _ _).1 ha
      have h2 := numb_whole z0 p v hv
      rw [numb_like (putF z0 p 8 v) z0 p p 8 (fun i hi => h (p + i) (by omega)), numb_zero] at h2
      exact absurd h2.symm e

end Go.Proofs.Ytndlkkacnpjlmaa
