/- walk: addresses of one span go the same way. -/
import Derived.Test.YtaldekfaebkpkaaZ2
namespace Go.Proofs.Ytaldekfaebkpkaa
open Go.RowKit
set_option maxRecDepth 10000

theorem idx_same {u o i j : Nat} (h : o / 2 ^ sh (j : Int) = u / 2 ^ sh (j : Int)) (hi : i ≤ j) (hj : j ≤ 3) : idx u (i : Int) = idx o (i : Int) := by
  unfold idx
  rw [if_pos (isLv_iff.2 (by omega)), if_pos (isLv_iff.2 (by omega))]
  unfold fieldN
  have e : sh (i : Int) = sh (j : Int) + 9 * (j - i) := by unfold sh; omega
  rw [e, Nat.pow_add, ← Nat.div_div_eq_div_mul, ← Nat.div_div_eq_div_mul, h]
/-- Walks that go by the same places are the same. -/
theorem goW_same (s : Int) (u o : Nat) (rd : Nat → Nat × Bool) : ∀ n l t, (∀ i, l ≤ i → i < l + (goW s u rd n l t).2.2 → idx u (i : Int) = idx o (i : Int)) → goW s o rd n l t = goW s u rd n l t
  | 0, _, _, _ => rfl
  | n + 1, l, t, h => by
    cases ho : (rd (atN t u l)).2
    · rw [goW_stop ho] at h ⊢
      have e : atN t o l = atN t u l := by unfold atN; rw [h l (Nat.le_refl _) (by show l < l + 1; omega)]
      rw [goW_stop (by rw [e]; exact ho)]
    · by_cases hk : (dvN s l (rd (atN t u l)).1).k = 1
      · rw [goW_on ho hk] at h ⊢
        have e : atN t o l = atN t u l := by unfold atN; rw [h l (Nat.le_refl _) (by show l < l + (_ + 1); omega)]
        rw [goW_on (by rw [e]; exact ho) (by rw [e]; exact hk), e]
        rw [goW_same s u o rd n (l + 1) _ (fun i h1 h2 => h i (by omega) (by show i < l + (_ + 1); omega))]
      · rw [goW_end ho hk] at h ⊢
        have e : atN t o l = atN t u l := by unfold atN; rw [h l (Nat.le_refl _) (by show l < l + 1; omega)]
        rw [goW_end (by rw [e]; exact ho) (by rw [e]; exact hk), e]

end Go.Proofs.Ytaldekfaebkpkaa
