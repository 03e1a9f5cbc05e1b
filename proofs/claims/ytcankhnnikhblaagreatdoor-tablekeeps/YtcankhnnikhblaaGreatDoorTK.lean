/- What Take finds, by reckoning. -/
import Derived.Test.YtcankhnnikhblaaGreatDoorJV
namespace Go.Proofs.YtcankhnnikhblaaGreatDoor
open Go.RowKit

theorem dom_idx {F : Nat → Bool} {hi a j : Nat} (dom : ∀ k, F k = true → k < hi) (h : Rn F a j) : j < hi := by
  have h1 := dom _ (h.1 _ (rep j a))
  have := Nat.le_mul_of_pos_right j (Nat.two_pow_pos a)
  omega
def tkB (F : Nat → Bool) (hi o o' i : Nat) : Bool := decide (o ≤ o' ∧ o' ≤ 9) && rn F o' i && (List.range o').all (fun a => decide (a < o) || (List.range hi).all (fun j => !rn F a j)) && (List.range i).all (fun j => !rn F o' j)
theorem tk_of {F : Nat → Bool} {hi o o' i : Nat} (dom : ∀ k, F k = true → k < hi) (h : tkB F hi o o' i = true) : Tk F o o' i := by
  unfold tkB at h
  simp only [Bool.and_eq_true, decide_eq_true_eq] at h
  obtain ⟨⟨⟨h1, h2⟩, h3⟩, h4⟩ := h
  refine ⟨h1.1, h1.2, (rn_iff ..).1 h2, fun a ha hb j hj => ?_, fun j hj hR => ?_⟩
  · have := List.all_eq_true.1 h3 a (List.mem_range.2 hb)
    rw [decide_eq_false (by omega), Bool.false_or] at this
    have := List.all_eq_true.1 this j (List.mem_range.2 (dom_idx dom hj))
    rw [(rn_iff ..).2 hj] at this; cases this
  · have := List.all_eq_true.1 h4 j (List.mem_range.2 hj)
    rw [(rn_iff ..).2 hR] at this; cases this
def noB (F : Nat → Bool) (hi o : Nat) : Bool := (List.range 10).all (fun a => decide (a < o) || (List.range hi).all (fun j => !rn F a j))
theorem no_of {F : Nat → Bool} {hi o : Nat} (dom : ∀ k, F k = true → k < hi) (h : noB F hi o = true) : ∀ a, o ≤ a → a ≤ 9 → ∀ j, ¬ Rn F a j := fun a ha hb j hj => by
  have := List.all_eq_true.1 h a (List.mem_range.2 (by omega))
  rw [decide_eq_false (by omega), Bool.false_or] at this
  have := List.all_eq_true.1 this j (List.mem_range.2 (dom_idx dom hj))
  rw [(rn_iff ..).2 hj] at this; cases this

end Go.Proofs.YtcankhnnikhblaaGreatDoor
