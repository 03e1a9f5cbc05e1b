/- desc: a descriptor in a block of one's own; Check. -/
import Derived.Test.YtcbciehffgaapaaE2
namespace Go.Proofs.Ytcbciehffgaapaa
open Go.RowKit

/-- The descriptor lies in the block b. -/
def BX (w : World) (b : Nat) (k a : Int) (r q x : Bool) (f : Int) : Prop := w.heap[b]? = some (.cells #[.int .i64 k, .int .u64 a, .bool r, .bool q, .bool x, .int .i64 f] 48)
section
variable {w w' : World} {b : Nat} {k a : Int} {r q x : Bool} {f : Int}
theorem BX.c0 (h : BX w b k a r q x f) : w.cell? ⟨b, 0, none⟩ = some (.int .i64 k) := by rw [cell_of_row _ _ 0 _ _ _ h]; rfl
theorem BX.c1 (h : BX w b k a r q x f) : w.cell? ⟨b, 1, none⟩ = some (.int .u64 a) := by rw [cell_of_row _ _ 1 _ _ _ h]; rfl
theorem BX.c2 (h : BX w b k a r q x f) : w.cell? ⟨b, 2, none⟩ = some (.bool r) := by rw [cell_of_row _ _ 2 _ _ _ h]; rfl
theorem BX.c3 (h : BX w b k a r q x f) : w.cell? ⟨b, 3, none⟩ = some (.bool q) := by rw [cell_of_row _ _ 3 _ _ _ h]; rfl
theorem BX.c4 (h : BX w b k a r q x f) : w.cell? ⟨b, 4, none⟩ = some (.bool x) := by rw [cell_of_row _ _ 4 _ _ _ h]; rfl
theorem BX.c5 (h : BX w b k a r q x f) : w.cell? ⟨b, 5, none⟩ = some (.int .i64 f) := by rw [cell_of_row _ _ 5 _ _ _ h]; rfl
theorem BX.lt (h : BX w b k a r q x f) : b < w.heap.size := by
  unfold BX at h
  by_cases c : b < w.heap.size
  · exact c
  · rw [show w.heap[b]? = none from by simp; omega] at h; cases h
theorem BX.kp (h : BX w b k a r q x f) (g : Kp w w') : BX w' b k a r q x f := (g.block b h.lt).trans h
theorem BX.made (w : World) (k a : Int) (r q x : Bool) (f : Int) : BX (w.alloc (.cells #[.int .i64 k, .int .u64 a, .bool r, .bool q, .bool x, .int .i64 f] 48)) w.heap.size k a r q x f := heap_alloc_new w _
end

/-- What refuses a descriptor. -/
def dchk (s l k : Int) (a : Nat) (r q x : Bool) (f : Int) : Int :=
  if ¬ (isPl s l = true ∧ isKd k = true ∧ 0 ≤ f ∧ f ≤ 15) then 1 else if fm l k a r q x f = false then 4 else if topS s ≤ a then 2 else if a % unitN l k ≠ 0 then 3 else 0
theorem unit_pos {s l k : Int} (h : isPl s l = true) : 0 < unitN l k := by
  have := isPl_iff.1 h
  unfold unitN
  split
  · unfold spn; rw [if_pos (isLv_iff.2 ⟨this.2.2.1, this.2.2.2⟩)]; exact Nat.two_pow_pos _
  · decide

end Go.Proofs.Ytcbciehffgaapaa
