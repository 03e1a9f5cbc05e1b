/- Rows in blocks. -/
import Derived.Test.YtclcickhgoiooaaU0
namespace Go.Proofs.Ytclcickhgoiooaa
open Go.RowKit

/-! ### rows in blocks -/
/-- The row V lies in the block b. -/
def RX (w : World) (b : Nat) (t : TypeId) (V : List Value) : Prop := w.heap[b]? = some (.cells V.toArray t (0, 0))
/-- V is stored into the block b, from the cell j on. -/
def putR (w : World) (b : Nat) : Nat → List Value → World
  | _, [] => w
  | j, v :: vs => putR (w.setCell ⟨b, j, none⟩ v) b (j + 1) vs
section
variable {W w w' : World} {b : Nat} {t : TypeId} {V : List Value}
theorem RX.lt (h : RX w b t V) : b < w.heap.size := (Array.getElem?_eq_some_iff.1 h).1
theorem RX.kp (h : RX w b t V) (g : Kp w w') : RX w' b t V := (g.block b h.lt).trans h
theorem RX.fr {S : Nat → Prop} (h : RX w b t V) (g : Fr S w w') (hS : ¬ S b) : RX w' b t V := (g.block b h.lt hS).trans h
theorem RX.made (w : World) (t : TypeId) (V : List Value) : RX (w.alloc (.cells V.toArray t)) w.heap.size t V := heap_alloc_new w _
theorem RX.cell (h : RX w b t V) {j : Nat} {y : Value} (hy : V[j]? = some y) : w.cell? ⟨b, j, none⟩ = some y := by
  rw [cell_of_row _ _ j _ _ _ h]; simpa using hy
theorem RX.fz (h : RX w b t V) (j : Nat) : w.frozen? ⟨b, j, none⟩ = false := frozen_of_row w b j _ _ h
theorem putR_row : ∀ (vs pre old : List Value) (w : World), w.heap[b]? = some (.cells (pre ++ old).toArray t (0, 0)) → old.length = vs.length → (putR w b pre.length vs).heap[b]? = some (.cells (pre ++ vs).toArray t (0, 0))
  | [], pre, old, w, h, hl => by
    have e : old = [] := List.length_eq_zero_iff.1 hl
    subst e; exact h
  | v :: vs, pre, [], w, h, hl => by cases hl
  | v :: vs, pre, o :: old, w, h, hl => by
    have h0 := heap_setCell_same w b pre.length _ _ v h
    have e : (pre ++ o :: old).toArray.set! pre.length v = ((pre ++ [v]) ++ old).toArray := by simp
    have h1 : (w.setCell ⟨b, pre.length, none⟩ v).heap[b]? = some (.cells ((pre ++ [v]) ++ old).toArray t (0, 0)) := by rw [← e]; simpa using h0
    have h2 := putR_row vs (pre ++ [v]) old _ h1 (by simpa using hl)
    rw [List.length_append, List.append_assoc] at h2
    exact h2
theorem RX.put (h : RX w b t V) {U : List Value} (hl : V.length = U.length) : RX (putR w b 0 U) b t U := putR_row U [] V w h hl
theorem Fr.putR {S : Nat → Prop} (hb : S b) : ∀ (U : List Value) (j : Nat) (w' : World), Fr S w w' → Fr S w (putR w' b j U)
  | [], _, _, h => h
  | v :: U, j, _, h => Fr.putR hb U (j + 1) _ (h.set _ v hb)
theorem Kp.putR (hb : W.heap.size ≤ b) : ∀ (U : List Value) (j : Nat) (w : World), Kp W w → Kp W (putR w b j U)
  | [], _, _, h => h
  | v :: U, j, _, h => Kp.putR hb U (j + 1) _ (h.set _ v hb)
end
theorem putR_fr (w : World) (b j : Nat) (U : List Value) : Fr (· = b) w (putR w b j U) := Fr.putR (S := (· = b)) rfl U j w (Fr.refl _ _)

end Go.Proofs.Ytclcickhgoiooaa
