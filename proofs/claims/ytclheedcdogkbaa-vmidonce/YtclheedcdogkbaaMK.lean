/- Rows of marks. -/
import Derived.Test.YtclheedcdogkbaaWI
namespace Go.Proofs.Ytclheedcdogkbaa
open Go.RowKit

/-- Block bo is a row of n marks. -/
structure ON (w : World) (bo n : Nat) (on : Nat → Bool) : Prop where
  lt : bo < w.heap.size
  cell : ∀ i, i < n → w.cell? ⟨bo, i, none⟩ = some (.bool (on i))
  frz : ∀ i, w.frozen? ⟨bo, i, none⟩ = false
theorem ON.fr {w w' : World} {bo n : Nat} {on : Nat → Bool} (h : ON w bo n on) {S : Nat → Prop} (k : Fr S w w') (hS : ¬ S bo) : ON w' bo n on :=
  ⟨Nat.lt_of_lt_of_le h.lt k.size, fun i hi => (k.cell (a := ⟨bo, i, none⟩) h.lt hS).trans (h.cell i hi), fun i => (World.frozen?_of_block (a := ⟨bo, i, none⟩) (k.block bo h.lt hS)).trans (h.frz i)⟩
theorem ON.kp {w w' : World} {bo n : Nat} {on : Nat → Bool} (h : ON w bo n on) (k : Kp w w') : ON w' bo n on := h.fr (k.fr (fun _ => False)) id
theorem ON.like {w : World} {bo n : Nat} {on on' : Nat → Bool} (h : ON w bo n on) (hl : ∀ i, i < n → on' i = on i) : ON w bo n on' := ⟨h.lt, fun i hi => by rw [hl i hi]; exact h.cell i hi, h.frz⟩
theorem ON.set {w : World} {bo n : Nat} {on : Nat → Bool} (h : ON w bo n on) (x : Nat) (v : Bool) : ON (w.setCell ⟨bo, x, none⟩ (.bool v)) bo n (fun i => if i = x then v else on i) :=
  ⟨by rw [World.size_setCell]; exact h.lt, fun i hi => by
    by_cases e : i = x
    · subst e
      rw [World.cell?_setCell_same _ _ _ (h.cell i hi), if_pos rfl]
    · rw [World.cell?_setCell_other _ _ _ _ (wi_ne (.inr (fun z => e z.symm))), if_neg e]; exact h.cell i hi, fun i => by rw [World.frozen?_setCell]; exact h.frz i⟩
theorem info_bool : ∃ i, Try.prog.info? 4 = some i ∧ i.zero = some (.bool false) ∧ i.size = 1 ∧ i.bytes = 1 := by
  have h : (Try.prog.info? 4).map (fun i => (i.zero, i.size, i.bytes)) = some (some (.bool false), 1, 1) := by kernel_rfl
  obtain ⟨i, hi, e⟩ := Option.map_eq_some_iff.1 h
  simp only [Prod.mk.injEq] at e
  exact ⟨i, hi, e.1, e.2.1, e.2.2⟩
def offB (n : Nat) : Array Value := madeCells #[Value.bool false] n
theorem offB_get (n i : Nat) (h : i < n) : (offB n)[i]? = some (.bool false) := by simp [offB, madeCells, h, Nat.mod_one]
theorem make_marks (n : Nat) (w : World) (hn : n ≤ 2000000) :
    (Instr.makeSlice 45 (.int .i64 (n : Int)) (.int .i64 (n : Int))).run Try.prog w = .ok (.slice (some ⟨w.heap.size, 0, none⟩) n n) (w.alloc (.cells (offB n) 4)) := by
  obtain ⟨i0, hi, hz0, hz1, hz2⟩ := info_bool
  have := run_make (P := Try.prog) w 45 4 i0 (.bool false) Try.underlying45 hi hz0 .i64 .i64 n n (by omega) (by omega) (by rw [hz2]; omega) (by omega)
  rw [hz1, Nat.mul_one] at this
  exact this
theorem ON.made (w : World) (n : Nat) : ON (w.alloc (.cells (offB n) 4)) w.heap.size n (fun _ => false) :=
  ⟨by simp, fun i hi => by rw [cell_of_row _ _ i _ _ _ (heap_alloc_new w _)]; exact offB_get n i hi, fun i => frozen_of_row _ _ _ _ _ (heap_alloc_new w _)⟩

end Go.Proofs.Ytclheedcdogkbaa
