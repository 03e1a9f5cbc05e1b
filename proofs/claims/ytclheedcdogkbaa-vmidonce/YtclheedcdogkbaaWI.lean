/- Rows of ints of one's own. -/
import Derived.Test.YtclheedcdogkbaaU0
namespace Go.Proofs.Ytclheedcdogkbaa
open Go.RowKit

def updI (f : Nat → Nat) (i v : Nat) : Nat → Nat := fun k => if k = i then v else f k
theorem wi_ne {b o b' o' : Nat} (h : b ≠ b' ∨ o ≠ o') : (⟨b, o, none⟩ : Addr) ≠ ⟨b', o', none⟩ := fun e => by cases e; rcases h with c | c <;> exact c rfl
/-- Block b is a row of n ints. -/
structure WI (w : World) (b n : Nat) (c : Nat → Nat) : Prop where
  lt : b < w.heap.size
  cell : ∀ i, i < n → w.cell? ⟨b, i, none⟩ = some (.int .i64 (c i : Nat))
  fz : ∀ i, w.frozen? ⟨b, i, none⟩ = false
section
variable {w w' : World} {b n : Nat} {c : Nat → Nat}
theorem WI.fr (h : WI w b n c) {S : Nat → Prop} (k : Fr S w w') (hS : ¬ S b) : WI w' b n c :=
  ⟨Nat.lt_of_lt_of_le h.lt k.size, fun i hi => (k.cell (a := ⟨b, i, none⟩) h.lt hS).trans (h.cell i hi), fun i => (World.frozen?_of_block (a := ⟨b, i, none⟩) (k.block b h.lt hS)).trans (h.fz i)⟩
theorem WI.kp (h : WI w b n c) (k : Kp w w') : WI w' b n c := h.fr (k.fr (fun _ => False)) id
theorem WI.like (h : WI w b n c) {d : Nat → Nat} (e : ∀ i, i < n → d i = c i) : WI w b n d := ⟨h.lt, fun i hi => by rw [e i hi]; exact h.cell i hi, h.fz⟩
theorem WI.set (h : WI w b n c) (x v : Nat) : WI (w.setCell ⟨b, x, none⟩ (.int .i64 (v : Nat))) b n (updI c x v) :=
  ⟨by rw [World.size_setCell]; exact h.lt, fun i hi => by
    unfold updI
    by_cases e : i = x
    · subst e
      rw [World.cell?_setCell_same _ _ _ (h.cell i hi), if_pos rfl]
    · rw [World.cell?_setCell_other _ _ _ _ (wi_ne (.inr (fun z => e z.symm))), if_neg e]; exact h.cell i hi, fun i => by rw [World.frozen?_setCell]; exact h.fz i⟩
end
theorem info_wi : ∃ i, Try.prog.info? 3 = some i ∧ i.zero = some (.int .i64 0) ∧ i.size = 1 ∧ i.bytes = 8 := by
  have h : (Try.prog.info? 3).map (fun i => (i.zero, i.size, i.bytes)) = some (some (.int .i64 0), 1, 8) := by kernel_rfl
  obtain ⟨i, hi, e⟩ := Option.map_eq_some_iff.1 h
  simp only [Prod.mk.injEq] at e
  exact ⟨i, hi, e.1, e.2.1, e.2.2⟩
def offW (n : Nat) : Array Value := madeCells #[Value.int .i64 0] n
theorem offW_get (n i : Nat) (h : i < n) : (offW n)[i]? = some (.int .i64 0) := by simp [offW, madeCells, h, Nat.mod_one]
theorem make_wi (n : Nat) (w : World) (hn : n ≤ 2000000) :
    (Instr.makeSlice 40 (.int .i64 (n : Int)) (.int .i64 (n : Int))).run Try.prog w = .ok (.slice (some ⟨w.heap.size, 0, none⟩) n n) (w.alloc (.cells (offW n) 3)) := by
  obtain ⟨i0, hi, hz0, hz1, hz2⟩ := info_wi
  have := run_make (P := Try.prog) w 40 3 i0 (.int .i64 0) Try.underlying40 hi hz0 .i64 .i64 n n (by omega) (by omega) (by rw [hz2]; omega) (by omega)
  rw [hz1, Nat.mul_one] at this
  exact this
theorem WI.made (w : World) (n : Nat) : WI (w.alloc (.cells (offW n) 3)) w.heap.size n (fun _ => 0) :=
  ⟨by simp, fun i hi => by rw [cell_of_row _ _ i _ _ _ (heap_alloc_new w _)]; exact offW_get n i hi, fun i => frozen_of_row _ _ _ _ _ (heap_alloc_new w _)⟩

end Go.Proofs.Ytclheedcdogkbaa
