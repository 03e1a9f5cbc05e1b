/- Rows of ints of one's own. -/
import Derived.Test.YtjnkmmfppkpgbaaDoorV1
import Derived.Test.YtjnkmmfppkpgbaaDoorU4
namespace Go.Proofs.YtjnkmmfppkpgbaaDoor
open Go.RowKit Go.Maps
set_option maxRecDepth 10000

/-- Block bo is a row of n counts. -/
structure OI (w : World) (bo n : Nat) (c : Nat → Nat) : Prop where
  lt : bo < w.heap.size
  cell : ∀ i, i < n → w.cell? ⟨bo, i, none⟩ = some (.int .i64 (c i : Nat))
  frz : ∀ i, w.frozen? ⟨bo, i, none⟩ = false
theorem OI.fr {w w' : World} {bo n : Nat} {c : Nat → Nat} (h : OI w bo n c) {S : Nat → Prop} (k : Fr S w w') (hS : ¬ S bo) : OI w' bo n c :=
  ⟨Nat.lt_of_lt_of_le h.lt k.size, fun i hi => (k.cell (a := ⟨bo, i, none⟩) h.lt hS).trans (h.cell i hi), fun i => (World.frozen?_of_block (a := ⟨bo, i, none⟩) (k.block bo h.lt hS)).trans (h.frz i)⟩
theorem OI.kp {w w' : World} {bo n : Nat} {c : Nat → Nat} (h : OI w bo n c) (k : Kp w w') : OI w' bo n c := h.fr (k.fr (fun _ => False)) id
theorem OI.set {w : World} {bo n : Nat} {c : Nat → Nat} (h : OI w bo n c) (x v : Nat) : OI (w.setCell ⟨bo, x, none⟩ (.int .i64 (v : Nat))) bo n (putC c x v) :=
  ⟨by rw [World.size_setCell]; exact h.lt, fun i hi => by
    unfold putC
    by_cases e : i = x
    · subst e
      rw [World.cell?_setCell_same _ _ _ (h.cell i hi), if_pos rfl]
    · rw [World.cell?_setCell_other _ _ _ _ (ne_addr (.inr (fun z => e z.symm))), if_neg e]; exact h.cell i hi, fun i => by rw [World.frozen?_setCell]; exact h.frz i⟩
theorem info_int : ∃ i, Tryd.prog.info? 3 = some i ∧ i.zero = some (.int .i64 0) ∧ i.size = 1 ∧ i.bytes = 8 := by
  have h : (Tryd.prog.info? 3).map (fun i => (i.zero, i.size, i.bytes)) = some (some (.int .i64 0), 1, 8) := by kernel_rfl
  obtain ⟨i, hi, e⟩ := Option.map_eq_some_iff.1 h
  simp only [Prod.mk.injEq] at e
  exact ⟨i, hi, e.1, e.2.1, e.2.2⟩
def zeroI (n : Nat) : Array Value := madeCells #[Value.int .i64 0] n
theorem zeroI_get (n i : Nat) (h : i < n) : (zeroI n)[i]? = some (.int .i64 0) := by simp [zeroI, madeCells, h, Nat.mod_one]
theorem make_ints (n : Nat) (w : World) (hn : n ≤ 2000000) :
    (Instr.makeSlice 51 (.int .i64 (n : Int)) (.int .i64 (n : Int))).run Tryd.prog w = .ok (.slice (some ⟨w.heap.size, 0, none⟩) n n) (w.alloc (.cells (zeroI n) 3)) := by
  obtain ⟨i0, hi, hz0, hz1, hz2⟩ := info_int
  have := run_make (P := Tryd.prog) w 51 3 i0 (.int .i64 0) Tryd.underlying51 hi hz0 .i64 .i64 n n (by omega) (by omega) (by rw [hz2]; omega) (by omega)
  rw [hz1, Nat.mul_one] at this
  exact this
theorem OI.made (w : World) (n : Nat) : OI (w.alloc (.cells (zeroI n) 3)) w.heap.size n (fun _ => 0) :=
  ⟨by simp, fun i hi => by rw [cell_of_row _ _ i _ _ _ (heap_alloc_new w _)]; exact zeroI_get n i hi, fun i => frozen_of_row _ _ _ _ _ (heap_alloc_new w _)⟩

end Go.Proofs.YtjnkmmfppkpgbaaDoor
