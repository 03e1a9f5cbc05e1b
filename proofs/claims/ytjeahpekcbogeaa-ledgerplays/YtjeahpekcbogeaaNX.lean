/- Entries: like ones; one in a block of one's own. -/
import Derived.Test.YtjeahpekcbogeaaG1
namespace Go.Proofs.Ytjeahpekcbogeaa
open Go.RowKit

/-- Are two entries alike? -/
def samN (s q s' q' : Int) : Bool := (s == s') && (q == q')
theorem samN_eq {s q s' q' : Int} : samN s q s' q' = true ↔ (s, q) = (s', q') := by simp [samN]
theorem samN_not {s q s' q' : Int} (h : (s, q) ≠ (s', q')) : samN s q s' q' = false := by
  cases e : samN s q s' q'
  · rfl
  · exact absurd (samN_eq.1 e) h
theorem eq_ent (s q s' q' : Int) (w : World) : (Op.equalIn 10000 36 (.agg #[.int .i64 s, .int .i64 q]) (.agg #[.int .i64 s', .int .i64 q'])).run Try.prog w = .ok (samN s q s' q') w := by
  rw [run_equalIn_struct w 9999 _ _ _ (by kernel_rfl) (by kernel_rfl)]
  have pe : ∀ x y : Int, (Op.equalIn 9999 3 (.int .i64 x) (.int .i64 y)).run Try.prog w = .ok (x == y) w := fun x y => run_equalIn_int w 9998 3 .i64 .i64 x y Try.underlying3
  have p0 : ∀ x y : Int, (part 3 #[.int .i64 x, .int .i64 y] 0).run Try.prog w = .ok (.int .i64 x) w := fun x y => by simp [part, isAgg, run_underlying Try.underlying3]
  have p1 : ∀ x y : Int, (part 3 #[.int .i64 x, .int .i64 y] 1).run Try.prog w = .ok (.int .i64 y) w := fun x y => by simp [part, isAgg, run_underlying Try.underlying3]
  unfold samN
  simp only [Program.fieldsOf, Try.underlying36, Op.eqFields]
  cases e1 : (s == s') <;> cases e2 : (q == q') <;> simp [p0, p1, pe, e1, e2]

theorem fld0 (s q : Int) (w : World) : (Instr.field 36 (.agg #[.int .i64 s, .int .i64 q]) 0).run Try.prog w = .ok (.int .i64 s) w := by kernel_rfl
theorem fld1 (s q : Int) (w : World) : (Instr.field 36 (.agg #[.int .i64 s, .int .i64 q]) 1).run Try.prog w = .ok (.int .i64 q) w := by kernel_rfl

/-- The entry lies in the block b. -/
def NX (w : World) (b : Nat) (s q : Int) : Prop := w.heap[b]? = some (.cells #[.int .i64 s, .int .i64 q] 36)
section
variable {W w w' : World} {b : Nat} {s q : Int}
theorem NX.c0 (h : NX w b s q) : w.cell? ⟨b, 0, none⟩ = some (.int .i64 s) := by rw [cell_of_row _ _ 0 _ _ _ h]; rfl
theorem NX.c1 (h : NX w b s q) : w.cell? ⟨b, 1, none⟩ = some (.int .i64 q) := by rw [cell_of_row _ _ 1 _ _ _ h]; rfl
theorem NX.lt (h : NX w b s q) : b < w.heap.size := by
  unfold NX at h
  by_cases c : b < w.heap.size
  · exact c
  · rw [show w.heap[b]? = none from by simp; omega] at h; cases h
theorem NX.kp (h : NX w b s q) (g : Kp w w') : NX w' b s q := (g.block b h.lt).trans h
theorem NX.fr (h : NX w b s q) {S : Nat → Prop} (k : Fr S w w') (hS : ¬ S b) : NX w' b s q := (k.block b h.lt hS).trans h
theorem NX.made (w : World) (s q : Int) : NX (w.alloc (.cells #[.int .i64 s, .int .i64 q] 36)) w.heap.size s q := heap_alloc_new w _
theorem NX.made1 (w : World) (o1 : Obj) (s q : Int) : NX ((w.alloc o1).alloc (.cells #[.int .i64 s, .int .i64 q] 36)) (w.heap.size + 1) s q := by
  have h := NX.made (w.alloc o1) s q
  simpa using h
theorem NX.fz (h : NX w b s q) (j : Nat) : w.frozen? ⟨b, j, none⟩ = false := frozen_of_row w b j _ _ h
/-- The world behind a store of a whole entry. -/
def putN (w : World) (b : Nat) (s q : Int) : World := (w.setCell ⟨b, 0, none⟩ (.int .i64 s)).setCell ⟨b, 1, none⟩ (.int .i64 q)
theorem NX.put (h : NX w b s q) (s' q' : Int) : NX (putN w b s' q') b s' q' := by
  have h0 := heap_setCell_same w b 0 _ _ (.int .i64 s') h
  have h1 := heap_setCell_same _ b 1 _ _ (.int .i64 q') h0
  exact h1
theorem Kp.putN (h : Kp W w) (hb : W.heap.size ≤ b) : Kp W (putN w b s q) := (h.set _ _ hb).set _ _ hb
theorem NX.load (h : NX w b s q) : (loadVar 36 ⟨b, 0, none⟩).run Try.prog w = .ok (.agg #[.int .i64 s, .int .i64 q]) w :=
  run_loadVar_row w b _ 36 _ _ _ h Try.underlying36 rfl (by kernel_rfl)
theorem res_n {fn : Func} {c : Tmp} {tmps : Array Value} (hf : fn.results = #[.cell c 36]) (hc : tmps.getD c undef = .pointer (some ⟨b, 0, none⟩)) (B : NX w b s q) :
    (results fn tmps).run Try.prog w = .ok (.agg #[.int .i64 s, .int .i64 q]) w := by
  have hc' : tmps[c]?.getD undef = .pointer (some ⟨b, 0, none⟩) := by simpa using hc
  simp [results, hf, hc', asAddr, B.load]
theorem res_n2 {fn : Func} {c t : Tmp} {tmps : Array Value} (hf : fn.results = #[.cell c 36, .tmp t]) (hc : tmps.getD c undef = .pointer (some ⟨b, 0, none⟩)) (B : NX w b s q) :
    (results fn tmps).run Try.prog w = .ok (.tuple #[.agg #[.int .i64 s, .int .i64 q], tmps.getD t undef]) w := by
  have hc' : tmps[c]?.getD undef = .pointer (some ⟨b, 0, none⟩) := by simpa using hc
  simp [results, hf, hc', asAddr, B.load]
end

end Go.Proofs.Ytjeahpekcbogeaa
