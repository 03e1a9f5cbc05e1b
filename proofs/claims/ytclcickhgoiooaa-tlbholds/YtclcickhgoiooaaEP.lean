/- Permissions: like ones; one in a block of one's own. -/
import Derived.Test.YtclcickhgoiooaaU0
namespace Go.Proofs.Ytclcickhgoiooaa
open Go.RowKit

theorem eq_perm (n : Nat) (a b c a' b' c' : Bool) (w : World) : (Op.equalIn (n + 2) 31 (.agg #[.bool a, .bool b, .bool c]) (.agg #[.bool a', .bool b', .bool c'])).run Try.prog w = .ok ((a == a') && (b == b') && (c == c')) w := by
  rw [run_equalIn_struct w (n + 1) _ _ _ (by kernel_rfl) (by kernel_rfl)]
  have pe : ∀ x y : Bool, (Op.equalIn (n + 1) 4 (.bool x) (.bool y)).run Try.prog w = .ok (x == y) w := fun x y => run_equalIn_bool w n 4 x y Try.underlying4
  have p0 : ∀ x y z : Bool, (part 4 #[.bool x, .bool y, .bool z] 0).run Try.prog w = .ok (.bool x) w := fun x y z => by simp [part, isAgg, run_underlying Try.underlying4]
  have p1 : ∀ x y z : Bool, (part 4 #[.bool x, .bool y, .bool z] 1).run Try.prog w = .ok (.bool y) w := fun x y z => by simp [part, isAgg, run_underlying Try.underlying4]
  have p2 : ∀ x y z : Bool, (part 4 #[.bool x, .bool y, .bool z] 2).run Try.prog w = .ok (.bool z) w := fun x y z => by simp [part, isAgg, run_underlying Try.underlying4]
  simp only [Program.fieldsOf, Try.underlying31, Op.eqFields]
  cases a <;> cases a' <;> cases b <;> cases b' <;> cases c <;> cases c' <;> simp [p0, p1, p2, pe]

/-- Are two permissions alike? -/
def samP (a b c a' b' c' : Bool) : Bool := (a == a') && (b == b') && (c == c')
theorem samP_eq {a b c a' b' c' : Bool} : samP a b c a' b' c' = true ↔ a = a' ∧ b = b' ∧ c = c' := by
  cases a <;> cases a' <;> cases b <;> cases b' <;> cases c <;> cases c' <;> simp [samP]
theorem eq_permP (a b c a' b' c' : Bool) (w : World) : (Op.equalIn 10000 31 (.agg #[.bool a, .bool b, .bool c]) (.agg #[.bool a', .bool b', .bool c'])).run Try.prog w = .ok (samP a b c a' b' c') w := eq_perm 9998 a b c a' b' c' w

/-- The permission lies in the block b. -/
def PX (w : World) (b : Nat) (r q x : Bool) : Prop := w.heap[b]? = some (.cells #[.bool r, .bool q, .bool x] 31)
section
variable {W w w' : World} {b : Nat} {r q x : Bool}
theorem PX.c0 (h : PX w b r q x) : w.cell? ⟨b, 0, none⟩ = some (.bool r) := by rw [cell_of_row _ _ 0 _ _ _ h]; rfl
theorem PX.c1 (h : PX w b r q x) : w.cell? ⟨b, 1, none⟩ = some (.bool q) := by rw [cell_of_row _ _ 1 _ _ _ h]; rfl
theorem PX.c2 (h : PX w b r q x) : w.cell? ⟨b, 2, none⟩ = some (.bool x) := by rw [cell_of_row _ _ 2 _ _ _ h]; rfl
theorem PX.lt (h : PX w b r q x) : b < w.heap.size := by
  unfold PX at h
  by_cases c : b < w.heap.size
  · exact c
  · rw [show w.heap[b]? = none from by simp; omega] at h; cases h
theorem PX.kp (h : PX w b r q x) (g : Kp w w') : PX w' b r q x := (g.block b h.lt).trans h
theorem PX.made (w : World) (r q x : Bool) : PX (w.alloc (.cells #[.bool r, .bool q, .bool x] 31)) w.heap.size r q x := heap_alloc_new w _
theorem PX.made2 (w : World) (o1 o2 : Obj) (r q x : Bool) : PX (((w.alloc o1).alloc o2).alloc (.cells #[.bool r, .bool q, .bool x] 31)) (w.heap.size + 1 + 1) r q x := by
  have h := PX.made ((w.alloc o1).alloc o2) r q x
  simpa using h
theorem PX.made1 (w : World) (o1 : Obj) (r q x : Bool) : PX ((w.alloc o1).alloc (.cells #[.bool r, .bool q, .bool x] 31)) (w.heap.size + 1) r q x := by
  have h := PX.made (w.alloc o1) r q x
  simpa using h
theorem PX.fz (h : PX w b r q x) (j : Nat) : w.frozen? ⟨b, j, none⟩ = false := frozen_of_row w b j _ _ h
/-- The world behind a store of a whole permission. -/
def putP (w : World) (b : Nat) (r q x : Bool) : World := ((w.setCell ⟨b, 0, none⟩ (.bool r)).setCell ⟨b, 1, none⟩ (.bool q)).setCell ⟨b, 2, none⟩ (.bool x)
theorem PX.put (h : PX w b r q x) (r' q' x' : Bool) : PX (putP w b r' q' x') b r' q' x' := by
  have h0 := heap_setCell_same w b 0 _ _ (.bool r') h
  have h1 := heap_setCell_same _ b 1 _ _ (.bool q') h0
  have h2 := heap_setCell_same _ b 2 _ _ (.bool x') h1
  exact h2
theorem Kp.putP (h : Kp W w) (hb : W.heap.size ≤ b) : Kp W (putP w b r q x) := ((h.set _ _ hb).set _ _ hb).set _ _ hb
theorem putP_other {c : Nat} {r' q' x' : Bool} (h : PX w c r' q' x') (hb : c ≠ b) : PX (Go.Proofs.Ytclcickhgoiooaa.putP w b r q x) c r' q' x' := by
  show (Go.Proofs.Ytclcickhgoiooaa.putP w b r q x).heap[c]? = _
  unfold Go.Proofs.Ytclcickhgoiooaa.putP
  rw [heap_setCell_other _ _ _ _ hb, heap_setCell_other _ _ _ _ hb, heap_setCell_other _ _ _ _ hb]
  exact h
theorem PX.load (h : PX w b r q x) : (loadVar 31 ⟨b, 0, none⟩).run Try.prog w = .ok (.agg #[.bool r, .bool q, .bool x]) w :=
  run_loadVar_row w b _ 31 _ _ _ h Try.underlying31 rfl (by kernel_rfl)
theorem res_p {fn : Func} {c : Tmp} {tmps : Array Value} (hf : fn.results = #[.cell c 31]) (hc : tmps.getD c undef = .pointer (some ⟨b, 0, none⟩)) (B : PX w b r q x) :
    (results fn tmps).run Try.prog w = .ok (.agg #[.bool r, .bool q, .bool x]) w := by
  have hc' : tmps[c]?.getD undef = .pointer (some ⟨b, 0, none⟩) := by simpa using hc
  simp [results, hf, hc', asAddr, B.load]
theorem res_p2 {fn : Func} {c t : Tmp} {tmps : Array Value} (hf : fn.results = #[.cell c 31, .tmp t]) (hc : tmps.getD c undef = .pointer (some ⟨b, 0, none⟩)) (B : PX w b r q x) :
    (results fn tmps).run Try.prog w = .ok (.tuple #[.agg #[.bool r, .bool q, .bool x], tmps.getD t undef]) w := by
  have hc' : tmps[c]?.getD undef = .pointer (some ⟨b, 0, none⟩) := by simpa using hc
  simp [results, hf, hc', asAddr, B.load]
end

end Go.Proofs.Ytclcickhgoiooaa
