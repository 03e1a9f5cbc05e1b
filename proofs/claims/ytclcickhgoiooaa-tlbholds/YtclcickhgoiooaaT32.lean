/- TlbHolds: its walk. -/
import Derived.Test.YtclcickhgoiooaaT14
import Derived.Test.YtclcickhgoiooaaT30
import Derived.Test.YtclcickhgoiooaaT31
namespace Go.Proofs.Ytclcickhgoiooaa
open Go.RowKit
set_option maxRecDepth 10000

structure HZt (W w : World) (b g s k B : Nat) (vl : Value) (T : Nat → PC) (L : List LN) : Prop where
  m : FZt W w b g s k B vl T L
  ti : TI T s k
  uq : UQ T (s * k)
  nw : NWt T (s * k) L
section
variable {W w w' : World} {b g s k B : Nat} {vl : Value} {T T' : Nat → PC} {L : List LN}
theorem HZt.kp (h : HZt W w b g s k B vl T L) (f : Kp w w') : HZt W w' b g s k B vl T L := ⟨h.m.kp f, h.ti, h.uq, h.nw⟩
theorem HZt.sub (h : HZt W w b g s k B vl T L) (t : TP w' b g s k T') (f : Fr (· = g) w w') (i : TI T' s k) (u : SubT T' T) : HZt W w' b g s k B vl T' L := ⟨h.m.st t f, i, h.uq.sub u, h.nw.sub u⟩
end


/-- Block bo is a row of n counts. -/
structure OIt (w : World) (bo n : Nat) (c : Nat → Nat) : Prop where
  lt : bo < w.heap.size
  cell : ∀ i, i < n → w.cell? ⟨bo, i, none⟩ = some (.int .i64 (c i : Nat))
  frz : ∀ i, w.frozen? ⟨bo, i, none⟩ = false
theorem OIt.kp {w w' : World} {bo n : Nat} {c : Nat → Nat} (h : OIt w bo n c) (k : Kp w w') : OIt w' bo n c :=
  ⟨Nat.lt_of_lt_of_le h.lt k.size, fun i hi => (k.cell (p := ⟨bo, i, none⟩) h.lt).trans (h.cell i hi), fun i => (k.frz (p := ⟨bo, i, none⟩) h.lt).trans (h.frz i)⟩
theorem OIt.set {w : World} {bo n : Nat} {c c' : Nat → Nat} (h : OIt w bo n c) (x v : Nat) (h1 : c' x = v) (h2 : ∀ i, i < n → i ≠ x → c' i = c i) : OIt (w.setCell ⟨bo, x, none⟩ (.int .i64 (v : Nat))) bo n c' :=
  ⟨by rw [World.size_setCell]; exact h.lt, fun i hi => by
    by_cases e : i = x
    · subst e
      rw [World.cell?_setCell_same _ _ _ (h.cell i hi), h1]
    · rw [World.cell?_setCell_other _ _ _ _ (tl_ne (.inr (fun z => e z.symm))), h2 i hi e]; exact h.cell i hi, fun i => by rw [World.frozen?_setCell]; exact h.frz i⟩
theorem info_intT : ∃ i, Try.prog.info? 3 = some i ∧ i.zero = some (.int .i64 0) ∧ i.size = 1 ∧ i.bytes = 8 := by
  have h : (Try.prog.info? 3).map (fun i => (i.zero, i.size, i.bytes)) = some (some (.int .i64 0), 1, 8) := by kernel_rfl
  obtain ⟨i, hi, e⟩ := Option.map_eq_some_iff.1 h
  simp only [Prod.mk.injEq] at e
  exact ⟨i, hi, e.1, e.2.1, e.2.2⟩
def zeroIt (n : Nat) : Array Value := madeCells #[Value.int .i64 0] n
theorem make_intsT (n : Nat) (w : World) (hn : n ≤ 2000000) :
    (Instr.makeSlice 64 (.int .i64 (n : Int)) (.int .i64 (n : Int))).run Try.prog w = .ok (.slice (some ⟨w.heap.size, 0, none⟩) n n) (w.alloc (.cells (zeroIt n) 3)) := by
  obtain ⟨i0, hi, hz0, hz1, hz2⟩ := info_intT
  have := run_make (P := Try.prog) w 64 3 i0 (.int .i64 0) Try.underlying64 hi hz0 .i64 .i64 n n (by omega) (by omega) (by rw [hz2]; omega) (by omega)
  rw [hz1, Nat.mul_one] at this
  exact this
theorem OIt.made (w : World) (n : Nat) : OIt (w.alloc (.cells (zeroIt n) 3)) w.heap.size n (fun _ => 0) :=
  ⟨by simp, fun i hi => by rw [cell_of_row _ _ i _ _ _ (heap_alloc_new w _)]; simp [zeroIt, madeCells, hi, Nat.mod_one], fun i => frozen_of_row _ _ _ _ _ (heap_alloc_new w _)⟩
theorem HZt.cnt {W w w' : World} {b g s k B bc : Nat} {vl : Value} {T : Nat → PC} {L : List LN} (h : HZt W w b g s k B vl T L) (f : Fr (· = bc) w w') (hb : b ≠ bc) (hg : g ≠ bc) (hL : ∀ x, vl.ownBlock = some x → x ≠ bc) (hW : W.heap.size ≤ bc) : HZt W w' b g s k B vl T L :=
  ⟨⟨h.m.tp.fr f hb hg, ⟨h.m.ll.ol.fr f hL, fun x hx => ⟨(h.m.ll.up x hx).1, Nat.lt_of_lt_of_le (h.m.ll.up x hx).2 f.size⟩⟩, f.kp h.m.k (fun i hi => by omega), h.m.hg, h.m.hB, h.m.bB, h.m.gB, Nat.le_trans h.m.lw f.size⟩, h.ti, h.uq, h.nw⟩
/-- What loop 3 of TlbHolds keeps. -/
structure ZCt (W w : World) (b g s k B bc : Nat) (vl vA : Value) (T : Nat → PC) (L A : List LN) (n : Nat) : Prop where
  z : HZt W w b g s k B vl T L
  a : LL w 0 vA A
  c : OIt w bc s (fun q => cnS A s q n)
  hb : b ≠ bc
  hg : g ≠ bc
  hL : ∀ x, vl.ownBlock = some x → x ≠ bc
  hA : ∀ x, vA.ownBlock = some x → x ≠ bc
  hW : W.heap.size ≤ bc
theorem ZCt.kp {W w w' : World} {b g s k B bc n : Nat} {vl vA : Value} {T : Nat → PC} {L A : List LN} (h : ZCt W w b g s k B bc vl vA T L A n) (f : Kp w w') : ZCt W w' b g s k B bc vl vA T L A n := ⟨h.z.kp f, h.a.kp f, h.c.kp f, h.hb, h.hg, h.hL, h.hA, h.hW⟩
theorem ZCt.up {W w : World} {b g s k B bc n : Nat} {vl vA : Value} {T : Nat → PC} {L A : List LN} (h : ZCt W w b g s k B bc vl vA T L A n) {x : LN} (hx : A[n]? = some x) {q : Nat} (hq : x.v % s = q) {c : Nat} (hc : cnS A s q n + 1 = c) :
    ZCt W (w.setCell ⟨bc, q, none⟩ (.int .i64 (c : Nat))) b g s k B bc vl vA T L A (n + 1) := by
  have f : Fr (· = bc) w (w.setCell ⟨bc, q, none⟩ (.int .i64 (c : Nat))) := (Fr.refl (· = bc) w).set _ _ rfl
  exact ⟨h.z.cnt f h.hb h.hg h.hL h.hW, ⟨h.a.ol.fr f h.hA, fun y hy => ⟨(h.a.up y hy).1, Nat.lt_of_lt_of_le (h.a.up y hy).2 f.size⟩⟩, h.c.set q c (by rw [cnS_on hx, if_pos hq]; exact hc) (fun i _ hi => by rw [cnS_on hx, if_neg (by omega)]; rfl), h.hb, h.hg, h.hL, h.hA, h.hW⟩

/-! ### what stands behind a statement -/
def sB : Code → Code
  | .seq _ b => b
  | c => c
def bodyC (f : Func) : Code := f.body.getD .skip

end Go.Proofs.Ytclcickhgoiooaa
