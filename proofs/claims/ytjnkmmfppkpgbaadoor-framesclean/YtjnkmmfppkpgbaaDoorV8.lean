/- FramesClean: rows of counts; what holds between the steps. -/
import Derived.Test.YtjnkmmfppkpgbaaDoorV7
import Derived.Test.YtjnkmmfppkpgbaaDoorS3
import Derived.Deep.CutBlock
namespace Go.Proofs.YtjnkmmfppkpgbaaDoor
open Go.RowKit Go.Maps
set_option maxRecDepth 10000

/-- Block bo is a row of n counts. -/
structure OI (w : World) (bo n : Nat) (c : Nat → Nat) : Prop where
  lt : bo < w.heap.size
  cell : ∀ i, i < n → w.cell? ⟨bo, i, none⟩ = some (.int .i64 (c i : Nat))
  frz : ∀ i, w.frozen? ⟨bo, i, none⟩ = false
theorem OI.fr {w w' : World} {bo n : Nat} {c : Nat → Nat} (h : OI w bo n c) {S : Nat → Prop} (k : Fr S w w') (hS : ¬ S bo) : OI w' bo n c :=
  ⟨Nat.lt_of_lt_of_le h.lt k.size, fun i hi => (k.cell (a := ⟨bo, i, none⟩) h.lt hS).trans (h.cell i hi), fun i => (World.frozen?_of_block (a := ⟨bo, i, none⟩) (k.block bo h.lt hS)).trans (h.frz i)⟩
theorem OI.kp {w w' : World} {bo n : Nat} {c : Nat → Nat} (h : OI w bo n c) (k : Kp w w') : OI w' bo n c := h.fr (k.fr (fun _ => False)) id
theorem OI.set {w : World} {bo n : Nat} {c : Nat → Nat} (h : OI w bo n c) (x v : Nat) : OI (w.setCell ⟨bo, x, none⟩ (.int .i64 (v : Nat))) bo n (putC c x v) :=
  ⟨by rw [World.size_setCell]; exact h.lt, fun i hi => by
    unfold putC
    by_cases e : i = x
    · subst e
      rw [World.cell?_setCell_same _ _ _ (h.cell i hi), if_pos rfl]
    · rw [World.cell?_setCell_other _ _ _ _ (ne_addr (.inr (fun z => e z.symm))), if_neg e]; exact h.cell i hi, fun i => by rw [World.frozen?_setCell]; exact h.frz i⟩
theorem info_int : ∃ i, Tryd.prog.info? 3 = some i ∧ i.zero = some (.int .i64 0) ∧ i.size = 1 ∧ i.bytes = 8 := by
  have h : (Tryd.prog.info? 3).map (fun i => (i.zero, i.size, i.bytes)) = some (some (.int .i64 0), 1, 8) := by kernel_rfl
  obtain ⟨i, hi, e⟩ := Option.map_eq_some_iff.1 h
  simp only [Prod.mk.injEq] at e
  exact ⟨i, hi, e.1, e.2.1, e.2.2⟩
def zeroI (n : Nat) : Array Value := madeCells #[Value.int .i64 0] n
theorem zeroI_get (n i : Nat) (h : i < n) : (zeroI n)[i]? = some (.int .i64 0) := by simp [zeroI, madeCells, h, Nat.mod_one]
theorem make_ints (n : Nat) (w : World) (hn : n ≤ 2000000) :
    (Instr.makeSlice 51 (.int .i64 (n : Int)) (.int .i64 (n : Int))).run Tryd.prog w = .ok (.slice (some ⟨w.heap.size, 0, none⟩) n n) (w.alloc (.cells (zeroI n) 3)) := by
  obtain ⟨i0, hi, hz0, hz1, hz2⟩ := info_int
  have := run_make (P := Tryd.prog) w 51 3 i0 (.int .i64 0) Tryd.underlying51 hi hz0 .i64 .i64 n n (by omega) (by omega) (by rw [hz2]; omega) (by omega)
  rw [hz1, Nat.mul_one] at this
  exact this
theorem OI.made (w : World) (n : Nat) : OI (w.alloc (.cells (zeroI n) 3)) w.heap.size n (fun _ => 0) :=
  ⟨by simp, fun i hi => by rw [cell_of_row _ _ i _ _ _ (heap_alloc_new w _)]; exact zeroI_get n i hi, fun i => frozen_of_row _ _ _ _ _ (heap_alloc_new w _)⟩

/-- Which frames are 0 all over: those that are free; of the others none is. -/
def Cl (n : Nat) (B : Nat → Nat → Nat) (C : Nat → Nat) : Prop := ∀ k, k < n → clearF n B (k : Int) = decide (C k = 0)
theorem clear_zero {n : Nat} {B : Nat → Nat → Nat} {k : Nat} (hk : k < n) (h : B k = z0) : clearF n B (k : Int) = true := by
  unfold clearF
  rw [(hasF_iff n k).2 (by omega), Int.toNat_natCast, h, alike_of (fun _ _ => rfl)]; rfl
theorem clear_not {n : Nat} {B : Nat → Nat → Nat} {k i : Nat} (hi : i < 4096) (h : B k i ≠ 0) : clearF n B (k : Int) = false := by
  unfold clearF
  rw [Int.toNat_natCast, alike_not (g := z0) hi h, Bool.and_false]
theorem clear_like {n : Nat} {B B' : Nat → Nat → Nat} {k : Nat} (h : B' k = B k) : clearF n B' (k : Int) = clearF n B (k : Int) := by
  unfold clearF
  rw [Int.toNat_natCast, h]

/-- Between the steps of FramesClean: the row has the frames' counts, and a frame is 0 all over just when it is free. -/
structure LI (w wr : World) (bs p pm n ops : Nat) (B : Nat → Nat → Nat) (C : Nat → Nat) : Prop where
  fk : FK w (fun i => False ∨ i = bs) wr p pm n 2 ops B C
  on : OI wr bs n C
  bl : w.heap.size ≤ bs
  cl : Cl n B C
  t2 : ∀ k, k < 2 → C k = 0
section
variable {w wr w1 w2 : World} {bs p pm n ops ops' : Nat} {C C' : Nat → Nat} {B B' : Nat → Nat → Nat}
theorem LI.kps (h : LI w wr bs p pm n ops B C) (k : Kp wr w1) : LI w w1 bs p pm n ops B C := ⟨h.fk.kps k, h.on.kp k, h.bl, h.cl, h.t2⟩
theorem LI.mid (h : LI w wr bs p pm n ops B C) (k : Fr (Out w (fun i => False ∨ i = bs)) wr w1) : OI w1 bs n C := h.on.fr k (fun e => e.2 (.inr rfl))
theorem LI.cnt2 (h : LI w wr bs p pm n ops B C) : cnt (fT 2 C) 2 = 2 := by
  have := cnt_step (F := fT 2 C) (a := 0) (b := 2) (by omega) (fun k _ hk => (fT_iff ..).2 ⟨hk, h.t2 k hk⟩)
  rw [this]; rfl
/-- The row follows. -/
theorem FK.row {X : Nat → Prop} (h : FK w X w1 p pm n 2 ops B C) {x : Nat} (v : Value) (hb : w.heap.size ≤ bs) (hX : X bs) : FK w X (w1.setCell ⟨bs, x, none⟩ v) p pm n 2 ops B C :=
  h.frX (Y := (· = bs)) ((Fr.refl _ w1).set _ _ rfl) (fun i e => by rw [e]; exact ⟨hb, hX⟩)
end
end Go.Proofs.YtjnkmmfppkpgbaaDoor
