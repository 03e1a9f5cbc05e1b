/- DiskLeast: a row of marks; which slot is the least; the walk. -/
import Derived.Test.YtcgfifihkbiioaaX6
import Derived.Deep.RegionHeld3
import Derived.Deep.CutRange
import Derived.Deep.DeepCutAuto
namespace Go.Proofs.Ytcgfifihkbiioaa
open Go.RowKit Go.Maps

/-- Block bo is a row of n marks. -/
structure ON (w : World) (bo n : Nat) (on : Nat → Bool) : Prop where
  lt : bo < w.heap.size
  cell : ∀ i, i < n → w.cell? ⟨bo, i, none⟩ = some (.bool (on i))
  frz : ∀ i, w.frozen? ⟨bo, i, none⟩ = false
theorem ON.fr {w w' : World} {bo n : Nat} {on : Nat → Bool} (h : ON w bo n on) {S : Nat → Prop} (k : Fr S w w') (hS : ¬ S bo) : ON w' bo n on :=
  ⟨Nat.lt_of_lt_of_le h.lt k.size, fun i hi => (k.cell (a := ⟨bo, i, none⟩) h.lt hS).trans (h.cell i hi), fun i => (World.frozen?_of_block (a := ⟨bo, i, none⟩) (k.block bo h.lt hS)).trans (h.frz i)⟩
theorem ON.like {w : World} {bo n : Nat} {on on' : Nat → Bool} (h : ON w bo n on) (hl : ∀ i, i < n → on' i = on i) : ON w bo n on' := ⟨h.lt, fun i hi => by rw [hl i hi]; exact h.cell i hi, h.frz⟩
theorem ON.set {w : World} {bo n : Nat} {on : Nat → Bool} (h : ON w bo n on) (x : Nat) (hx : x < n) (v : Bool) : ON (w.setCell ⟨bo, x, none⟩ (.bool v)) bo n (fun i => if i = x then v else on i) :=
  ⟨by rw [World.size_setCell]; exact h.lt, fun i hi => by
    by_cases e : i = x
    · subst e
      rw [World.cell?_setCell_same _ _ _ (h.cell i hi), if_pos rfl]
    · rw [World.cell?_setCell_other _ _ _ _ (by intro z; simp only [Addr.mk.injEq] at z; omega), if_neg e]; exact h.cell i hi, fun i => by rw [World.frozen?_setCell]; exact h.frz i⟩
theorem made_marks (n : Nat) : madeCells #[Value.bool false] n = (marksOf (List.replicate n false)).toArray := by
  apply Array.ext_getElem?
  intro i
  by_cases h : i < n
  · simp [madeCells, h, Nat.mod_one, marksOf]
  · simp [madeCells, h, marksOf]
theorem make_marks (n : Nat) (w : World) (hn : n ≤ 1000000) :
    (Instr.makeSlice 32 (.int .i64 (n : Int)) (.int .i64 (n : Int))).run Try.prog w = .ok (.slice (some ⟨w.heap.size, 0, none⟩) n n) (w.alloc (.cells (marksOf (List.replicate n false)).toArray 4)) := by
  obtain ⟨i0, hi, hz0, hz1, hz2⟩ := info_bool
  have := run_make (P := Try.prog) w 32 4 i0 (.bool false) Try.underlying32 hi hz0 .i64 .i64 n n (by omega) (by omega) (by rw [hz2]; omega) (by omega)
  rw [hz1, Nat.mul_one] at this
  rw [← made_marks]
  exact this
theorem ON.made (w : World) (n : Nat) : ON (w.alloc (.cells (marksOf (List.replicate n false)).toArray 4)) w.heap.size n (fun _ => false) :=
  ⟨by simp, fun i hi => by rw [World.cell?_alloc_at _ _ _ _ rfl]; simp [marksOf, hi], fun i => frozen_of_row _ _ _ _ _ (heap_alloc_new w _)⟩

theorem lst_eq {T : Slots} {n m : Nat} (h1 : ∀ x, x < m → (T x).isSome = true) (h2 : T m = none) (h3 : m < n) : lst T n = m := by
  by_cases c : lst T n < m
  · have := lst_off T n (by omega)
    have h := h1 _ c
    rw [this] at h; cases h
  · by_cases d : m < lst T n
    · have := lst_on T n m d
      rw [h2] at this; cases this
    · omega
theorem tkn_ne {T : Slots} {n m : Nat} (h2 : T m = none) (h3 : m < n) : ¬ tkn T n = n := fun e => by
  have := lst_on T n m (by rw [(tkn_all T n).1 e]; exact h3)
  rw [h2] at this; cases this
theorem lst_lt {T : Slots} {n m : Nat} (h2 : T m = none) (h3 : m < n) : lst T n < n := by
  have := tkn_ne h2 h3
  have := tkn_all T n
  have := lst_le T n
  omega

/-- The page that is written: 9 at 5. -/
def p9 : Nat → Nat := upd z0 5 9
def Bes2 (W : World) (b c : Nat) : Nat → Prop := fun k => W.heap.size ≤ k ∧ k ≠ b ∧ k ≠ c
/-- What holds between the steps of DiskLeast. -/
structure LI (w wr : World) (p b bo n : Nat) (T : Slots) : Prop where
  du : DU (Bes2 w b bo) wr p n T []
  kp : Kp w wr
  bs : BS wr b 0 4096 p9
  on : ON wr bo n (fun x => (T x).isSome)
  ub : w.heap.size ≤ b
  uo : w.heap.size ≤ bo
  ne : b ≠ bo
theorem LI.free {w wr : World} {p b bo n : Nat} {T : Slots} (h : LI w wr p b bo n T) : Free (Bes2 w b bo) wr := fun k hk => ⟨by have := h.kp.size; omega, by have := h.bs.lt; omega, by have := h.on.lt; omega⟩
theorem LI.next {w wr w' : World} {p b bo n : Nat} {T T' : Slots} (h : LI w wr p b bo n T) (d : DU (Bes2 w b bo) w' p n T' []) (k : Fr (Bes2 w b bo) wr w') (hT : ∀ x, x < n → (T' x).isSome = (T x).isSome) : LI w w' p b bo n T' :=
  ⟨d, k.kp h.kp (fun _ hi => hi.1), h.bs.fr k (fun hu => hu.2.1 rfl), (h.on.fr k (fun hu => hu.2.2 rfl)).like hT, h.ub, h.uo, h.ne⟩
/-- A change of the device, then on[x] = v. -/
theorem LI.mark {w wr w' : World} {p b bo n : Nat} {T T' : Slots} (h : LI w wr p b bo n T) (d : DU (Bes2 w b bo) w' p n T' []) (k : Fr (Bes2 w b bo) wr w') (x : Nat) (hx : x < n) (v : Bool) (hT : ∀ y, y < n → (T' y).isSome = if y = x then v else (T y).isSome) :
    LI w (w'.setCell ⟨bo, x, none⟩ (.bool v)) p b bo n T' := by
  have k2 : Fr (· = bo) w' (w'.setCell ⟨bo, x, none⟩ (.bool v)) := (Fr.refl _ w').set _ _ rfl
  have kp := k.kp h.kp (fun _ hi => hi.1)
  exact ⟨d.out k2 (fun i hi e => hi.2.2 e), k2.kp kp (fun i hi => by rw [hi]; exact h.uo), (h.bs.fr k (fun hu => hu.2.1 rfl)).fr k2 h.ne, ((h.on.fr k (fun hu => hu.2.2 rfl)).set x hx v).like hT, h.ub, h.uo, h.ne⟩
theorem wf_small {x : Nat} (h : x ≤ 1048576) : (Lit.int .i64 (x : Int)).wf = true := WalkArith.wf_i64 (by omega)
theorem sub_tkn (T : Slots) (i : Nat) : (T i).isSome = true → ((i : Int) + 1) - (tkn T (i + 1) : Nat) = (i : Int) - (tkn T i : Nat) := fun h => by
  rw [tkn, if_pos h]; omega
theorem sub_tkn' (T : Slots) (i : Nat) : (T i).isSome = false → ((i : Int) + 1) - (tkn T (i + 1) : Nat) = (i : Int) - (tkn T i : Nat) + 1 := fun h => by
  rw [tkn, if_neg (by rw [h]; decide)]; omega

end Go.Proofs.Ytcgfifihkbiioaa
