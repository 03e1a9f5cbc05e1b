/- Marks; what the lists of the laws are made of. -/
import Derived.Test.YtlclpnaaaiimaaaDoorUC
namespace Go.Proofs.YtlclpnaaaiimaaaDoor
open Go.RowKit

/-- Block bo is a row of n marks. -/
structure ON (w : World) (bo n : Nat) (on : Nat → Bool) : Prop where
  lt : bo < w.heap.size
  cell : ∀ i, i < n → w.cell? ⟨bo, i, none⟩ = some (.bool (on i))
  frz : ∀ i, w.frozen? ⟨bo, i, none⟩ = false
theorem ON.fr {w w' : World} {bo n : Nat} {on : Nat → Bool} (h : ON w bo n on) {S : Nat → Prop} (k : Fr S w w') (hS : ¬ S bo) : ON w' bo n on :=
  ⟨Nat.lt_of_lt_of_le h.lt k.size, fun i hi => (k.cell (a := ⟨bo, i, none⟩) h.lt hS).trans (h.cell i hi), fun i => (World.frozen?_of_block (a := ⟨bo, i, none⟩) (k.block bo h.lt hS)).trans (h.frz i)⟩
theorem ON.kp {w w' : World} {bo n : Nat} {on : Nat → Bool} (h : ON w bo n on) (k : Kp w w') : ON w' bo n on := h.fr (k.fr (fun _ => False)) id
theorem ON.like {w : World} {bo n : Nat} {on on' : Nat → Bool} (h : ON w bo n on) (hl : ∀ i, i < n → on' i = on i) : ON w bo n on' := ⟨h.lt, fun i hi => by rw [hl i hi]; exact h.cell i hi, h.frz⟩
theorem ON.set {w : World} {bo n : Nat} {on : Nat → Bool} (h : ON w bo n on) (x : Nat) (v : Bool) : ON (w.setCell ⟨bo, x, none⟩ (.bool v)) bo n (fun i => if i = x then v else on i) :=
  ⟨by rw [World.size_setCell]; exact h.lt, fun i hi => by
    by_cases e : i = x
    · subst e
      rw [World.cell?_setCell_same _ _ _ (h.cell i hi), if_pos rfl]
    · rw [World.cell?_setCell_other _ _ _ _ (ne_addr (.inr (fun z => e z.symm))), if_neg e]; exact h.cell i hi, fun i => by rw [World.frozen?_setCell]; exact h.frz i⟩
theorem info_bool : ∃ i, Tryd.prog.info? 4 = some i ∧ i.zero = some (.bool false) ∧ i.size = 1 ∧ i.bytes = 1 := by
  have h : (Tryd.prog.info? 4).map (fun i => (i.zero, i.size, i.bytes)) = some (some (.bool false), 1, 1) := by kernel_rfl
  obtain ⟨i, hi, e⟩ := Option.map_eq_some_iff.1 h
  simp only [Prod.mk.injEq] at e
  exact ⟨i, hi, e.1, e.2.1, e.2.2⟩
def offB (n : Nat) : Array Value := madeCells #[Value.bool false] n
theorem offB_get (n i : Nat) (h : i < n) : (offB n)[i]? = some (.bool false) := by simp [offB, madeCells, h, Nat.mod_one]
theorem make_marks (n : Nat) (w : World) (hn : n ≤ 2000000) :
    (Instr.makeSlice 48 (.int .i64 (n : Int)) (.int .i64 (n : Int))).run Tryd.prog w = .ok (.slice (some ⟨w.heap.size, 0, none⟩) n n) (w.alloc (.cells (offB n) 4)) := by
  obtain ⟨i0, hi, hz0, hz1, hz2⟩ := info_bool
  have := run_make (P := Tryd.prog) w 48 4 i0 (.bool false) Tryd.underlying48 hi hz0 .i64 .i64 n n (by omega) (by omega) (by rw [hz2]; omega) (by omega)
  rw [hz1, Nat.mul_one] at this
  exact this
theorem ON.made (w : World) (n : Nat) : ON (w.alloc (.cells (offB n) 4)) w.heap.size n (fun _ => false) :=
  ⟨by simp, fun i hi => by rw [cell_of_row _ _ i _ _ _ (heap_alloc_new w _)]; exact offB_get n i hi, fun i => frozen_of_row _ _ _ _ _ (heap_alloc_new w _)⟩

/-- The numbers that the laws make of their first two. -/
theorem few7 (a b : Int) : ∃ lo m r n : Nat, bits .and .i64 a 4095 = (lo : Int) ∧ bits .and .i64 b 2047 = (m : Int) ∧ (m : Int).tmod 1200 = (r : Int) ∧ 1 + (r : Int) = (n : Int) ∧ lo ≤ 4095 ∧ 1 ≤ n ∧ n ≤ 1200 ∧ m ≤ 2047 := by
  obtain ⟨lo, e1, l1⟩ := and_lim a 4095 (by omega)
  obtain ⟨m, e2, l2⟩ := and_lim b 2047 (by omega)
  exact ⟨lo, m, m % 1200, 1 + m % 1200, e1, e2, by rw [Int.tmod_eq_emod_of_nonneg (by omega)]; omega, by omega, l1, by omega, by omega, l2⟩
/-- The greatest order of the first k runs, or -1. -/
def mst (L : List (Nat × Nat)) : Nat → Int
  | 0 => -1
  | k + 1 => match L[k]? with
    | some x => if mst L k < (x.2 : Int) then (x.2 : Int) else mst L k
    | none => mst L k
theorem mst_le {L : List (Nat × Nat)} (h : ∀ x ∈ L, x.2 ≤ 9) : ∀ k, -1 ≤ mst L k ∧ mst L k ≤ 9
  | 0 => by unfold mst; omega
  | k + 1 => by
    have ih := mst_le h k
    unfold mst
    split
    · rename_i x hx
      have := h x (List.mem_of_getElem? hx)
      split <;> omega
    · exact ih
theorem mst_ge {L : List (Nat × Nat)} {o : Nat} : ∀ k, k ≤ L.length → ((o : Int) ≤ mst L k ↔ ∃ j x, j < k ∧ L[j]? = some x ∧ o ≤ x.2)
  | 0, _ => by
    unfold mst
    constructor
    · intro h; omega
    · rintro ⟨j, x, h, _⟩; omega
  | k + 1, hk => by
    have ih := mst_ge (L := L) (o := o) k (by omega)
    have hx : L[k]? = some L[k] := List.getElem?_eq_getElem (by omega)
    unfold mst
    rw [hx]
    simp only
    constructor
    · intro h
      by_cases c : mst L k < (L[k].2 : Int)
      · rw [if_pos c] at h
        exact ⟨k, _, by omega, hx, by omega⟩
      · rw [if_neg c] at h
        obtain ⟨j, x, h1, h2⟩ := ih.1 h
        exact ⟨j, x, by omega, h2⟩
    · rintro ⟨j, x, h1, h2, h3⟩
      by_cases e : j = k
      · subst e
        rw [hx] at h2
        cases h2
        split <;> omega
      · have := ih.2 ⟨j, x, by omega, h2, h3⟩
        split <;> omega
theorem mst_all {L : List (Nat × Nat)} {o : Nat} : (o : Int) ≤ mst L L.length ↔ ∃ x ∈ L, o ≤ x.2 := by
  rw [mst_ge L.length (Nat.le_refl _)]
  constructor
  · rintro ⟨j, x, _, h2, h3⟩; exact ⟨x, List.mem_of_getElem? h2, h3⟩
  · rintro ⟨x, h1, h2⟩
    obtain ⟨j, hj, e⟩ := List.getElem_of_mem h1
    exact ⟨j, x, hj, by rw [List.getElem?_eq_getElem hj, e], h2⟩
/-- The runs of a buddy. -/
theorem BF.mem {w : World} {U : Nat → Prop} {p lo hi : Nat} {F : Nat → Bool} (h : BF w U p lo hi F) (x o : Nat) : (x, o) ∈ rl F hi lo ↔ (o ≤ 9 ∧ x % 2 ^ o = 0 ∧ Rn F o (x / 2 ^ o)) := by
  rw [rl_mem (fun k hk => (h.dom k hk).2) (hi - lo) lo (Nat.le_refl _) (cut_lo h.dom)]
  constructor
  · rintro ⟨_, h2⟩; exact h2
  · rintro ⟨h1, h2, h3⟩
    exact ⟨(h.dom x (h3.1 x rfl)).1, h1, h2, h3⟩
theorem BF.ord {w : World} {U : Nat → Prop} {p lo hi : Nat} {F : Nat → Bool} (h : BF w U p lo hi F) : ∀ x ∈ rl F hi lo, x.2 ≤ 9 ∧ x.1 ≤ 1048576 := fun x hx => by
  obtain ⟨h1, h2, h3⟩ := (h.mem x.1 x.2).1 hx
  have := (h.dom _ (h3.1 x.1 rfl)).2
  have := h.hh
  exact ⟨h1, by omega⟩
theorem BF.len {w : World} {U : Nat → Prop} {p lo hi : Nat} {F : Nat → Bool} (_ : BF w U p lo hi F) : (rl F hi lo).length ≤ hi - lo := by
  have key : ∀ n f, hi - f ≤ n → (rl F hi f).length ≤ hi - f := by
    intro n
    induction n with
    | zero => intro f hf; rw [rl_end (by omega)]; simp
    | succ n ih =>
      intro f hf
      by_cases c : f < hi
      · cases hF : F f
        · rw [rl_off c hF]; have := ih (f + 1) (by omega); omega
        · rw [rl_on c hF]
          have hp := Nat.two_pow_pos (ordF F f)
          have := ih (f + 2 ^ ordF F f) (by omega)
          simp; omega
      · rw [rl_end (by omega)]; simp
  exact key _ lo (Nat.le_refl _)
/-- A Take that is told is one of a run in the list. -/
theorem Tk.mem {w : World} {U : Nat → Prop} {p lo hi o o' i : Nat} {F : Nat → Bool} (h : BF w U p lo hi F) (t : Tk F o o' i) : (i * 2 ^ o', o') ∈ rl F hi lo := (h.mem _ _).2 ⟨t.h9, Nat.mul_mod_left _ _, by rw [rep]; exact t.run⟩
theorem no_mem {w : World} {U : Nat → Prop} {p lo hi o : Nat} {F : Nat → Bool} (h : BF w U p lo hi F) (t : ∀ a, o ≤ a → a ≤ 9 → ∀ j, ¬ Rn F a j) : ∀ x ∈ rl F hi lo, x.2 < o := fun x hx => by
  obtain ⟨h1, _, h3⟩ := (h.mem x.1 x.2).1 hx
  by_cases c : x.2 < o
  · exact c
  · exact absurd h3 (t x.2 (by omega) h1 _)
/-- Where a Take's run lies. -/
theorem Tk.place {w : World} {U : Nat → Prop} {p lo hi o o' i : Nat} {F : Nat → Bool} (h : BF w U p lo hi F) (t : Tk F o o' i) : ∃ j, i * 2 ^ o' = j * 2 ^ o ∧ Al F o j ∧ lo ≤ j * 2 ^ o ∧ j * 2 ^ o + 2 ^ o ≤ hi ∧ i * 2 ^ o' / 2 ^ o = j := by
  have e : i * 2 ^ o' = i * 2 ^ (o' - o) * 2 ^ o := by rw [Nat.mul_assoc, ← Nat.pow_add]; congr 2; have := t.le; omega
  have hA : Al F o (i * 2 ^ (o' - o)) := t.run.1.sub (k := i * 2 ^ o') t.le (by rw [e, rep]) (rep i o')
  have hr := hA.range h.dom
  exact ⟨_, e, hA, hr.1, hr.2, by rw [e, rep]⟩

end Go.Proofs.YtlclpnaaaiimaaaDoor
