/- Lists of ints of one's own; slices.Sort. -/
import Derived.Test.YtjeahpekcbogeaaG1
import Derived.Test.YtjeahpekcbogeaaG2
import Derived.Test.YtjeahpekcbogeaaUS
namespace Go.Proofs.Ytjeahpekcbogeaa
open Go.RowKit Go.Sort

def encI (x : Int) : List Value := [.int .i64 x]
theorem encI_ok : Enc encI 1 := ⟨fun _ => rfl, fun x u hu => by
  rcases List.mem_cons.1 hu with e | e
  · subst e; rfl
  · exact absurd e (by simp), by omega⟩
theorem infoI : ∃ i, Try.prog.info? 3 = some i ∧ i.zero = some (.int .i64 0) ∧ i.size = 1 ∧ i.bytes = 8 := by
  have h : (Try.prog.info? 3).map (fun i => (i.zero, i.size, i.bytes)) = some (some (.int .i64 0), 1, 8) := by kernel_rfl
  obtain ⟨i, hi, e⟩ := Option.map_eq_some_iff.1 h
  simp only [Prod.mk.injEq] at e
  exact ⟨i, hi, e.1, e.2.1, e.2.2⟩

/-- v is a list of ints, to be read. -/
def IL (w : World) (v : Value) (L : List Int) : Prop := ∃ na cap, v = .slice na L.length cap ∧ ∀ i x, L[i]? = some x → ∃ g, na = some ⟨g, 0, none⟩ ∧ g < w.heap.size ∧ w.cell? ⟨g, i, none⟩ = some (.int .i64 x)
theorem IL.kp {w w' : World} {v : Value} {L : List Int} (h : IL w v L) (k : Kp w w') : IL w' v L := by
  obtain ⟨na, cap, e, h⟩ := h
  refine ⟨na, cap, e, fun i x hx => ?_⟩
  obtain ⟨g, h1, h2, h3⟩ := h i x hx
  exact ⟨g, h1, Nat.lt_of_lt_of_le h2 k.size, by rw [k.cell (p := ⟨g, i, none⟩) h2]; exact h3⟩
theorem IL.nil (w : World) : IL w (.slice none 0 0) [] := ⟨none, 0, rfl, fun i x h => by simp at h⟩

/-- v is a list of ints in a block at or above b. -/
structure LI (w : World) (b : Nat) (v : Value) (L : List Int) : Prop where
  ol : OL encI 3 1 w v L
  up : ∀ g, v.ownBlock = some g → b ≤ g ∧ g < w.heap.size
theorem LI.nil (w : World) (b : Nat) : LI w b (.slice none 0 0) [] := ⟨OL.nil _ w, fun g h => by cases h⟩
theorem LI.fr {w w' : World} {b : Nat} {v : Value} {L : List Int} (h : LI w b v L) {S : Nat → Prop} (k : Fr S w w') (hS : ∀ g, b ≤ g → v.ownBlock = some g → S g → False) : LI w' b v L :=
  ⟨h.ol.fr k (fun g hg s => by have := h.up g hg; exact hS g this.1 hg s), fun g hg => ⟨(h.up g hg).1, Nat.lt_of_lt_of_le (h.up g hg).2 k.size⟩⟩
theorem LI.kp {w w' : World} {b : Nat} {v : Value} {L : List Int} (h : LI w b v L) (k : Kp w w') : LI w' b v L := h.fr (k.fr (fun _ => False)) (fun _ _ _ => id)
theorem LI.il {w : World} {b : Nat} {v : Value} {L : List Int} (h : LI w b v L) : IL w v L := by
  obtain ⟨na, cap, e, _, hc⟩ := h.ol.form
  refine ⟨na, cap, e, fun i x hx => ?_⟩
  rcases hc with ⟨_, _, rfl⟩ | ⟨g, rfl, hg⟩
  · simp at hx
  · have h1 := h.ol
    rw [e] at h1
    have h0 := OL.cell encI_ok h1 (i := i) (j := 0) (x := x) (u := .int .i64 x) hx rfl
    rw [Nat.mul_one, Nat.add_zero] at h0
    exact ⟨g, rfl, hg, h0⟩
/-- append(v, x). -/
theorem LI.snoc {w : World} {b : Nat} {v : Value} {L : List Int} (h : LI w b v L) (hb : b ≤ w.heap.size) (x : Int) (hl : L.length ≤ 2000000) :
    ∃ v' w', (Builtin.append_ #[38, 38] 38 #[v, .slice (some ⟨w.heap.size, 0, none⟩) 1 1]).run Try.prog (w.alloc (.cells #[.int .i64 x] 3)) = .ok v' w' ∧ LI w' b v' (L ++ [x]) ∧ Fr (fun g => v.ownBlock = some g) w w' := by
  obtain ⟨i0, hi, hz0, hz1, hz2⟩ := infoI
  obtain ⟨w1, h1⟩ : ∃ w1, w1 = w.alloc (.cells #[.int .i64 x] 3) := ⟨_, rfl⟩
  have k1 : Kp w w1 := by rw [h1]; exact (Kp.refl w).alloc _
  have hr : w1.heap[w.heap.size]? = some (.cells #[.int .i64 x] 3 (0, 0)) := by rw [h1]; exact heap_alloc_new w _
  have es : w1.heap.size = w.heap.size + 1 := by rw [h1]; simp
  obtain ⟨v', w', r1, r2, r3, r4⟩ := OL.append encI_ok (P := Try.prog) (t := 38) Try.underlying38 hi hz0 hz1 hz2 rfl (h.kp k1).ol [x] (some ⟨w.heap.size, 0, none⟩) 1 1 rfl (.inr ⟨w.heap.size, 0, rfl, fun j u hu => by
    rw [Nat.zero_add, cell_of_row w1 w.heap.size j _ _ _ hr]
    rw [← List.getElem?_toArray] at hu
    exact hu⟩) (by simp; omega) (by omega) 38
  have fr1 : Fr (fun g => v.ownBlock = some g) w w' := (k1.fr _).trans (Fr.grown r3 (fun g hg => hg))
  refine ⟨v', w', by rw [← h1]; exact r1, ⟨r2, fun g hg => ?_⟩, fr1⟩
  have hlt : g < w'.heap.size := by
    obtain ⟨na, cap, e, _, hc⟩ := r2.form
    rcases hc with ⟨rfl, rfl, _⟩ | ⟨g', rfl, hg'⟩
    · rw [e] at hg; cases hg
    · rw [e] at hg; cases hg; exact hg'
  refine ⟨?_, hlt⟩
  rcases r4 with e | e
  · exact (h.up g (by rw [← e]; exact hg)).1
  · rw [hg] at e; cases e; omega
/-- A one-element literal. -/
theorem IL.one (w : World) (x : Int) : IL (w.alloc (.cells #[.int .i64 x] 3)) (.slice (some ⟨w.heap.size, 0, none⟩) 1 1) [x] := by
  refine ⟨_, _, rfl, fun i y hy => ⟨_, rfl, by simp, ?_⟩⟩
  rw [cell_of_row _ _ i _ _ _ (heap_alloc_new w _)]
  match i with
  | 0 => simp at hy; subst hy; rfl
  | i + 1 => simp at hy

/-- slices.Sort. -/
theorem sort_any {w : World} {b : Nat} {v : Value} {L : List Int} (h : LI w b v L) (hl : L.length ≤ 2000000) :
    Calls Try.prog 29 #[v] w fun e w' => e = .returned (.tuple #[]) ∧ IL w' v (L.mergeSort fun x y => decide (x ≤ y)) ∧ Fr (fun g => v.ownBlock = some g) w w' := by
  obtain ⟨na, cap, e, _, hc⟩ := h.ol.form
  rcases hc with ⟨rfl, rfl, rfl⟩ | ⟨g, rfl, hg⟩
  · subst e
    refine (Any.slices_Sort_int_none Ytjeahpekcbogeaa.lsort none 0 w).mono ?_
    rintro e w' ⟨rfl, rfl⟩
    exact ⟨rfl, by simpa using IL.nil w', Fr.refl _ _⟩
  · subst e
    have hH : Holds (Value.int .i64) w g 0 L.toArray := fun j hj => by
      have hj' : j < L.length := by simpa using hj
      refine ⟨?_, by rw [Nat.zero_add]; exact OL.frz h.ol j⟩
      have h0 := OL.cell encI_ok h.ol (i := j) (j := 0) (x := L[j]) (u := .int .i64 L[j]) (List.getElem?_eq_getElem hj') rfl
      rw [Nat.mul_one, Nat.add_zero] at h0
      rw [Nat.zero_add, h0, getElem!_pos L.toArray j hj]
      rfl
    refine (Any.slices_Sort_int Ytjeahpekcbogeaa.lsort g 0 cap L w hH hg (by omega)).mono ?_
    rintro e w' ⟨rfl, n, os, rfl⟩
    have hlen : (L.mergeSort fun x y => decide (x ≤ y)).length = L.length := List.length_mergeSort _
    generalize (L.mergeSort fun x y => decide (x ≤ y)) = M at *
    refine ⟨rfl, ⟨_, cap, by rw [hlen], fun i x hx => ⟨g, rfl, by rw [size_grow, size_putRow]; exact Nat.lt_of_lt_of_le hg (Nat.le_add_right _ _), ?_⟩⟩, ⟨rfl, rfl, rfl, by rw [size_grow, size_putRow]; exact Nat.le_add_right _ _, fun k hk hS => ?_⟩⟩
    · have hi : i < M.length := (List.getElem?_eq_some_iff.1 hx).1
      have c := cell?_putRow (Value.int .i64) (Sort.ahead w n) g 0 L.toArray M.toArray (holds_ahead _ _ _ _ _ _ hH) (by simpa using hlen) i (by simpa using hi)
      rw [Nat.zero_add] at c
      rw [cell?_grow _ _ _ (by rw [size_putRow]; exact hg), c, getElem!_pos M.toArray i (by simpa using hi)]
      have := (List.getElem?_eq_some_iff.1 hx).2
      simp [this]
    · rw [heap_grow_old _ _ (by rw [size_putRow]; exact hk)]
      have ne : g ≠ k := fun e => hS (by rw [e]; rfl)
      simp [putRow, mapBlock, Array.getElem?_modify, ne]

end Go.Proofs.Ytjeahpekcbogeaa
