/- Slices of structs that came in. -/
import Derived.Test.YthkkcnnlfjchaaaDoorU0
import Derived.Deep.Fields
namespace Go.Proofs.YthkkcnnlfjchaaaDoor
open Go.RowKit Go.ChangeShapes Go.WideShapes Go.ChangeAt
set_option maxRecDepth 10000

/-- A slice of structs of one-cell fields that was read: each field's cell holds what its reading takes. -/
theorem open_structs {H : Type} {enc : TypeId × Value → H} {P : Program} {w : World} {base : Nat} {spare : Nat → Bool} {held : Bool} {t e : TypeId} {fs : Array Field} {fuel : Nat} {cs : List Value} {x : DataW H × List MemPlace}
    (ht : P.underlying t = some (.slice e)) (hs : P.underlying e = some (.struct fs)) (hone : ∀ (i : Nat) (f : Field), fs[i]? = some f → f.offset = i ∧ P.cellsOf f.type = 1) (hC : P.cellsOf e = fs.size) (hpos : 0 < fs.size)
    (h : DataW.trod enc P w base spare held fuel t cs = some x) :
    ∃ (na : Option Addr) (m mcap : Nat), cs = [.slice na m mcap] ∧ m ≤ maxLen ∧ m ≤ mcap ∧ (na = none → mcap = 0) ∧
      ∀ i, i < m → ∃ (b o : Nat) (V : Nat → Value), na = some ⟨b, o, none⟩ ∧ b < w.heap.size ∧ ∀ (j : Nat) (f : Field), fs[j]? = some f → w.cell? ⟨b, o + (i * fs.size + j), none⟩ = some (V j) ∧ ∃ n y, DataW.trod enc P w base spare held n f.type [V j] = some y := by
  rcases DataW.trod_slice ht h with ⟨h0, _⟩ | ⟨a, len, cap, elems, rest, n, _, rfl, rfl, hb, hl, hm, hlen, hel, hsp, hns⟩
  · exact ⟨none, 0, 0, h0, Nat.zero_le _, Nat.le_refl _, fun _ => rfl, fun i hi => by omega⟩
  · have each : ∀ i, i < len → ∃ cs' : List Value, (∀ j, j < fs.size → w.cell? ((a.add (i * fs.size)).add j) = cs'[j]?) ∧ cs'.length = fs.size ∧ ∃ (k : Nat) (xs : List (DataW H × List MemPlace)), xs.length = fs.size ∧ ∀ (j : Nat) (f : Field), fs[j]? = some f → DataW.trod enc P w base spare held k f.type ((cs'.drop f.offset).take (P.cellsOf f.type)) = xs[j]? := fun i hi => by
      have h2 := hel i hi
      rw [List.getElem?_eq_getElem (by omega : i < elems.length), hC, Option.bind_eq_some_iff] at h2
      obtain ⟨cs', hcells, hy⟩ := h2
      obtain ⟨_, hclen, hcell⟩ := World.cells?_some hcells
      obtain ⟨xs, k, _, _, _, hxl, hf⟩ := DataW.trod_struct hs hy
      exact ⟨cs', hcell, hclen, k, xs, hxl, hf⟩
    refine ⟨some a, len, cap, rfl, by omega, hl, (fun h => by cases h), fun i hi => ?_⟩
    obtain ⟨b, o, sp⟩ := a
    have hspot : sp = none := by
      obtain ⟨cs0, hc0, hl0, _⟩ := each 0 (by omega)
      have c0 := hc0 0 hpos
      rw [List.getElem?_eq_getElem (by omega), Nat.zero_mul] at c0
      exact World.cell?_spot c0
    subst hspot
    obtain ⟨cs', hcell, hclen, k, xs, hxl, hf⟩ := each i hi
    have c0 := hcell 0 hpos
    rw [List.getElem?_eq_getElem (by omega)] at c0
    have hlt : b < w.heap.size := by
      have := block_lt_of_cell c0
      simpa [add_at] using this
    refine ⟨b, o, fun j => cs'.getD j undef, rfl, hlt, fun j f hj => ?_⟩
    have hjl : j < fs.size := (Array.getElem?_eq_some_iff.1 hj).1
    obtain ⟨ho, hc1⟩ := hone j f hj
    have g := hf j f hj
    rw [ho, hc1, Go.Deep.take1_drop cs' j undef (by omega), List.getElem?_eq_getElem (by omega)] at g
    refine ⟨?_, _, _, g⟩
    have := hcell j hjl
    rw [List.getElem?_eq_getElem (by omega), add_at, add_at] at this
    rw [← Nat.add_assoc, this]
    simp [List.getD, List.getElem?_eq_getElem (show j < cs'.length by omega)]

end Go.Proofs.YthkkcnnlfjchaaaDoor
