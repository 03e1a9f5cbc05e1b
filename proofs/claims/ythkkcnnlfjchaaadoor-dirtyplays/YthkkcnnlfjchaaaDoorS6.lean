/- Steps that came in: lists of structs of an int and a word. -/
import Derived.Test.YthkkcnnlfjchaaaDoorOS
import Derived.Test.YthkkcnnlfjchaaaDoorL1
namespace Go.Proofs.YthkkcnnlfjchaaaDoor
open Go.RowKit Go.ChangeShapes Go.WideShapes Go.ChangeAt

/-- m steps lie in w at na: an int and a word each. -/
def Steps (w : World) (na : Option Addr) (m : Nat) (V : Nat → Int × Nat) : Prop := ∀ i, i < m → (∃ b o, na = some ⟨b, o, none⟩ ∧ b < w.heap.size ∧ w.cell? ⟨b, o + i * 2, none⟩ = some (.int .i64 (V i).1) ∧ w.cell? ⟨b, o + i * 2 + 1, none⟩ = some (.int .u64 ((V i).2 : Int))) ∧ (Lit.int .i64 (V i).1).wf = true ∧ (V i).2 < 18446744073709551616
theorem open_steps {H : Type} {enc : TypeId × Value → H} {w : World} {base : Nat} {spare : Nat → Bool} {held : Bool} {fuel : Nat} {cs : List Value} {x : DataW H × List MemPlace}
    (h : DataW.trod enc Tryd.prog w base spare held fuel 22 cs = some x) :
    ∃ (na : Option Addr) (m mcap : Nat) (V : Nat → Int × Nat), cs = [.slice na m mcap] ∧ m ≤ maxLen ∧ Steps w na m V := by
  obtain ⟨na, m, mcap, h1, h2, _, _, h3⟩ := open_structs Tryd.underlying22 Tryd.underlying31 (Go.Deep.hone_of (by kernel_rfl)) (by kernel_rfl) (by decide) h
  have each : ∀ i, i < m → ∃ v : Int × Nat, (∃ b o, na = some ⟨b, o, none⟩ ∧ b < w.heap.size ∧ w.cell? ⟨b, o + i * 2, none⟩ = some (.int .i64 v.1) ∧ w.cell? ⟨b, o + i * 2 + 1, none⟩ = some (.int .u64 (v.2 : Int))) ∧ (Lit.int .i64 v.1).wf = true ∧ v.2 < 18446744073709551616 := fun i hi => by
    obtain ⟨b, of, V, e1, e2, e3⟩ := h3 i hi
    obtain ⟨c0, n0, y0, t0⟩ := e3 0 _ rfl
    obtain ⟨c1, n1, y1, t1⟩ := e3 1 _ rfl
    obtain ⟨a0, v0, _, w0⟩ := DataW.trod_int Tryd.underlying3 t0
    obtain ⟨a1, v1, _, w1⟩ := DataW.trod_int Tryd.underlying29 t1
    simp only [List.cons.injEq, and_true] at v0 v1
    rw [v0] at c0
    rw [v1] at c1
    obtain ⟨g1, g2⟩ := wf_word w1
    exact ⟨(a0, a1.toNat), ⟨b, of, e1, e2, c0, c1.trans (by show some (Value.int .u64 a1) = some (.int .u64 ((a1.toNat : Nat) : Int)); rw [Int.toNat_of_nonneg g1])⟩, w0, by show a1.toNat < _; omega⟩
  refine ⟨na, m, mcap, fun i => if h : i < m then (each i h).choose else (0, 0), h1, h2, fun i hi => ?_⟩
  have := (each i hi).choose_spec
  simp only [dif_pos hi]
  exact this

end Go.Proofs.YthkkcnnlfjchaaaDoor
