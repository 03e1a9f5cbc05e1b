/- Steps that came in: lists of structs of two ints. -/
import Derived.Test.YtclheedcdogkbaaOS
namespace Go.Proofs.Ytclheedcdogkbaa
open Go.RowKit Go.ChangeShapes Go.WideShapes Go.ChangeAt

/-- m steps lie in w at na: two ints each. -/
def Steps (w : World) (na : Option Addr) (m : Nat) (V : Nat → Int × Int) : Prop := ∀ i, i < m → (∃ b o, na = some ⟨b, o, none⟩ ∧ b < w.heap.size ∧ w.cell? ⟨b, o + i * 2, none⟩ = some (.int .i64 (V i).1) ∧ w.cell? ⟨b, o + i * 2 + 1, none⟩ = some (.int .i64 (V i).2)) ∧ (Lit.int .i64 (V i).1).wf = true ∧ (Lit.int .i64 (V i).2).wf = true
theorem open_steps {H : Type} {enc : TypeId × Value → H} {w : World} {base : Nat} {spare : Nat → Bool} {held : Bool} {fuel : Nat} {cs : List Value} {x : DataW H × List MemPlace}
    (h : DataW.trod enc Try.prog w base spare held fuel 22 cs = some x) :
    ∃ (na : Option Addr) (m mcap : Nat) (V : Nat → Int × Int), cs = [.slice na m mcap] ∧ m ≤ maxLen ∧ Steps w na m V := by
  obtain ⟨na, m, mcap, h1, h2, _, _, h3⟩ := open_structs Try.underlying22 Try.underlying31 (Go.Deep.hone_of (by kernel_rfl)) (by kernel_rfl) (by decide) h
  have each : ∀ i, i < m → ∃ v : Int × Int, (∃ b o, na = some ⟨b, o, none⟩ ∧ b < w.heap.size ∧ w.cell? ⟨b, o + i * 2, none⟩ = some (.int .i64 v.1) ∧ w.cell? ⟨b, o + i * 2 + 1, none⟩ = some (.int .i64 v.2)) ∧ (Lit.int .i64 v.1).wf = true ∧ (Lit.int .i64 v.2).wf = true := fun i hi => by
    obtain ⟨b, of, V, e1, e2, e3⟩ := h3 i hi
    obtain ⟨c0, n0, y0, t0⟩ := e3 0 _ rfl
    obtain ⟨c1, n1, y1, t1⟩ := e3 1 _ rfl
    obtain ⟨a0, v0, _, w0⟩ := DataW.trod_int Try.underlying3 t0
    obtain ⟨a1, v1, _, w1⟩ := DataW.trod_int Try.underlying3 t1
    simp only [List.cons.injEq, and_true] at v0 v1
    rw [v0] at c0
    rw [v1] at c1
    exact ⟨(a0, a1), ⟨b, of, e1, e2, c0, c1⟩, w0, w1⟩
  refine ⟨na, m, mcap, fun i => if h : i < m then (each i h).choose else (0, 0), h1, h2, fun i hi => ?_⟩
  have := (each i hi).choose_spec
  simp only [dif_pos hi]
  exact this

end Go.Proofs.Ytclheedcdogkbaa
