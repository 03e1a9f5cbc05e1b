/- A slice of marks that came in. -/
import Derived.Test.YthkkcnnlfjchaaaDoorK0
namespace Go.Proofs.YthkkcnnlfjchaaaDoor
open Go.ChangeShapes Go.WideShapes Go.ChangeAt Go.RowKit
set_option maxRecDepth 10000

/-- m marks lie in w at na. -/
def NS (w : World) (na : Option Addr) (m : Nat) (nb : Nat → Bool) : Prop := ∀ i, i < m → ∃ b o, na = some ⟨b, o, none⟩ ∧ b < w.heap.size ∧ w.cell? ⟨b, o + i, none⟩ = some (.bool (nb i))
theorem open_marks {H : Type} {enc : TypeId × Value → H} {P : Program} {w : World} {base : Nat} {spare : Nat → Bool} {held : Bool} {t e : TypeId} {fuel : Nat} {cs : List Value} {x : DataW H × List MemPlace}
    (ht : P.underlying t = some (.slice e)) (he : P.underlying e = some .bool) (hc : P.cellsOf e = 1) (h : DataW.trod enc P w base spare held fuel t cs = some x) :
    ∃ (na : Option Addr) (m mcap : Nat) (nb : Nat → Bool), cs = [.slice na m mcap] ∧ m ≤ maxLen ∧ NS w na m nb := by
  obtain ⟨na, m, mcap, vs, h1, h2, _, h3⟩ := open_row ht hc (fun n cs' y hy => by obtain ⟨b, hb, _⟩ := DataW.trod_bool he hy; exact ⟨_, hb⟩) h
  refine ⟨na, m, mcap, fun i => match vs i with | .bool b => b | _ => false, h1, h2, fun i hi => ?_⟩
  obtain ⟨⟨b, o, k1, k2, k3⟩, n, y, hy⟩ := h3 i hi
  obtain ⟨v, hv, _⟩ := DataW.trod_bool he hy
  simp only [List.cons.injEq, and_true] at hv
  refine ⟨b, o, k1, k2, ?_⟩
  simp only [k3, hv]

end Go.Proofs.YthkkcnnlfjchaaaDoor
