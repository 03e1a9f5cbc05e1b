/- Steps that came in: lists of structs of two ints and a place. -/
import Derived.Test.YtfpmakmemmnbkaaA6
import Derived.ProofKit
import Derived.OpenShut
import Derived.WalkKit
namespace Go.Proofs.Ytfpmakmemmnbkaa
open Go.RowKit Go.ChangeShapes Go.WideShapes Go.ChangeAt
set_option maxRecDepth 10000

def encO4 (o : Int × UC) : List Value := [.int .i64 o.1, .int .i64 o.2.1, .int .i64 o.2.2.1, .int .u64 o.2.2.2]
/-- m steps lie in w at na. -/
def Steps (w : World) (na : Option Addr) (m : Nat) (V : Nat → Int × UC) : Prop := ∀ i, i < m → (∃ b o, na = some ⟨b, o, none⟩ ∧ b < w.heap.size ∧ ∀ j y, (encO4 (V i))[j]? = some y → w.cell? ⟨b, o + i * 4 + j, none⟩ = some y) ∧ (Lit.int .i64 (V i).1).wf = true ∧ okU (V i).2
theorem place_cells {H : Type} {enc : TypeId × Value → H} {w : World} {base : Nat} {spare : Nat → Bool} {held : Bool} {fuel : Nat} {l : List Value} {y : DataW H × List MemPlace} (hl : l.length = 2)
    (hf : DataW.trod enc Try.prog w base spare held fuel 31 l = some y) : ∃ m : PLc, l = [.int .i64 m.1, .int .u64 m.2] ∧ okP m := by
  obtain ⟨xs, n, _, _, _, hxl, hfs⟩ := DataW.trod_struct Try.underlying31 hf
  match l, hl with
  | [c0, c1], _ =>
    have hx : xs.length = 2 := hxl
    have g0 : DataW.trod enc Try.prog w base spare held n 3 ((([c0, c1] : List Value).drop 0).take (Try.prog.cellsOf 3)) = xs[0]? := hfs 0 _ rfl
    have g1 : DataW.trod enc Try.prog w base spare held n 29 ((([c0, c1] : List Value).drop 1).take (Try.prog.cellsOf 29)) = xs[1]? := hfs 1 _ rfl
    rw [cells_int, List.getElem?_eq_getElem (by omega)] at g0
    rw [cells_word, List.getElem?_eq_getElem (by omega)] at g1
    obtain ⟨a, e0, _, w0⟩ := DataW.trod_int Try.underlying3 g0
    obtain ⟨p, e1, _, w1⟩ := DataW.trod_int Try.underlying29 g1
    simp at e0 e1
    subst e0 e1
    exact ⟨(a, p), rfl, w0, w1⟩
theorem op4_cells {H : Type} {enc : TypeId × Value → H} {w : World} {base : Nat} {spare : Nat → Bool} {held : Bool} {fuel : Nat} {l : List Value} {y : DataW H × List MemPlace} (hl : l.length = 4)
    (hf : DataW.trod enc Try.prog w base spare held fuel 33 l = some y) : ∃ o : Int × UC, l = encO4 o ∧ (Lit.int .i64 o.1).wf = true ∧ okU o.2 := by
  obtain ⟨xs, n, _, _, _, hxl, hfs⟩ := DataW.trod_struct Try.underlying33 hf
  match l, hl with
  | [c0, c1, c2, c3], _ =>
    have hx : xs.length = 3 := hxl
    have g0 : DataW.trod enc Try.prog w base spare held n 3 ((([c0, c1, c2, c3] : List Value).drop 0).take (Try.prog.cellsOf 3)) = xs[0]? := hfs 0 _ rfl
    have g1 : DataW.trod enc Try.prog w base spare held n 3 ((([c0, c1, c2, c3] : List Value).drop 1).take (Try.prog.cellsOf 3)) = xs[1]? := hfs 1 _ rfl
    have g2 : DataW.trod enc Try.prog w base spare held n 31 ((([c0, c1, c2, c3] : List Value).drop 2).take (Try.prog.cellsOf 31)) = xs[2]? := hfs 2 _ rfl
    rw [cells_int, List.getElem?_eq_getElem (by omega)] at g0 g1
    rw [cells_place, List.getElem?_eq_getElem (by omega)] at g2
    obtain ⟨kd, e0, _, w0⟩ := DataW.trod_int Try.underlying3 g0
    obtain ⟨fr, e1, _, w1⟩ := DataW.trod_int Try.underlying3 g1
    obtain ⟨m, e2, w2⟩ := place_cells (by rfl) g2
    simp at e0 e1 e2
    obtain ⟨e20, e21⟩ := e2
    subst e0 e1 e20 e21
    exact ⟨(kd, (fr, m)), rfl, w0, w1, w2⟩
theorem open_steps {H : Type} {enc : TypeId × Value → H} {w : World} {base : Nat} {spare : Nat → Bool} {held : Bool} {fuel : Nat} {cs : List Value} {x : DataW H × List MemPlace}
    (h : DataW.trod enc Try.prog w base spare held fuel 22 cs = some x) :
    ∃ (na : Option Addr) (m mcap : Nat) (V : Nat → Int × UC), cs = [.slice na m mcap] ∧ m ≤ maxLen ∧ Steps w na m V := by
  rcases DataW.trod_slice Try.underlying22 h with ⟨h0, _⟩ | ⟨a, len, cap, elems, rest, n, _, rfl, rfl, hb, hl, hm, hlen, hel, hsp, hns⟩
  · exact ⟨none, 0, 0, fun _ => (0, (0, (0, 0))), h0, Nat.zero_le _, fun i hi => by omega⟩
  · have each : ∀ i, i < len → ∃ e : Int × UC, (∀ j, j < 4 → w.cell? ((a.add (i * 4)).add j) = (encO4 e)[j]?) ∧ (Lit.int .i64 e.1).wf = true ∧ okU e.2 := fun i hi => by
      have h2 := hel i hi
      rw [List.getElem?_eq_getElem (by omega : i < elems.length), show Try.prog.cellsOf 33 = 4 from by kernel_rfl, Option.bind_eq_some_iff] at h2
      obtain ⟨cs', hcells, hy⟩ := h2
      obtain ⟨_, hclen, hcell⟩ := World.cells?_some hcells
      obtain ⟨e, rfl, hd⟩ := op4_cells hclen hy
      exact ⟨e, hcell, hd⟩
    refine ⟨some a, len, cap, fun i => if h : i < len then (each i h).choose else (0, (0, (0, 0))), rfl, by omega, fun i hi => ?_⟩
    have hs := (each i hi).choose_spec
    simp only [dif_pos hi]
    generalize (each i hi).choose = e at hs
    obtain ⟨hc, hd⟩ := hs
    obtain ⟨b, o, sp⟩ := a
    have hspot : sp = none := by
      obtain ⟨d0, hc0, _⟩ := each 0 (by omega)
      have c0 := hc0 0 (by decide)
      rw [Nat.zero_mul] at c0
      exact World.cell?_spot c0
    subst hspot
    have c0 := hc 0 (by decide)
    have hlt : b < w.heap.size := by
      have := block_lt_of_cell c0
      simpa [add_at] using this
    refine ⟨⟨b, o, rfl, hlt, fun j y hy => ?_⟩, hd⟩
    have hj : j < 4 := by
      have := (List.getElem?_eq_some_iff.1 hy).1
      exact this
    have := hc j hj
    rw [add_at, add_at] at this
    exact this.trans hy

end Go.Proofs.Ytfpmakmemmnbkaa
