/- Lists of edits that came in. -/
import Derived.Test.YtclcickhgoiooaaOY
import Derived.Test.YtclcickhgoiooaaNO
namespace Go.Proofs.Ytclcickhgoiooaa
open Go.RowKit Go.ChangeShapes Go.WideShapes Go.ChangeAt
set_option maxRecDepth 10000

theorem edit_cells {H : Type} {enc : TypeId × Value → H} {w : World} {base : Nat} {spare : Nat → Bool} {held : Bool} {fuel : Nat} {l : List Value} {y : DataW H × List MemPlace} (hl : l.length = 10)
    (hf : DataW.trod enc Try.prog w base spare held fuel 76 l = some y) :
    ∃ e : EV, l = encE e ∧ e.d.a < 18446744073709551616 ∧ e.u < 18446744073709551616 := by
  obtain ⟨xs, n, _, _, _, hxl, hfs⟩ := DataW.trod_struct Try.underlying76 hf
  match l, hl with
  | [c0, c1, c2, c3, c4, c5, c6, c7, c8, c9], _ =>
    have g0 : DataW.trod enc Try.prog w base spare held n 3 ((([c0, c1, c2, c3, c4, c5, c6, c7, c8, c9] : List Value).drop 0).take (Try.prog.cellsOf 3)) = xs[0]? := hfs 0 _ rfl
    have g1 : DataW.trod enc Try.prog w base spare held n 3 ((([c0, c1, c2, c3, c4, c5, c6, c7, c8, c9] : List Value).drop 1).take (Try.prog.cellsOf 3)) = xs[1]? := hfs 1 _ rfl
    have g2 : DataW.trod enc Try.prog w base spare held n 73 ((([c0, c1, c2, c3, c4, c5, c6, c7, c8, c9] : List Value).drop 2).take (Try.prog.cellsOf 73)) = xs[2]? := hfs 2 _ rfl
    have g3 : DataW.trod enc Try.prog w base spare held n 4 ((([c0, c1, c2, c3, c4, c5, c6, c7, c8, c9] : List Value).drop 8).take (Try.prog.cellsOf 4)) = xs[3]? := hfs 3 _ rfl
    have g4 : DataW.trod enc Try.prog w base spare held n 23 ((([c0, c1, c2, c3, c4, c5, c6, c7, c8, c9] : List Value).drop 9).take (Try.prog.cellsOf 23)) = xs[4]? := hfs 4 _ rfl
    have hx : xs.length = 5 := hxl
    rw [show Try.prog.cellsOf 3 = 1 from by kernel_rfl, List.getElem?_eq_getElem (by omega)] at g0 g1
    rw [show Try.prog.cellsOf 23 = 1 from by kernel_rfl, List.getElem?_eq_getElem (by omega)] at g4
    rw [show Try.prog.cellsOf 4 = 1 from by kernel_rfl, List.getElem?_eq_getElem (by omega)] at g3
    rw [show Try.prog.cellsOf 73 = 6 from by kernel_rfl, List.getElem?_eq_getElem (by omega)] at g2
    obtain ⟨wh, e0, _, _⟩ := DataW.trod_int Try.underlying3 g0
    obtain ⟨ix, e1, _, _⟩ := DataW.trod_int Try.underlying3 g1
    obtain ⟨dv, e2, hd⟩ := desc_cells (by rfl) g2
    obtain ⟨raw, e3, _⟩ := DataW.trod_bool Try.underlying4 g3
    obtain ⟨u, e4, _, w4⟩ := DataW.trod_int Try.underlying23 g4
    obtain ⟨dk, da, dr, dq, dx, df⟩ := dv
    simp at e0 e1 e2 e3 e4
    obtain ⟨e20, e21, e22, e23, e24, e25⟩ := e2
    subst e0 e1 e20 e21 e22 e23 e24 e25 e3 e4
    have b := wf_word w4
    exact ⟨⟨wh, ix, ⟨dk, da, dr, dq, dx, df⟩, raw, u.toNat⟩, by simp only [encE, Int.toNat_of_nonneg b.1], hd, by simp only; omega⟩

theorem open_edits {H : Type} {enc : TypeId × Value → H} {w : World} {base : Nat} {spare : Nat → Bool} {held : Bool} {fuel : Nat} {cs : List Value} {x : DataW H × List MemPlace}
    (h : DataW.trod enc Try.prog w base spare held fuel 22 cs = some x) :
    ∃ (na : Option Addr) (m mcap : Nat) (V : Nat → EV), cs = [.slice na m mcap] ∧ m ≤ maxLen ∧ ES w na m V := by
  rcases DataW.trod_slice Try.underlying22 h with ⟨h0, _⟩ | ⟨a, len, cap, elems, rest, n, _, rfl, rfl, hb, hl, hm, hlen, hel, hsp, hns⟩
  · exact ⟨none, 0, 0, fun _ => ⟨0, 0, ⟨0, 0, false, false, false, 0⟩, false, 0⟩, h0, Nat.zero_le _, fun i hi => by omega⟩
  · have each : ∀ i, i < len → ∃ e : EV, (∀ j, j < 10 → w.cell? ((a.add (i * 10)).add j) = (encE e)[j]?) ∧ e.d.a < 18446744073709551616 ∧ e.u < 18446744073709551616 := fun i hi => by
      have h2 := hel i hi
      rw [List.getElem?_eq_getElem (by omega : i < elems.length), show Try.prog.cellsOf 76 = 10 from by kernel_rfl, Option.bind_eq_some_iff] at h2
      obtain ⟨cs', hcells, hy⟩ := h2
      obtain ⟨_, hclen, hcell⟩ := World.cells?_some hcells
      obtain ⟨e, rfl, hd⟩ := edit_cells hclen hy
      exact ⟨e, hcell, hd⟩
    refine ⟨some a, len, cap, fun i => if h : i < len then (each i h).choose else ⟨0, 0, ⟨0, 0, false, false, false, 0⟩, false, 0⟩, rfl, by omega, fun i hi => ?_⟩
    have hs := (each i hi).choose_spec
    simp only [dif_pos hi]
    generalize (each i hi).choose = e at hs
    obtain ⟨hc, hd⟩ := hs
    obtain ⟨b, o, sp⟩ := a
    have hspot : sp = none := by
      obtain ⟨d0, hc0, _⟩ := each 0 (by omega)
      have c0 := hc0 0 (by decide)
      rw [Nat.zero_mul] at c0
      exact World.cell?_spot c0
    subst hspot
    have c0 := hc 0 (by decide)
    have hlt : b < w.heap.size := by
      have := block_lt_of_cell c0
      simpa [add_at] using this
    refine ⟨⟨b, o, rfl, hlt, fun j y hy => ?_⟩, hd⟩
    have hj : j < 10 := by
      have := (List.getElem?_eq_some_iff.1 hy).1
      exact this
    have := hc j hj
    rw [add_at, add_at] at this
    exact this.trans hy

end Go.Proofs.Ytclcickhgoiooaa
