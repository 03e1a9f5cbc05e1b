/- The cells of a descriptor that came in. -/
import Derived.Test.YtclcickhgoiooaaOD
import Derived.Test.YtclcickhgoiooaaZ1
import Derived.Deep.Fields
namespace Go.Proofs.Ytclcickhgoiooaa
open Go.RowKit Go.ChangeShapes Go.WideShapes Go.ChangeAt
set_option maxRecDepth 10000

theorem desc_cells {H : Type} {enc : TypeId × Value → H} {w : World} {base : Nat} {spare : Nat → Bool} {held : Bool} {fuel : Nat} {l : List Value} {y : DataW H × List MemPlace} (hl : l.length = 6)
    (hf : DataW.trod enc Try.prog w base spare held fuel 73 l = some y) :
    ∃ d : DV, l = [.int .i64 d.k, .int .u64 (d.a : Int), .bool d.r, .bool d.q, .bool d.x, .int .i64 d.f] ∧ d.a < 18446744073709551616 := by
  obtain ⟨xs, n, _, _, _, hxl, hfs⟩ := DataW.trod_struct Try.underlying73 hf
  match l, hl with
  | [c0, c1, c2, c3, c4, c5], _ =>
    have g0 : DataW.trod enc Try.prog w base spare held n 3 ((([c0, c1, c2, c3, c4, c5] : List Value).drop 0).take (Try.prog.cellsOf 3)) = xs[0]? := hfs 0 _ rfl
    have g1 : DataW.trod enc Try.prog w base spare held n 23 ((([c0, c1, c2, c3, c4, c5] : List Value).drop 1).take (Try.prog.cellsOf 23)) = xs[1]? := hfs 1 _ rfl
    have g2 : DataW.trod enc Try.prog w base spare held n 31 ((([c0, c1, c2, c3, c4, c5] : List Value).drop 2).take (Try.prog.cellsOf 31)) = xs[2]? := hfs 2 _ rfl
    have g3 : DataW.trod enc Try.prog w base spare held n 3 ((([c0, c1, c2, c3, c4, c5] : List Value).drop 5).take (Try.prog.cellsOf 3)) = xs[3]? := hfs 3 _ rfl
    have hx : xs.length = 4 := hxl
    rw [show Try.prog.cellsOf 3 = 1 from by kernel_rfl, List.getElem?_eq_getElem (by omega)] at g0 g3
    rw [show Try.prog.cellsOf 23 = 1 from by kernel_rfl, List.getElem?_eq_getElem (by omega)] at g1
    rw [show Try.prog.cellsOf 31 = 3 from by kernel_rfl, List.getElem?_eq_getElem (by omega)] at g2
    obtain ⟨k, e0, _, w0⟩ := DataW.trod_int Try.underlying3 g0
    obtain ⟨a, e1, _, w1⟩ := DataW.trod_int Try.underlying23 g1
    obtain ⟨f, e5, _, w5⟩ := DataW.trod_int Try.underlying3 g3
    obtain ⟨ys, m, _, _, _, hyl, hgs⟩ := DataW.trod_struct Try.underlying31 g2
    have hy : ys.length = 3 := hyl
    have p0 : DataW.trod enc Try.prog w base spare held m 4 ((([c2, c3, c4] : List Value).drop 0).take (Try.prog.cellsOf 4)) = ys[0]? := hgs 0 _ rfl
    have p1 : DataW.trod enc Try.prog w base spare held m 4 ((([c2, c3, c4] : List Value).drop 1).take (Try.prog.cellsOf 4)) = ys[1]? := hgs 1 _ rfl
    have p2 : DataW.trod enc Try.prog w base spare held m 4 ((([c2, c3, c4] : List Value).drop 2).take (Try.prog.cellsOf 4)) = ys[2]? := hgs 2 _ rfl
    rw [show Try.prog.cellsOf 4 = 1 from by kernel_rfl, List.getElem?_eq_getElem (by omega)] at p0 p1 p2
    obtain ⟨r, e2, _⟩ := DataW.trod_bool Try.underlying4 p0
    obtain ⟨q, e3, _⟩ := DataW.trod_bool Try.underlying4 p1
    obtain ⟨x, e4, _⟩ := DataW.trod_bool Try.underlying4 p2
    simp at e0 e1 e2 e3 e4 e5
    subst e0 e1 e2 e3 e4 e5
    have b := wf_word w1
    exact ⟨⟨k, a.toNat, r, q, x, f⟩, by simp only [Int.toNat_of_nonneg b.1], by simp only; omega⟩

end Go.Proofs.Ytclcickhgoiooaa
