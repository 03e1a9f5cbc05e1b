/- A permission that came in. -/
import Derived.Test.YtcankhnnikhblaaGreatDoorU0
namespace Go.Proofs.YtcankhnnikhblaaGreatDoor
open Go.RowKit Go.ChangeShapes Go.WideShapes Go.ChangeAt
set_option maxRecDepth 10000

theorem open_perm {H : Type} {enc : TypeId × Value → H} {w w' : World} {rr : Reach} {b0 base : Nat} {spare : Nat → Bool} {held : Bool} {v : Value} {d : DataW H} {ps : List MemPlace}
    (hval : Value.okWide Tryz.prog w' rr b0 39 v) (h : DataW.Trod enc Tryz.prog w base spare held 39 v d ps) :
    ∃ (r q x : Bool), v = .agg #[.bool r, .bool q, .bool x] := by
  obtain ⟨cs, rfl, hc⟩ := okWide_struct Tryz.underlying39 hval
  rw [show Tryz.prog.cellsOf 39 = 3 from by kernel_rfl] at hc
  obtain ⟨fuel, hf⟩ := h
  rw [show (Value.agg cs).cells = cs from rfl] at hf
  obtain ⟨xs, n, _, _, _, hxl, hfs⟩ := DataW.trod_struct Tryz.underlying39 hf
  obtain ⟨l⟩ := cs
  have hl : l.length = 3 := by simpa using hc
  match l, hl with
  | [c0, c1, c2], _ =>
    have hx : xs.length = 3 := hxl
    have p0 : DataW.trod enc Tryz.prog w base spare held n 4 ((([c0, c1, c2] : List Value).drop 0).take (Tryz.prog.cellsOf 4)) = xs[0]? := hfs 0 _ rfl
    have p1 : DataW.trod enc Tryz.prog w base spare held n 4 ((([c0, c1, c2] : List Value).drop 1).take (Tryz.prog.cellsOf 4)) = xs[1]? := hfs 1 _ rfl
    have p2 : DataW.trod enc Tryz.prog w base spare held n 4 ((([c0, c1, c2] : List Value).drop 2).take (Tryz.prog.cellsOf 4)) = xs[2]? := hfs 2 _ rfl
    rw [show Tryz.prog.cellsOf 4 = 1 from by kernel_rfl, List.getElem?_eq_getElem (by omega)] at p0 p1 p2
    obtain ⟨r, e0, _⟩ := DataW.trod_bool Tryz.underlying4 p0
    obtain ⟨q, e1, _⟩ := DataW.trod_bool Tryz.underlying4 p1
    obtain ⟨x, e2, _⟩ := DataW.trod_bool Tryz.underlying4 p2
    simp at e0 e1 e2
    subst e0 e1 e2
    exact ⟨r, q, x, rfl⟩

end Go.Proofs.YtcankhnnikhblaaGreatDoor
