/- demesnelaw15: lines and steps that came in. -/
import Derived.Test.YtclcickhgoiooaaT1
import Derived.Deep.Fields
namespace Go.Proofs.Ytclcickhgoiooaa
open Go.RowKit Go.ChangeShapes Go.WideShapes Go.ChangeAt
set_option maxRecDepth 10000

theorem perm_cells {H : Type} {enc : TypeId × Value → H} {w : World} {base : Nat} {spare : Nat → Bool} {held : Bool} {fuel : Nat} {l : List Value} {y : DataW H × List MemPlace} (hl : l.length = 3)
    (hf : DataW.trod enc Try.prog w base spare held fuel 31 l = some y) : ∃ r q x : Bool, l = [.bool r, .bool q, .bool x] := by
  obtain ⟨xs, n, _, _, _, hxl, hfs⟩ := DataW.trod_struct Try.underlying31 hf
  match l, hl with
  | [c0, c1, c2], _ =>
    have hx : xs.length = 3 := hxl
    have g0 : DataW.trod enc Try.prog w base spare held n 4 ((([c0, c1, c2] : List Value).drop 0).take (Try.prog.cellsOf 4)) = xs[0]? := hfs 0 _ rfl
    have g1 : DataW.trod enc Try.prog w base spare held n 4 ((([c0, c1, c2] : List Value).drop 1).take (Try.prog.cellsOf 4)) = xs[1]? := hfs 1 _ rfl
    have g2 : DataW.trod enc Try.prog w base spare held n 4 ((([c0, c1, c2] : List Value).drop 2).take (Try.prog.cellsOf 4)) = xs[2]? := hfs 2 _ rfl
    rw [show Try.prog.cellsOf 4 = 1 from by kernel_rfl, List.getElem?_eq_getElem (by omega)] at g0 g1 g2
    obtain ⟨r, e2, _⟩ := DataW.trod_bool Try.underlying4 g0
    obtain ⟨q, e3, _⟩ := DataW.trod_bool Try.underlying4 g1
    obtain ⟨x, e4, _⟩ := DataW.trod_bool Try.underlying4 g2
    simp at e2 e3 e4
    subst e2 e3 e4
    exact ⟨r, q, x, rfl⟩

theorem line_cells {H : Type} {enc : TypeId × Value → H} {w : World} {base : Nat} {spare : Nat → Bool} {held : Bool} {fuel : Nat} {l : List Value} {y : DataW H × List MemPlace} (hl : l.length = 11)
    (hf : DataW.trod enc Try.prog w base spare held fuel 54 l = some y) : ∃ m : LN, l = encL m ∧ m.v < 18446744073709551616 ∧ m.p < 18446744073709551616 := by
  obtain ⟨xs, n, _, _, _, hxl, hfs⟩ := DataW.trod_struct Try.underlying54 hf
  match l, hl with
  | [c0, c1, c2, c3, c4, c5, c6, c7, c8, c9, c10], _ =>
    have hx : xs.length = 7 := hxl
    have g0 : DataW.trod enc Try.prog w base spare held n 3 ((([c0, c1, c2, c3, c4, c5, c6, c7, c8, c9, c10] : List Value).drop 0).take (Try.prog.cellsOf 3)) = xs[0]? := hfs 0 _ rfl
    have g1 : DataW.trod enc Try.prog w base spare held n 3 ((([c0, c1, c2, c3, c4, c5, c6, c7, c8, c9, c10] : List Value).drop 1).take (Try.prog.cellsOf 3)) = xs[1]? := hfs 1 _ rfl
    have g2 : DataW.trod enc Try.prog w base spare held n 23 ((([c0, c1, c2, c3, c4, c5, c6, c7, c8, c9, c10] : List Value).drop 2).take (Try.prog.cellsOf 23)) = xs[2]? := hfs 2 _ rfl
    have g3 : DataW.trod enc Try.prog w base spare held n 23 ((([c0, c1, c2, c3, c4, c5, c6, c7, c8, c9, c10] : List Value).drop 3).take (Try.prog.cellsOf 23)) = xs[3]? := hfs 3 _ rfl
    have g4 : DataW.trod enc Try.prog w base spare held n 3 ((([c0, c1, c2, c3, c4, c5, c6, c7, c8, c9, c10] : List Value).drop 4).take (Try.prog.cellsOf 3)) = xs[4]? := hfs 4 _ rfl
    have g5 : DataW.trod enc Try.prog w base spare held n 31 ((([c0, c1, c2, c3, c4, c5, c6, c7, c8, c9, c10] : List Value).drop 5).take (Try.prog.cellsOf 31)) = xs[5]? := hfs 5 _ rfl
    have g6 : DataW.trod enc Try.prog w base spare held n 31 ((([c0, c1, c2, c3, c4, c5, c6, c7, c8, c9, c10] : List Value).drop 8).take (Try.prog.cellsOf 31)) = xs[6]? := hfs 6 _ rfl
    rw [show Try.prog.cellsOf 3 = 1 from by kernel_rfl, List.getElem?_eq_getElem (by omega)] at g0 g1 g4
    rw [show Try.prog.cellsOf 23 = 1 from by kernel_rfl, List.getElem?_eq_getElem (by omega)] at g2 g3
    rw [show Try.prog.cellsOf 31 = 3 from by kernel_rfl, List.getElem?_eq_getElem (by omega)] at g5 g6
    obtain ⟨i, e0, _, _⟩ := DataW.trod_int Try.underlying3 g0
    obtain ⟨a, e1, _, _⟩ := DataW.trod_int Try.underlying3 g1
    obtain ⟨v, e2, _, w2⟩ := DataW.trod_int Try.underlying23 g2
    obtain ⟨p, e3, _, w3⟩ := DataW.trod_int Try.underlying23 g3
    obtain ⟨f, e4, _, _⟩ := DataW.trod_int Try.underlying3 g4
    obtain ⟨r, q, x, e5⟩ := perm_cells (by rfl) g5
    obtain ⟨r2, q2, x2, e6⟩ := perm_cells (by rfl) g6
    simp at e0 e1 e2 e3 e4 e5 e6
    obtain ⟨e50, e51, e52⟩ := e5
    obtain ⟨e60, e61, e62⟩ := e6
    subst e0 e1 e2 e3 e4 e50 e51 e52 e60 e61 e62
    have b2 := wf_word w2
    have b3 := wf_word w3
    exact ⟨⟨i, a, v.toNat, p.toNat, f, r, q, x, r2, q2, x2⟩, by simp only [encL, Int.toNat_of_nonneg b2.1, Int.toNat_of_nonneg b3.1], by simp only; omega, by simp only; omega⟩

theorem open_line {H : Type} {enc : TypeId × Value → H} {w w' : World} {rr : Reach} {b0 base : Nat} {spare : Nat → Bool} {held : Bool} {v : Value} {d : DataW H} {ps : List MemPlace}
    (hval : Value.okWide Try.prog w' rr b0 54 v) (h : DataW.Trod enc Try.prog w base spare held 54 v d ps) :
    ∃ m : LN, v = lnV m ∧ m.v < 18446744073709551616 ∧ m.p < 18446744073709551616 := by
  obtain ⟨cs, rfl, hc⟩ := okWide_struct Try.underlying54 hval
  rw [show Try.prog.cellsOf 54 = 11 from by kernel_rfl] at hc
  obtain ⟨fuel, hf⟩ := h
  rw [show (Value.agg cs).cells = cs from rfl] at hf
  obtain ⟨l⟩ := cs
  obtain ⟨m, e, h2⟩ := line_cells (l := l) (by simpa using hc) hf
  subst e
  exact ⟨m, rfl, h2⟩

/-- A step. -/
structure OV where
  kd : Int
  st : Int
  wy : Int
  l : LN
def encO (o : OV) : List Value := [.int .i64 o.kd, .int .i64 o.st, .int .i64 o.wy, .int .i64 o.l.i, .int .i64 o.l.a, .int .u64 (o.l.v : Int), .int .u64 (o.l.p : Int), .int .i64 o.l.f, .bool o.l.r, .bool o.l.q, .bool o.l.x, .bool o.l.r2, .bool o.l.q2, .bool o.l.x2]
/-- m steps lie in w at na. -/
def OW (w : World) (na : Option Addr) (m : Nat) (V : Nat → OV) : Prop := ∀ i, i < m → (∃ b o, na = some ⟨b, o, none⟩ ∧ b < w.heap.size ∧ ∀ j y, (encO (V i))[j]? = some y → w.cell? ⟨b, o + i * 14 + j, none⟩ = some y) ∧ (V i).l.v < 18446744073709551616
theorem OW.kp {w w' : World} {na : Option Addr} {m : Nat} {V : Nat → OV} (h : OW w na m V) (k : Kp w w') : OW w' na m V := fun i hi => by
  obtain ⟨⟨b, o, h1, h2, h3⟩, h4⟩ := h i hi
  exact ⟨⟨b, o, h1, Nat.lt_of_lt_of_le h2 k.size, fun j y hy => by rw [Kp.cell k (p := ⟨b, o + i * 14 + j, none⟩) h2]; exact h3 j y hy⟩, h4⟩

theorem op_cells {H : Type} {enc : TypeId × Value → H} {w : World} {base : Nat} {spare : Nat → Bool} {held : Bool} {fuel : Nat} {l : List Value} {y : DataW H × List MemPlace} (hl : l.length = 14)
    (hf : DataW.trod enc Try.prog w base spare held fuel 56 l = some y) : ∃ o : OV, l = encO o ∧ o.l.v < 18446744073709551616 := by
  obtain ⟨xs, n, _, _, _, hxl, hfs⟩ := DataW.trod_struct Try.underlying56 hf
  match l, hl with
  | [c0, c1, c2, c3, c4, c5, c6, c7, c8, c9, c10, c11, c12, c13], _ =>
    have hx : xs.length = 4 := hxl
    have g0 : DataW.trod enc Try.prog w base spare held n 3 ((([c0, c1, c2, c3, c4, c5, c6, c7, c8, c9, c10, c11, c12, c13] : List Value).drop 0).take (Try.prog.cellsOf 3)) = xs[0]? := hfs 0 _ rfl
    have g1 : DataW.trod enc Try.prog w base spare held n 3 ((([c0, c1, c2, c3, c4, c5, c6, c7, c8, c9, c10, c11, c12, c13] : List Value).drop 1).take (Try.prog.cellsOf 3)) = xs[1]? := hfs 1 _ rfl
    have g2 : DataW.trod enc Try.prog w base spare held n 3 ((([c0, c1, c2, c3, c4, c5, c6, c7, c8, c9, c10, c11, c12, c13] : List Value).drop 2).take (Try.prog.cellsOf 3)) = xs[2]? := hfs 2 _ rfl
    have g3 : DataW.trod enc Try.prog w base spare held n 54 ((([c0, c1, c2, c3, c4, c5, c6, c7, c8, c9, c10, c11, c12, c13] : List Value).drop 3).take (Try.prog.cellsOf 54)) = xs[3]? := hfs 3 _ rfl
    rw [show Try.prog.cellsOf 3 = 1 from by kernel_rfl, List.getElem?_eq_getElem (by omega)] at g0 g1 g2
    rw [show Try.prog.cellsOf 54 = 11 from by kernel_rfl, List.getElem?_eq_getElem (by omega)] at g3
    obtain ⟨kd, e0, _, _⟩ := DataW.trod_int Try.underlying3 g0
    obtain ⟨st, e1, _, _⟩ := DataW.trod_int Try.underlying3 g1
    obtain ⟨wy, e2, _, _⟩ := DataW.trod_int Try.underlying3 g2
    obtain ⟨m, e3, m1, _⟩ := line_cells (by rfl) g3
    obtain ⟨i, a, v, p, f, r, q, x, r2, q2, x2⟩ := m
    simp [encL] at e0 e1 e2 e3
    obtain ⟨h0, h1, h2, h3, h4, h5, h6, h7, h8, h9, h10⟩ := e3
    subst e0 e1 e2 h0 h1 h2 h3 h4 h5 h6 h7 h8 h9 h10
    exact ⟨⟨kd, st, wy, ⟨i, a, v, p, f, r, q, x, r2, q2, x2⟩⟩, rfl, m1⟩

theorem open_ops {H : Type} {enc : TypeId × Value → H} {w : World} {base : Nat} {spare : Nat → Bool} {held : Bool} {fuel : Nat} {cs : List Value} {x : DataW H × List MemPlace}
    (h : DataW.trod enc Try.prog w base spare held fuel 46 cs = some x) :
    ∃ (na : Option Addr) (m mcap : Nat) (V : Nat → OV), cs = [.slice na m mcap] ∧ m ≤ maxLen ∧ OW w na m V := by
  rcases DataW.trod_slice Try.underlying46 h with ⟨h0, _⟩ | ⟨a, len, cap, elems, rest, n, _, rfl, rfl, hb, hl, hm, hlen, hel, hsp, hns⟩
  · exact ⟨none, 0, 0, fun _ => ⟨0, 0, 0, zL⟩, h0, Nat.zero_le _, fun i hi => by omega⟩
  · have each : ∀ i, i < len → ∃ e : OV, (∀ j, j < 14 → w.cell? ((a.add (i * 14)).add j) = (encO e)[j]?) ∧ e.l.v < 18446744073709551616 := fun i hi => by
      have h2 := hel i hi
      rw [List.getElem?_eq_getElem (by omega : i < elems.length), show Try.prog.cellsOf 56 = 14 from by kernel_rfl, Option.bind_eq_some_iff] at h2
      obtain ⟨cs', hcells, hy⟩ := h2
      obtain ⟨_, hclen, hcell⟩ := World.cells?_some hcells
      obtain ⟨e, rfl, hd⟩ := op_cells hclen hy
      exact ⟨e, hcell, hd⟩
    refine ⟨some a, len, cap, fun i => if h : i < len then (each i h).choose else ⟨0, 0, 0, zL⟩, rfl, by omega, fun i hi => ?_⟩
    have hs := (each i hi).choose_spec
    simp only [dif_pos hi]
    generalize (each i hi).choose = e at hs
    obtain ⟨hc, hd⟩ := hs
    obtain ⟨b, o, sp⟩ := a
    have hspot : sp = none := by
      obtain ⟨d0, hc0, _⟩ := each 0 (by omega)
      have c0 := hc0 0 (by decide)
      rw [Nat.zero_mul] at c0
      exact World.cell?_spot c0
    subst hspot
    have c0 := hc 0 (by decide)
    have hlt : b < w.heap.size := by
      have := block_lt_of_cell c0
      simpa [add_at] using this
    refine ⟨⟨b, o, rfl, hlt, fun j y hy => ?_⟩, hd⟩
    have hj : j < 14 := by
      have := (List.getElem?_eq_some_iff.1 hy).1
      exact this
    have := hc j hj
    rw [add_at, add_at] at this
    exact this.trans hy

end Go.Proofs.Ytclcickhgoiooaa
