/- Lists of descriptors that came in. -/
import Derived.Test.YtcbciehffgaapaaOD
import Derived.Test.YtcbciehffgaapaaZ1
import Derived.Deep.Fields
namespace Go.Proofs.Ytcbciehffgaapaa
open Go.RowKit Go.ChangeShapes Go.WideShapes Go.ChangeAt

theorem desc_cells {H : Type} {enc : TypeId × Value → H} {w : World} {base : Nat} {spare : Nat → Bool} {held : Bool} {fuel : Nat} {l : List Value} {y : DataW H × List MemPlace} (hl : l.length = 6)
    (hf : DataW.trod enc Try.prog w base spare held fuel 48 l = some y) :
    ∃ d : DV, l = [.int .i64 d.k, .int .u64 (d.a : Int), .bool d.r, .bool d.q, .bool d.x, .int .i64 d.f] ∧ d.a < 18446744073709551616 := by
  obtain ⟨xs, n, _, _, _, hxl, hfs⟩ := DataW.trod_struct Try.underlying48 hf
  match l, hl with
  | [c0, c1, c2, c3, c4, c5], _ =>
    have g0 : DataW.trod enc Try.prog w base spare held n 3 ((([c0, c1, c2, c3, c4, c5] : List Value).drop 0).take (Try.prog.cellsOf 3)) = xs[0]? := hfs 0 _ rfl
    have g1 : DataW.trod enc Try.prog w base spare held n 22 ((([c0, c1, c2, c3, c4, c5] : List Value).drop 1).take (Try.prog.cellsOf 22)) = xs[1]? := hfs 1 _ rfl
    have g2 : DataW.trod enc Try.prog w base spare held n 46 ((([c0, c1, c2, c3, c4, c5] : List Value).drop 2).take (Try.prog.cellsOf 46)) = xs[2]? := hfs 2 _ rfl
    have g3 : DataW.trod enc Try.prog w base spare held n 3 ((([c0, c1, c2, c3, c4, c5] : List Value).drop 5).take (Try.prog.cellsOf 3)) = xs[3]? := hfs 3 _ rfl
    have hx : xs.length = 4 := hxl
    rw [show Try.prog.cellsOf 3 = 1 from by kernel_rfl, List.getElem?_eq_getElem (by omega)] at g0 g3
    rw [show Try.prog.cellsOf 22 = 1 from by kernel_rfl, List.getElem?_eq_getElem (by omega)] at g1
    rw [show Try.prog.cellsOf 46 = 3 from by kernel_rfl, List.getElem?_eq_getElem (by omega)] at g2
    obtain ⟨k, e0, _, w0⟩ := DataW.trod_int Try.underlying3 g0
    obtain ⟨a, e1, _, w1⟩ := DataW.trod_int Try.underlying22 g1
    obtain ⟨f, e5, _, w5⟩ := DataW.trod_int Try.underlying3 g3
    obtain ⟨ys, m, _, _, _, hyl, hgs⟩ := DataW.trod_struct Try.underlying46 g2
    have hy : ys.length = 3 := hyl
    have p0 : DataW.trod enc Try.prog w base spare held m 4 ((([c2, c3, c4] : List Value).drop 0).take (Try.prog.cellsOf 4)) = ys[0]? := hgs 0 _ rfl
    have p1 : DataW.trod enc Try.prog w base spare held m 4 ((([c2, c3, c4] : List Value).drop 1).take (Try.prog.cellsOf 4)) = ys[1]? := hgs 1 _ rfl
    have p2 : DataW.trod enc Try.prog w base spare held m 4 ((([c2, c3, c4] : List Value).drop 2).take (Try.prog.cellsOf 4)) = ys[2]? := hgs 2 _ rfl
    rw [show Try.prog.cellsOf 4 = 1 from by kernel_rfl, List.getElem?_eq_getElem (by omega)] at p0 p1 p2
    obtain ⟨r, e2, _⟩ := DataW.trod_bool Try.underlying4 p0
    obtain ⟨q, e3, _⟩ := DataW.trod_bool Try.underlying4 p1
    obtain ⟨x, e4, _⟩ := DataW.trod_bool Try.underlying4 p2
    simp at e0 e1 e2 e3 e4 e5
    subst e0 e1 e2 e3 e4 e5
    have b := wf_word w1
    exact ⟨⟨k, a.toNat, r, q, x, f⟩, by simp only [Int.toNat_of_nonneg b.1], by simp only; omega⟩

/-- m descriptors lie in w at na. -/
def DS (w : World) (na : Option Addr) (m : Nat) (V : Nat → DV) : Prop := ∀ i, i < m → (∃ b o, na = some ⟨b, o, none⟩ ∧ b < w.heap.size ∧ w.cell? ⟨b, o + i * 6, none⟩ = some (.int .i64 (V i).k) ∧ w.cell? ⟨b, o + i * 6 + 1, none⟩ = some (.int .u64 ((V i).a : Int)) ∧ w.cell? ⟨b, o + i * 6 + 2, none⟩ = some (.bool (V i).r) ∧ w.cell? ⟨b, o + i * 6 + 3, none⟩ = some (.bool (V i).q) ∧ w.cell? ⟨b, o + i * 6 + 4, none⟩ = some (.bool (V i).x) ∧ w.cell? ⟨b, o + i * 6 + 5, none⟩ = some (.int .i64 (V i).f)) ∧ (V i).a < 18446744073709551616
theorem DS.kp {w w' : World} {na : Option Addr} {m : Nat} {V : Nat → DV} (h : DS w na m V) (k : Kp w w') : DS w' na m V := fun i hi => by
  obtain ⟨⟨b, o, h1, h2, c0, c1, c2, c3, c4, c5⟩, h4⟩ := h i hi
  have e : ∀ j, w'.cell? ⟨b, j, none⟩ = w.cell? ⟨b, j, none⟩ := fun j => Kp.cell k (p := ⟨b, j, none⟩) h2
  exact ⟨⟨b, o, h1, Nat.lt_of_lt_of_le h2 k.size, (e _).trans c0, (e _).trans c1, (e _).trans c2, (e _).trans c3, (e _).trans c4, (e _).trans c5⟩, h4⟩

theorem open_descs {H : Type} {enc : TypeId × Value → H} {w : World} {base : Nat} {spare : Nat → Bool} {held : Bool} {fuel : Nat} {cs : List Value} {x : DataW H × List MemPlace}
    (h : DataW.trod enc Try.prog w base spare held fuel 23 cs = some x) :
    ∃ (na : Option Addr) (m mcap : Nat) (V : Nat → DV), cs = [.slice na m mcap] ∧ m ≤ maxLen ∧ DS w na m V := by
  rcases DataW.trod_slice Try.underlying23 h with ⟨h0, _⟩ | ⟨a, len, cap, elems, rest, n, _, rfl, rfl, hb, hl, hm, hlen, hel, hsp, hns⟩
  · exact ⟨none, 0, 0, fun _ => ⟨0, 0, false, false, false, 0⟩, h0, Nat.zero_le _, fun i hi => by omega⟩
  · have each : ∀ i, i < len → ∃ d : DV, (∀ j, j < 6 → w.cell? ((a.add (i * 6)).add j) = ([.int .i64 d.k, .int .u64 (d.a : Int), .bool d.r, .bool d.q, .bool d.x, .int .i64 d.f] : List Value)[j]?) ∧ d.a < 18446744073709551616 := fun i hi => by
      have h2 := hel i hi
      rw [List.getElem?_eq_getElem (by omega : i < elems.length), show Try.prog.cellsOf 48 = 6 from by kernel_rfl, Option.bind_eq_some_iff] at h2
      obtain ⟨cs', hcells, hy⟩ := h2
      obtain ⟨_, hclen, hcell⟩ := World.cells?_some hcells
      obtain ⟨d, rfl, hd⟩ := desc_cells hclen hy
      exact ⟨d, hcell, hd⟩
    refine ⟨some a, len, cap, fun i => if h : i < len then (each i h).choose else ⟨0, 0, false, false, false, 0⟩, rfl, by omega, fun i hi => ?_⟩
    have hs := (each i hi).choose_spec
    simp only [dif_pos hi]
    generalize (each i hi).choose = d at hs
    obtain ⟨hc, hd⟩ := hs
    obtain ⟨b, o, sp⟩ := a
    have hspot : sp = none := by
      obtain ⟨d0, hc0, _⟩ := each 0 (by omega)
      have c0 := hc0 0 (by decide)
      rw [Nat.zero_mul] at c0
      exact World.cell?_spot c0
    subst hspot
    have c0 := hc 0 (by decide)
    have hlt : b < w.heap.size := by
      have := block_lt_of_cell c0
      simpa [add_at] using this
    have e : ∀ j, j < 6 → w.cell? ⟨b, o + i * 6 + j, none⟩ = ([.int .i64 d.k, .int .u64 (d.a : Int), .bool d.r, .bool d.q, .bool d.x, .int .i64 d.f] : List Value)[j]? := fun j hj => by
      have := hc j hj
      rw [add_at, add_at] at this
      exact this
    exact ⟨⟨b, o, rfl, hlt, e 0 (by decide), e 1 (by decide), e 2 (by decide), e 3 (by decide), e 4 (by decide), e 5 (by decide)⟩, hd⟩

end Go.Proofs.Ytcbciehffgaapaa
