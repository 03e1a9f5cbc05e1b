/- PhysPlays: the steps that came in. -/
import Derived.Test.YtndlkkacnpjlmaaY1
import Derived.Test.YtndlkkacnpjlmaaP20
import Derived.Test.YtndlkkacnpjlmaaP11
namespace Go.Proofs.Ytndlkkacnpjlmaa
open Go.RowKit Go.Maps Go.ChangeShapes Go.WideShapes Go.ChangeAt

/-- A step as it came in. -/
structure OpV where
  kind : Int
  size : Int
  frame : Int
  addr : Nat
  v : Nat
  naA : Option Addr
  mA : Nat
  cA : Nat
  fA : Nat → Int
  naB : Option Addr
  mB : Nat
  cB : Nat
  fB : Nat → Int
  other : Bool
def OpV.cells (o : OpV) : List Value := [.int .i64 o.kind, .int .i64 o.size, .int .i64 o.frame, .int .u64 (o.addr : Nat), .int .u64 (o.v : Nat), .slice o.naA o.mA o.cA, .slice o.naB o.mB o.cB, .bool o.other]
structure OpV.Ok (w : World) (o : OpV) : Prop where
  k : (Lit.int .i64 o.kind).wf = true
  s : (Lit.int .i64 o.size).wf = true
  f : (Lit.int .i64 o.frame).wf = true
  a : o.addr < 18446744073709551616
  v : o.v < 18446744073709551616
  nA : NSK .i64 w o.naA o.mA o.fA
  nB : NSK .u8 w o.naB o.mB o.fB
  lB : o.mB ≤ o.cB
  cB : o.naB = none → o.cB = 0
  xB : o.mB ≤ maxLen
theorem OpV.Ok.kp {w w' : World} {o : OpV} (h : o.Ok w) (k : Kp w w') : o.Ok w' := ⟨h.k, h.s, h.f, h.a, h.v, h.nA.kp k, h.nB.kp k, h.lB, h.cB, h.xB⟩
/-- m steps lie in w at na. -/
def Steps (w : World) (na : Option Addr) (m : Nat) (V : Nat → OpV) : Prop := ∀ i, i < m → (∃ b o, na = some ⟨b, o, none⟩ ∧ b < w.heap.size ∧ ∀ j u, (V i).cells[j]? = some u → w.cell? ⟨b, o + (i * 8 + j), none⟩ = some u) ∧ (V i).Ok w
theorem Steps.kp {w w' : World} {na : Option Addr} {m : Nat} {V : Nat → OpV} (h : Steps w na m V) (k : Kp w w') : Steps w' na m V := fun i hi => by
  obtain ⟨⟨b, o, h1, h2, h3⟩, h4⟩ := h i hi
  exact ⟨⟨b, o, h1, Nat.lt_of_lt_of_le h2 k.size, fun j u hu => by rw [k.cell (p := ⟨b, o + (i * 8 + j), none⟩) h2]; exact h3 j u hu⟩, h4.kp k⟩

theorem open_steps {H : Type} {enc : TypeId × Value → H} {w : World} {base : Nat} {spare : Nat → Bool} {held : Bool} {fuel : Nat} {cs : List Value} {x : DataW H × List MemPlace}
    (h : DataW.trod enc Try.prog w base spare held fuel 22 cs = some x) :
    ∃ (na : Option Addr) (m mcap : Nat) (V : Nat → OpV), cs = [.slice na m mcap] ∧ m ≤ maxLen ∧ Steps w na m V := by
  obtain ⟨na, m, mcap, h1, h2, _, _, h3⟩ := open_structs Try.underlying22 Try.underlying34 (Go.Deep.hone_of (by kernel_rfl)) (by kernel_rfl) (by decide) h
  have each : ∀ i, i < m → ∃ o : OpV, (∃ b of, na = some ⟨b, of, none⟩ ∧ b < w.heap.size ∧ ∀ j u, o.cells[j]? = some u → w.cell? ⟨b, of + (i * 8 + j), none⟩ = some u) ∧ o.Ok w := fun i hi => by
    obtain ⟨b, of, V, e1, e2, e3⟩ := h3 i hi
    obtain ⟨c0, n0, y0, t0⟩ := e3 0 _ rfl
    obtain ⟨c1, n1, y1, t1⟩ := e3 1 _ rfl
    obtain ⟨c2, n2, y2, t2⟩ := e3 2 _ rfl
    obtain ⟨c3, n3, y3, t3⟩ := e3 3 _ rfl
    obtain ⟨c4, n4, y4, t4⟩ := e3 4 _ rfl
    obtain ⟨c5, n5, y5, t5⟩ := e3 5 _ rfl
    obtain ⟨c6, n6, y6, t6⟩ := e3 6 _ rfl
    obtain ⟨c7, n7, y7, t7⟩ := e3 7 _ rfl
    obtain ⟨a0, v0, _, w0⟩ := DataW.trod_int Try.underlying3 t0
    obtain ⟨a1, v1, _, w1⟩ := DataW.trod_int Try.underlying3 t1
    obtain ⟨a2, v2, _, w2⟩ := DataW.trod_int Try.underlying3 t2
    obtain ⟨a3, v3, _, w3⟩ := DataW.trod_int Try.underlying30 t3
    obtain ⟨a4, v4, _, w4⟩ := DataW.trod_int Try.underlying30 t4
    obtain ⟨nA, mA, cA, fA, s5, _, N5⟩ := open_kind Try.underlying31 Try.underlying3 (by kernel_rfl) t5
    obtain ⟨nB, mB, cB, fB, s6, x6, N6⟩ := open_kind Try.underlying32 Try.underlying5 (by kernel_rfl) t6
    obtain ⟨l6, n6'⟩ := slice_cap Try.underlying32 t6 s6
    obtain ⟨bo, v7, _⟩ := DataW.trod_bool Try.underlying4 t7
    simp only [List.cons.injEq, and_true] at v0 v1 v2 v3 v4 s5 s6 v7
    have g3 := wf_word w3
    have g4 := wf_word w4
    have e3' : ((a3.toNat : Nat) : Int) = a3 := by omega
    have e4' : ((a4.toNat : Nat) : Int) = a4 := by omega
    refine ⟨⟨a0, a1, a2, a3.toNat, a4.toNat, nA, mA, cA, fA, nB, mB, cB, fB, bo⟩, ⟨b, of, e1, e2, fun j u hu => ?_⟩, ⟨w0, w1, w2, by show a3.toNat < _; omega, by show a4.toNat < _; omega, N5, N6, l6, n6', x6⟩⟩
    have sz : (8 : Nat) = 8 := rfl
    match j, hu with
    | 0, hu => simp [OpV.cells] at hu; subst hu; rw [← v0]; exact c0
    | 1, hu => simp [OpV.cells] at hu; subst hu; rw [← v1]; exact c1
    | 2, hu => simp [OpV.cells] at hu; subst hu; rw [← v2]; exact c2
    | 3, hu => simp only [OpV.cells, e3', List.getElem?_cons_succ, List.getElem?_cons_zero, Option.some.injEq] at hu; subst hu; rw [← v3]; exact c3
    | 4, hu => simp only [OpV.cells, e4', List.getElem?_cons_succ, List.getElem?_cons_zero, Option.some.injEq] at hu; subst hu; rw [← v4]; exact c4
    | 5, hu => simp [OpV.cells] at hu; subst hu; rw [← s5]; exact c5
    | 6, hu => simp [OpV.cells] at hu; subst hu; rw [← s6]; exact c6
    | 7, hu => simp [OpV.cells] at hu; subst hu; rw [← v7]; exact c7
    | j + 8, hu => simp [OpV.cells] at hu
  haveI : Inhabited OpV := ⟨⟨0, 0, 0, 0, 0, none, 0, 0, fun _ => 0, none, 0, 0, fun _ => 0, false⟩⟩
  obtain ⟨V, hV⟩ := Go.Deep.choose_lt each
  exact ⟨na, m, mcap, V, h1, h2, hV⟩

end Go.Proofs.Ytndlkkacnpjlmaa
