/- For every seat: worlds in which all that lay lies, slices that came in. -/
import Derived.Test.YtpjlmmiceiionaaDoorRows
import Derived.WalkKit
import Derived.WalkSpells
import Derived.WalkLawsBesides
import Derived.Laws.BitsAllLaws
import Derived.Laws.MakeOwn
import Derived.Laws.AppendOwn
import Derived.Laws.BytesString
import Derived.Below
import Derived.ChangeSlices
import Derived.ProofKit
import Derived.OpenShut
import Derived.Carry
namespace Go.Proofs.YtpjlmmiceiionaaDoor
open Go.ChangeShapes Go.WideShapes Go.ChangeAt Go.RowKit

/-- All that lay in w lies in w' as it did. -/
def Kp (w w' : World) : Prop := Go.RowKit.Below w.heap.size w w'
theorem Kp.refl (w : World) : Kp w w := Go.RowKit.Below.refl _ _
theorem Kp.trans {a b c : World} (h : Kp a b) (k : Kp b c) : Kp a c := Go.RowKit.Below.trans h (Go.RowKit.Below.mono k h.size)
theorem Kp.alloc {a b : World} (h : Kp a b) (o : Obj) : Kp a (b.alloc o) :=
  ⟨h.os, h.tape, h.output, by have := h.size; simp; omega, fun k hk => by
    rw [← h.block k hk]
    have := h.size
    simp only [World.alloc, Array.getElem?_push]
    rw [if_neg (by omega)]⟩
theorem Kp.drewN {a b : World} (h : Kp a b) (q : Nat) : Kp a (b.drewN q) := ⟨h.os, h.tape, h.output, h.size, h.block⟩
theorem Kp.drew {a b : World} (h : Kp a b) : Kp a b.drew := ⟨h.os, h.tape, h.output, h.size, h.block⟩
theorem Kp.set {a b : World} (h : Kp a b) (p : Addr) (v : Value) (hp : a.heap.size ≤ p.block) : Kp a (b.setCell p v) :=
  ⟨h.os, h.tape, h.output, by rw [World.size_setCell]; exact h.size, fun k hk => by rw [heap_setCell_other b p k v (by omega)]; exact h.block k hk⟩
theorem Kp.cell {a b : World} (h : Kp a b) {p : Addr} (hp : p.block < a.heap.size) : b.cell? p = a.cell? p := Go.RowKit.Below.cell h hp
theorem Kp.frz {a b : World} (h : Kp a b) {p : Addr} (hp : p.block < a.heap.size) : b.frozen? p = a.frozen? p := World.frozen?_of_block (h.block _ hp)

/-- The cells of a slice that was read: each holds what an element's reading takes. -/
theorem open_row {H : Type} {enc : TypeId × Value → H} {P : Program} {w : World} {base : Nat} {spare : Nat → Bool} {held : Bool} {t e : TypeId} {fuel : Nat} {cs : List Value} {x : DataW H × List MemPlace}
    (ht : P.underlying t = some (.slice e)) (hc : P.cellsOf e = 1) (h1 : ∀ n cs' y, DataW.trod enc P w base spare held n e cs' = some y → ∃ v, cs' = [v])
    (h : DataW.trod enc P w base spare held fuel t cs = some x) :
    ∃ (na : Option Addr) (m mcap : Nat) (vs : Nat → Value), cs = [.slice na m mcap] ∧ m ≤ maxLen ∧ (na = none → m = 0 ∧ mcap = 0) ∧
      ∀ i, i < m → (∃ b o, na = some ⟨b, o, none⟩ ∧ b < w.heap.size ∧ w.cell? ⟨b, o + i, none⟩ = some (vs i)) ∧ ∃ n y, DataW.trod enc P w base spare held n e [vs i] = some y := by
  rcases DataW.trod_slice ht h with ⟨h0, _⟩ | ⟨a, len, cap, elems, rest, n, _, rfl, rfl, hb, hl, hm, hlen, hel, hsp, hns⟩
  · exact ⟨none, 0, 0, fun _ => .bool false, h0, Nat.zero_le _, fun _ => ⟨rfl, rfl⟩, fun i hi => by omega⟩
  · have each : ∀ i, i < len → ∃ v y, w.cell? (a.add i) = some v ∧ DataW.trod enc P w base spare held n e [v] = some y := by
      intro i hi
      have h2 := hel i hi
      rw [List.getElem?_eq_getElem (by omega : i < elems.length), hc, Nat.mul_one, Option.bind_eq_some_iff] at h2
      obtain ⟨cs', hcs, hy'⟩ := h2
      obtain ⟨v, rfl⟩ := h1 n cs' _ hy'
      exact ⟨v, _, cell_of_cells?_one hcs, hy'⟩
    refine ⟨some a, len, cap, fun i => (w.cell? (a.add i)).getD (.bool false), rfl, by omega, (fun h => by cases h), fun i hi => ?_⟩
    obtain ⟨v0, y0, c0, _⟩ := each 0 (by omega)
    obtain ⟨v, y, c1, t1⟩ := each i hi
    have hsp : a.spot = none := by
      have e0 : a.add 0 = a := rfl
      rw [e0] at c0
      unfold World.cell? at c0
      split at c0
      · split at c0
        · cases c0
        · rename_i hs; simpa using hs
      · cases c0
    have hlt : a.block < w.heap.size := by
      have e0 : a.add 0 = a := rfl
      rw [e0] at c0
      by_cases hh : a.block < w.heap.size
      · exact hh
      · unfold World.cell? at c0
        rw [show w.heap[a.block]? = none from by simp; omega] at c0
        cases c0
    obtain ⟨b, o, sp⟩ := a
    subst hsp
    have ea : (Addr.mk b o none).add i = ⟨b, o + i, none⟩ := by
      unfold Addr.add
      split
      · rename_i h0; subst h0; rfl
      · rfl
    have c2 := c1
    rw [ea] at c2
    refine ⟨⟨b, o, rfl, hlt, ?_⟩, n, y, ?_⟩
    · show _ = some ((w.cell? ((Addr.mk b o none).add i)).getD (.bool false))
      rw [c1, c2]; rfl
    · show DataW.trod enc P w base spare held n e [(w.cell? ((Addr.mk b o none).add i)).getD (.bool false)] = some y
      rw [c1]; exact t1

/-- m ints lie in w at na. -/
def IS (w : World) (na : Option Addr) (m : Nat) (f : Nat → Int) : Prop := ∀ i, i < m → ∃ b o, na = some ⟨b, o, none⟩ ∧ b < w.heap.size ∧ w.cell? ⟨b, o + i, none⟩ = some (.int .i64 (f i))

theorem open_nums {H : Type} {enc : TypeId × Value → H} {P : Program} {w : World} {base : Nat} {spare : Nat → Bool} {held : Bool} {t e : TypeId} {fuel : Nat} {cs : List Value} {x : DataW H × List MemPlace}
    (ht : P.underlying t = some (.slice e)) (he : P.underlying e = some (.int .i64)) (hc : P.cellsOf e = 1) (h : DataW.trod enc P w base spare held fuel t cs = some x) :
    ∃ (na : Option Addr) (m mcap : Nat) (f : Nat → Int), cs = [.slice na m mcap] ∧ m ≤ maxLen ∧ IS w na m f := by
  obtain ⟨na, m, mcap, vs, h1, h2, _, h3⟩ := open_row ht hc (fun n cs' y hy => by obtain ⟨b, hb, _⟩ := DataW.trod_int he hy; exact ⟨_, hb⟩) h
  refine ⟨na, m, mcap, fun i => match vs i with | .int _ b => b | _ => 0, h1, h2, fun i hi => ?_⟩
  obtain ⟨⟨b, o, k1, k2, k3⟩, n, y, hy⟩ := h3 i hi
  obtain ⟨v, hv, _⟩ := DataW.trod_int he hy
  simp only [List.cons.injEq, and_true] at hv
  refine ⟨b, o, k1, k2, ?_⟩
  simp only [k3, hv]

/-- m numbers of the kind k lie in w at na. -/
def NSK (k : IntKind) (w : World) (na : Option Addr) (m : Nat) (f : Nat → Int) : Prop := ∀ i, i < m → (∃ b o, na = some ⟨b, o, none⟩ ∧ b < w.heap.size ∧ w.cell? ⟨b, o + i, none⟩ = some (.int k (f i))) ∧ (Lit.int k (f i)).wf = true
theorem NSK.kp {k : IntKind} {w w' : World} {na : Option Addr} {m : Nat} {f : Nat → Int} (H : NSK k w na m f) (g : Kp w w') : NSK k w' na m f := fun i hi => by
  obtain ⟨⟨b, o, h1, h2, h3⟩, h4⟩ := H i hi
  exact ⟨⟨b, o, h1, Nat.lt_of_lt_of_le h2 g.size, by rw [Kp.cell g (p := ⟨b, o + i, none⟩) h2]; exact h3⟩, h4⟩

theorem open_kind {H : Type} {enc : TypeId × Value → H} {P : Program} {w : World} {base : Nat} {spare : Nat → Bool} {held : Bool} {t e : TypeId} {fuel : Nat} {cs : List Value} {x : DataW H × List MemPlace} {k : IntKind}
    (ht : P.underlying t = some (.slice e)) (he : P.underlying e = some (.int k)) (hc : P.cellsOf e = 1) (h : DataW.trod enc P w base spare held fuel t cs = some x) :
    ∃ (na : Option Addr) (m mcap : Nat) (f : Nat → Int), cs = [.slice na m mcap] ∧ m ≤ maxLen ∧ NSK k w na m f := by
  obtain ⟨na, m, mcap, vs, h1, h2, _, h3⟩ := open_row ht hc (fun n cs' y hy => by obtain ⟨b, hb, _⟩ := DataW.trod_int he hy; exact ⟨_, hb⟩) h
  refine ⟨na, m, mcap, fun i => match vs i with | .int _ b => b | _ => 0, h1, h2, fun i hi => ?_⟩
  obtain ⟨⟨b, o, k1, k2, k3⟩, n, y, hy⟩ := h3 i hi
  obtain ⟨v, hv, _, hw⟩ := DataW.trod_int he hy
  simp only [List.cons.injEq, and_true] at hv
  exact ⟨⟨b, o, k1, k2, by simp only [k3, hv]⟩, by simp only [hv]; exact hw⟩

end Go.Proofs.YtpjlmmiceiionaaDoor
