/- The document's tlb: at, Find. -/
import Derived.Test.YtclcickhgoiooaaT5
import Derived.Deep.CutBlock
import Derived.Deep.DeepCutAuto
namespace Go.Proofs.Ytclcickhgoiooaa
open Go.RowKit
set_option maxRecDepth 10000

/-- The document's TLB at b: s sets of k ways, its places lie in the block g. -/
structure TR (w : World) (b g s k : Nat) (T : Nat → PC) : Prop where
  c0 : w.cell? ⟨b, 0, none⟩ = some (.int .i64 (s : Int))
  c1 : w.cell? ⟨b, 1, none⟩ = some (.int .i64 (k : Int))
  c2 : w.cell? ⟨b, 2, none⟩ = some (.slice (some ⟨g, 0, none⟩) (s * k) (s * k))
  row : PR w g (s * k) T
  bl : b < w.heap.size
  ne : b ≠ g
  s0 : 1 ≤ s
  s1 : s ≤ 64
  k0 : 1 ≤ k
  k1 : k ≤ 8
section
variable {w w' : World} {b g s k : Nat} {T : Nat → PC}
theorem TR.fr (h : TR w b g s k T) {S : Nat → Prop} (f : Fr S w w') (h1 : ¬ S b) (h2 : ¬ S g) : TR w' b g s k T :=
  ⟨(f.cell (a := ⟨b, 0, none⟩) h.bl h1).trans h.c0, (f.cell (a := ⟨b, 1, none⟩) h.bl h1).trans h.c1, (f.cell (a := ⟨b, 2, none⟩) h.bl h1).trans h.c2, h.row.fr f h2, Nat.lt_of_lt_of_le h.bl f.size, h.ne, h.s0, h.s1, h.k0, h.k1⟩
theorem TR.kp (h : TR w b g s k T) (f : Kp w w') : TR w' b g s k T := h.fr (f.fr (fun _ => False)) id id
theorem TR.n1 (h : TR w b g s k T) : s * k ≤ 512 := Nat.le_trans (Nat.mul_le_mul h.s1 h.k1) (by decide)
theorem TR.put (h : TR w b g s k T) (i : Nat) (hi : i < s * k) (c : PC) : TR (putR w g (i * 12) (encP c)) b g s k (updP T i c) := by
  have f := putR_fr w g (i * 12) (encP c)
  exact ⟨(f.cell (a := ⟨b, 0, none⟩) h.bl h.ne).trans h.c0, (f.cell (a := ⟨b, 1, none⟩) h.bl h.ne).trans h.c1, (f.cell (a := ⟨b, 2, none⟩) h.bl h.ne).trans h.c2, h.row.put i hi c, Nat.lt_of_lt_of_le h.bl f.size, h.ne, h.s0, h.s1, h.k0, h.k1⟩
end
theorem keyB_eq (i a : Int) (v : Nat) (on : Bool) (l : LN) : keyB i a v ⟨on, l⟩ = (on && ((l.i == i) && ((l.a == a) && ((l.v : Int) == (v : Int))))) := by
  cases on
  · rfl
  · rw [Bool.eq_iff_iff, keyB_iff]
    simp
    omega
/-- Where the line of a name is, among all places; -1: nowhere. -/
def atI (T : Nat → PC) (N : Nat) (i a : Int) (v : Nat) : Int := sr (fun j => keyB i a v (T j)) N 0

section
variable {w : World} {b g s k : Nat} {T : Nat → PC}
end

end Go.Proofs.Ytclcickhgoiooaa
