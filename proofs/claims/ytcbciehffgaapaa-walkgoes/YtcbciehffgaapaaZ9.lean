/- Tables: what it keeps. -/
import Derived.Test.YtcbciehffgaapaaZ8
import Derived.Test.YtcbciehffgaapaaOX
import Derived.Test.YtcbciehffgaapaaEE
import Derived.Test.YtcbciehffgaapaaEN
namespace Go.Proofs.Ytcbciehffgaapaa
open Go.RowKit

/-- What Tables has laid: its words so far. -/
structure TB (W : World) (b : Nat) (va vx : Value) (A X : List Nat) (w : World) : Prop where
  kp : Kp W w
  lo : W.heap.size ≤ b
  r12 : w.heap[b]? = some (.cells #[.slice none 0 0, .slice none 0 0] 26)
  r13 : w.heap[b + 1]? = some (.cells #[va, vx] 26)
  a : UW w va A
  x : UW w vx X
  fa : ∀ g, va.ownBlock = some g → b + 2 ≤ g
  fx : ∀ g, vx.ownBlock = some g → b + 2 ≤ g
  ap : ∀ g, va.ownBlock = some g → vx.ownBlock = some g → False
  wx : ∀ y ∈ X, y < 18446744073709551616
  la : A.length ≤ 4
  lx : X.length ≤ 4
theorem TB.keep {W w w' : World} {b : Nat} {va vx : Value} {A X : List Nat} (h : TB W b va vx A X w) (k : Kp w w') : TB W b va vx A X w' :=
  ⟨h.kp.trans k, h.lo, (k.block _ (lt_of_row h.r12)).trans h.r12, (k.block _ (lt_of_row h.r13)).trans h.r13, h.a.kp k, h.x.kp k, h.fa, h.fx, h.ap, h.wx, h.la, h.lx⟩

end Go.Proofs.Ytcbciehffgaapaa
