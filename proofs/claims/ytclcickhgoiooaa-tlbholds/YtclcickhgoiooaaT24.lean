/- The document's tlb: Fill. -/
import Derived.Test.YtclcickhgoiooaaT20
import Derived.Test.YtclcickhgoiooaaT6
namespace Go.Proofs.Ytclcickhgoiooaa
open Go.RowKit
set_option maxRecDepth 10000

def kkI (f : Nat) (y : Int) : Int := if y = -1 then -1 else (f : Int) + y
/-- The place that a line takes. -/
def rwI (z y : Int) (f m : Nat) : Nat := if z = -1 then f + (if y = -1 then m else y.toNat) else z.toNat
def rfilI (T : Nat → PC) (s k : Nat) (l : LN) (way : Int) : Nat := rwI (atI T (s * k) l.i l.a l.v) (empI T s k l.v) (l.v % s * k) (mdN way k)
def rwas (c : PC) : LN := if c.on = true then c.l else zL

section
variable {w : World} {b g s k : Nat} {T : Nat → PC}
end

end Go.Proofs.Ytclcickhgoiooaa
