/- The document's tlb: Evict, Find, List. -/
import Derived.Test.YtclcickhgoiooaaT20
import Derived.Test.YtclcickhgoiooaaT7
import Derived.Test.YtclcickhgoiooaaT8
namespace Go.Proofs.Ytclcickhgoiooaa
open Go.RowKit
set_option maxRecDepth 10000

section
variable {w : World} {b g s k : Nat} {T : Nat → PC}
end


def rfB (T : Nat → PC) (N : Nat) (i a : Int) (v : Nat) : Bool := !(atI T N i a v == -1)
def rfL (T : Nat → PC) (N : Nat) (i a : Int) (v : Nat) : LN := if atI T N i a v = -1 then zL else (T (atI T N i a v).toNat).l
section
variable {w : World} {b g s k : Nat} {T : Nat → PC}
end

end Go.Proofs.Ytclcickhgoiooaa
