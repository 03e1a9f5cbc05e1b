/- HeatOrders, whatever the input. -/
import Derived.Test.YtpiekhiamdknjaaH11
import Derived.Test.YtpiekhiamdknjaaH13
namespace Go.Proofs.Ytpiekhiamdknjaa
open Go.RowKit Go.Sort Go.Shelf Go.Lib

theorem orders_any (la : Option Addr) (ln lcap : Nat) (f : Nat → Int) (na : Option Addr) (m mcap : Nat) (nb : Nat → Bool) (w : World) (I : IS w la ln f) (N : NS w na m nb) :
    Calls Try.prog 4 #[.slice la ln lcap, .slice na m mcap] w fun e w' => e = .returned (.bool true) ∧ Kp w w' :=
  orders_x la ln lcap f na m mcap nb w I N sort_any

end Go.Proofs.Ytpiekhiamdknjaa
