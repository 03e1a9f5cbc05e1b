/- The walk of GaussErrors. -/
import Derived.Test.YtobmgeklccagfaaW4
namespace Go.Proofs.Ytobmgeklccagfaa
open Go.RowKit

set_option maxHeartbeats 1000000 in
theorem errors_any (w : World) : Calls Try.prog 3 #[] w fun e w' => e = .returned (.bool true) ∧ Grown w w' := by
  go_enter Try.func3, Try.ntmps3
  go_wp2_with (go_at_call 5; with_reducible refine (told_any _).mono ?_; rintro e w1 ⟨rfl, g⟩)
  go_ret
  exact ⟨rfl, g⟩

end Go.Proofs.Ytobmgeklccagfaa
