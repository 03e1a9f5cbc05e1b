/- perm: And, Allows, Judge, letters. -/
import Derived.Test.YtclcickhgoiooaaJE
namespace Go.Proofs.Ytclcickhgoiooaa
open Go.RowKit

/-- What an access asks for. -/
def alP (r q x : Bool) (c : Int) : Bool := if c = 1 then r else if c = 2 then q else if c = 3 then x else false
/-- Whose fault it is. -/
def juP (a b : Bool) : Int := if a = false then 1 else if b = false then 2 else 0

set_option maxHeartbeats 4000000 in
theorem pand_any (a b c a' b' c' : Bool) (w : World) :
    Calls Try.prog 63 #[.agg #[.bool a, .bool b, .bool c], .agg #[.bool a', .bool b', .bool c']] w fun e w' => e = .returned (.agg #[.bool (a && a'), .bool (b && b'), .bool (c && c')]) ∧ Kp w w' := by
  cases a <;> cases b <;> cases c
  all_goals
    go_enter Try.func63, Try.ntmps63
    go_wp2_with fail
    exact bodyPost_ret (res_p rfl rfl (PX.made2 w _ _ _ _ _)) rfl ⟨rfl, (((Kp.refl _).alloc _).alloc _).alloc _⟩

end Go.Proofs.Ytclcickhgoiooaa
