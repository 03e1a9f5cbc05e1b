/- Word; the document's word, parts, Make, Clean. -/
import Derived.Test.YtcejdeafdlbheaaD2
namespace Go.Proofs.Ytcejdeafdlbheaa
open Go.RowKit

set_option maxHeartbeats 400000 in
theorem word_any (u : Nat) (w : World) (hu : u < 18446744073709551616) :
    Calls Try.prog 12 #[.int .u64 (u : Int)] w fun e w' => e = .returned (.complex .f64 (floatOfInt .f64 ((u % 4294967296 : Nat) : Int)) (floatOfInt .f64 ((u / 4294967296 : Nat) : Int))) ∧ w' = w := by
  have h1 : (u : Int) < 18446744073709551616 := by omega
  go_enter Try.func12, Try.ntmps12
  go_wp2
  go_ret
  exact ⟨rfl, rfl⟩

set_option maxHeartbeats 400000 in
theorem mk_any (x y : Int) (w : World) :
    Calls Try.prog 13 #[.int .i64 x, .int .i64 y] w fun e w' => e = .returned (.complex .f64 (floatOfInt .f64 x) (floatOfInt .f64 y)) ∧ w' = w := by
  go_enter Try.func13, Try.ntmps13
  go_wp2
  go_ret
  exact ⟨rfl, rfl⟩

theorem lit_inf : floatBits .quo .f64 4607182418800017408 0 = some 9218868437227405312 := by decide +kernel
theorem lit_gt : (FloatKind.f64.format.order 9218868437227405312 0 == some .gt) = true := by decide +kernel

theorem one_by_nought (w : World) : (binOp .quo 48 (.float .f64 4607182418800017408) (.float .f64 0)).run Try.prog w = .ok (.float .f64 9218868437227405312) w := by
  simp [binOp, run_floatArith w lit_inf]

set_option maxHeartbeats 1000000 in
theorem cleanIs_any (a b : Nat) (x y : Int) (w : World) (ha : FC a x) (hb : FC b y) :
    Calls Try.prog 11 #[.complex .f64 a b] w fun e w' => e = .returned (.bool true) ∧ w' = w := by
  have o1 : (FloatKind.f64.format.order a 0 != some .eq) = !decide (x = 0) := by rw [bne, ord_eq ha.1 FI_zero]
  have o2 : (FloatKind.f64.format.order b 0 != some .eq) = !decide (y = 0) := by rw [bne, ord_eq hb.1 FI_zero]
  have q := one_by_nought
  have g := lit_gt
  by_cases hx : x = 0 <;> by_cases hy : y = 0
  · have := ha.2 hx; subst this
    have := hb.2 hy; subst this
    simp only [hx, hy, decide_true, Bool.not_true] at o1 o2
    clear ha hb hx hy
    go_enter Try.func11, Try.ntmps11
    go_wp2
    go_ret
    exact ⟨rfl, rfl⟩
  · have := ha.2 hx; subst this
    simp only [hx, hy, decide_true, decide_false, Bool.not_true, Bool.not_false] at o1 o2
    clear ha hb hx hy
    go_enter Try.func11, Try.ntmps11
    go_wp2
    go_ret
    exact ⟨rfl, rfl⟩
  · have := hb.2 hy; subst this
    simp only [hx, hy, decide_true, decide_false, Bool.not_true, Bool.not_false] at o1 o2
    clear ha hb hx hy
    go_enter Try.func11, Try.ntmps11
    go_wp2
    go_ret
    exact ⟨rfl, rfl⟩
  · simp only [hx, hy, decide_false, Bool.not_false] at o1 o2
    clear ha hb hx hy
    go_enter Try.func11, Try.ntmps11
    go_wp2
    go_ret
    exact ⟨rfl, rfl⟩

end Go.Proofs.Ytcejdeafdlbheaa
