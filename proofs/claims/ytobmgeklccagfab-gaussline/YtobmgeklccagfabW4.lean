/- The walk of told: what the program tells of a few numbers. -/
import Derived.Test.YtobmgeklccagfabW3
namespace Go.Proofs.Ytobmgeklccagfab
open Go.RowKit

theorem F1 : FI 4607182418800017408 1 := FI_const _ (by decide) (by decide)
theorem F2 : FI 4611686018427387904 2 := FI_const _ (by decide) (by decide)
theorem F3 : FI 4613937818241073152 3 := FI_const _ (by decide) (by decide)
theorem F4 : FI 4616189618054758400 4 := FI_const _ (by decide) (by decide)
theorem F5 : FI 4617315517961601024 5 := FI_const _ (by decide) (by decide)
theorem Fm1 : FI 13830554455654793216 (-1) := FI_const _ (by decide) (by decide)
theorem Fm2 : FI 13835058055282163712 (-2) := FI_const _ (by decide) (by decide)
theorem fl1 : floatOfInt .f64 1 = 4607182418800017408 := by decide
theorem fl2 : floatOfInt .f64 2 = 4611686018427387904 := by decide
theorem fl3 : floatOfInt .f64 3 = 4613937818241073152 := by decide

theorem is_eq {a b : Nat} {x y : Int} (ha : FI a x) (hb : FI b y) (h : x = y) : (FloatKind.f64.format.order a b == some .eq) = true := by
  rw [ord_eq ha hb]; exact decide_eq_true h

theorem of12 (w : World) : Calls Try.prog 23 #[.int .i64 1, .int .i64 2] w fun e w' => e = .returned (.tuple #[.complex .f64 4607182418800017408 4611686018427387904, .int .i64 0]) ∧ w' = w := by
  have := of_any 1 2 w (by decide) (by decide)
  rwa [fl1, fl2] at this

set_option maxHeartbeats 400000 in
theorem abs_big (w : World) : Calls Try.prog 28 #[.float .f64 4845873199050653696] w fun e w' => e = .returned (.float .f64 4845873199050653696) ∧ w' = w :=
  (abs_any 4845873199050653696 w (by decide)).mono fun _ _ ⟨h1, h2⟩ => ⟨h1, h2⟩

set_option maxHeartbeats 400000 in
theorem upTo_big (w : World) : Calls Try.prog 27 #[.float .f64 4845873199050653696, .float .f64 4841369599423283200] w fun e w' => e = .returned (.bool false) ∧ w' = w := by
  have h1 : (FloatKind.f64.format.order 4845873199050653696 4841369599423283200 == some .lt || FloatKind.f64.format.order 4845873199050653696 4841369599423283200 == some .eq) = false := by decide
  go_enter Try.func27, Try.ntmps27
  go_wp2_with (go_at_call 28; with_reducible refine (abs_big _).mono ?_; rintro e w' ⟨rfl, rfl⟩)
  go_ret
  exact ⟨rfl, rfl⟩

set_option maxHeartbeats 400000 in
theorem isWhole_big (b : Nat) (w : World) : Calls Try.prog 24 #[.complex .f64 4845873199050653696 b] w fun e w' => e = .returned (.bool false) ∧ w' = w := by
  go_enter Try.func24, Try.ntmps24
  go_wp2_with (go_at_call 27; with_reducible refine (upTo_big _).mono ?_; rintro e w' ⟨rfl, rfl⟩)
  go_ret
  exact ⟨rfl, rfl⟩

set_option maxHeartbeats 400000 in
theorem of_big (w : World) : Calls Try.prog 23 #[.int .i64 9007199254740992, .int .i64 0] w fun e w' => e = .returned (.tuple #[.complex .f64 0 0, .int .i64 2]) ∧ w' = w := by
  have e1 : floatOfInt .f64 9007199254740992 = 4845873199050653696 := by decide
  have c1 : ∀ w, Calls Try.prog 24 #[.complex .f64 (floatOfInt .f64 9007199254740992) (floatOfInt .f64 0)] w fun e w' => e = .returned (.bool false) ∧ w' = w := by
    intro w; rw [e1]; exact isWhole_big _ w
  clear e1
  go_enter Try.func23, Try.ntmps23
  go_wp2_with (go_at_call 24; with_reducible refine (c1 _).mono ?_; rintro e w' ⟨rfl, rfl⟩)
  go_ret2
  exact ⟨rfl, rfl⟩

theorem mul12 (w : World) : Calls Try.prog 11 #[.complex .f64 4607182418800017408 4611686018427387904, .complex .f64 4613937818241073152 13830554455654793216] w fun e w' => ∃ re im, e = .returned (.tuple #[.complex .f64 re im, .int .i64 0]) ∧ (FloatKind.f64.format.order re 4617315517961601024 == some .eq) = true ∧ (FloatKind.f64.format.order im 4617315517961601024 == some .eq) = true ∧ Grown w w' :=
  (mul_any _ _ _ _ 1 2 3 (-1) w F1 F2 F3 Fm1 (by decide) (by decide) (by decide) (by decide)).mono fun _ _ ⟨re, im, h, h1, h2, hg⟩ => ⟨re, im, h, is_eq h1.1 F5 (by decide), is_eq h2.1 F5 (by decide), hg⟩

theorem div52 (w : World) : Calls Try.prog 9 #[.complex .f64 4617315517961601024 4617315517961601024, .complex .f64 4611686018427387904 0] w fun e w' => ∃ p q r s, e = .returned (.tuple #[.complex .f64 p q, .complex .f64 r s, .int .i64 0]) ∧ (FloatKind.f64.format.order p 4613937818241073152 == some .eq) = true ∧ (FloatKind.f64.format.order q 4613937818241073152 == some .eq) = true ∧ (FloatKind.f64.format.order r 13830554455654793216 == some .eq) = true ∧ (FloatKind.f64.format.order s 13830554455654793216 == some .eq) = true ∧ Grown w w' :=
  (div_any _ _ _ _ 5 5 2 0 w F5 F5 F2 FI_zero (by decide) (by decide) (by decide) (by decide) (by decide)).mono fun _ _ ⟨r, s, h, h1, h2, hg⟩ => ⟨_, _, r, s, h, is_eq (FI_of_int _ (by decide)) F3 (by decide), is_eq (FI_of_int _ (by decide)) F3 (by decide), is_eq h1.1 Fm1 (by decide), is_eq h2.1 Fm1 (by decide), hg⟩

theorem norm34 (w : World) : Calls Try.prog 13 #[.complex .f64 4613937818241073152 4616189618054758400] w fun e w' => e = .returned (.tuple #[.int .i64 25, .int .i64 0]) ∧ Grown w w' :=
  norm_face _ _ 3 4 w F3 F4 (by decide) (by decide)

theorem turn12 (w : World) : Calls Try.prog 16 #[.complex .f64 4607182418800017408 4611686018427387904, .int .i64 1] w fun e w' => ∃ re im, e = .returned (.complex .f64 re im) ∧ (FloatKind.f64.format.order re 13835058055282163712 == some .eq) = true ∧ (FloatKind.f64.format.order im 4607182418800017408 == some .eq) = true ∧ w' = w :=
  (turn_any 1 _ _ 1 2 1 w F1 F2 (by decide) (by decide) (by decide)).mono fun _ _ ⟨re, im, h, h1, h2, hg⟩ => ⟨re, im, h, is_eq h1.1 Fm2 (by decide), is_eq h2.1 F1 (by decide), hg⟩

theorem less12 (w : World) : Calls Try.prog 15 #[.complex .f64 4607182418800017408 0, .complex .f64 4611686018427387904 0] w fun e w' => e = .returned (.bool true) ∧ Grown w w' :=
  less_any _ _ _ _ 1 0 2 0 w F1 FI_zero F2 FI_zero (by decide) (by decide) (by decide) (by decide)

theorem less21 (w : World) : Calls Try.prog 15 #[.complex .f64 4611686018427387904 0, .complex .f64 4607182418800017408 0] w fun e w' => e = .returned (.bool false) ∧ Grown w w' :=
  less_any _ _ _ _ 2 0 1 0 w F2 FI_zero F1 FI_zero (by decide) (by decide) (by decide) (by decide)

set_option maxHeartbeats 1000000 in
theorem told_any (w : World) : Calls Try.prog 10 #[] w fun e w' => e = .returned (.bool true) ∧ Grown w w' := by
  go_enter Try.func10, Try.ntmps10
  go_wp2_with (first | (go_at_call 23; with_reducible refine (of12 _).mono ?_; rintro e w1 ⟨rfl, rfl⟩) | (go_at_call 23; with_reducible refine (of_big _).mono ?_; rintro e w2 ⟨rfl, rfl⟩) | (go_at_call 11; with_reducible refine (mul12 _).mono ?_; rintro e w3 ⟨re, im, rfl, o1, o2, g1⟩) | (go_at_call 9; with_reducible refine (div52 _).mono ?_; rintro e w4 ⟨p, q, r, s, rfl, o3, o4, o5, o6, g2⟩) | (go_at_call 13; with_reducible refine (norm34 _).mono ?_; rintro e w5 ⟨rfl, g3⟩) | (go_at_call 16; with_reducible refine (turn12 _).mono ?_; rintro e w6 ⟨tr, ti, rfl, o7, o8, rfl⟩) | (go_at_call 15; with_reducible refine (less12 _).mono ?_; rintro e w7 ⟨rfl, g4⟩) | (go_at_call 15; with_reducible refine (less21 _).mono ?_; rintro e w8 ⟨rfl, g5⟩))
  go_ret
  exact ⟨rfl, Grown_trans (Grown_trans (Grown_trans (Grown_trans g1 g2) g3) g4) g5⟩

end Go.Proofs.Ytobmgeklccagfab
