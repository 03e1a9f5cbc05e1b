/- BitsSpans: the walk. -/
import Derived.Test.YtddklpbddpjklaaB10
namespace Go.Proofs.Ytddklpbddpjklaa
open Go.RowKit

theorem span_0 (w : World) : Calls Try.prog 21 #[.int .i64 0] w fun e w' => e = .returned (.int .u64 549755813888) ∧ w' = w := by
  have := span_any 0 w
  rwa [show spn 0 = 549755813888 by decide] at this
theorem idx_0 (u : Nat) : idx u 0 = u / 549755813888 % 512 := rfl
theorem index_0 (u x : Nat) (w : World) (hu : u < 18446744073709551616) (hx : x = u / 549755813888 % 512) : Calls Try.prog 19 #[.int .u64 (u : Int), .int .i64 0] w fun e w' => e = .returned (.int .i64 (x : Nat)) ∧ Dr w w' := by
  subst hx; exact index_any u 0 w hu
theorem span_1 (w : World) : Calls Try.prog 21 #[.int .i64 1] w fun e w' => e = .returned (.int .u64 1073741824) ∧ w' = w := by
  have := span_any 1 w
  rwa [show spn 1 = 1073741824 by decide] at this
theorem idx_1 (u : Nat) : idx u 1 = u / 1073741824 % 512 := rfl
theorem index_1 (u x : Nat) (w : World) (hu : u < 18446744073709551616) (hx : x = u / 1073741824 % 512) : Calls Try.prog 19 #[.int .u64 (u : Int), .int .i64 1] w fun e w' => e = .returned (.int .i64 (x : Nat)) ∧ Dr w w' := by
  subst hx; exact index_any u 1 w hu
theorem span_2 (w : World) : Calls Try.prog 21 #[.int .i64 2] w fun e w' => e = .returned (.int .u64 2097152) ∧ w' = w := by
  have := span_any 2 w
  rwa [show spn 2 = 2097152 by decide] at this
theorem idx_2 (u : Nat) : idx u 2 = u / 2097152 % 512 := rfl
theorem index_2 (u x : Nat) (w : World) (hu : u < 18446744073709551616) (hx : x = u / 2097152 % 512) : Calls Try.prog 19 #[.int .u64 (u : Int), .int .i64 2] w fun e w' => e = .returned (.int .i64 (x : Nat)) ∧ Dr w w' := by
  subst hx; exact index_any u 2 w hu
theorem span_3 (w : World) : Calls Try.prog 21 #[.int .i64 3] w fun e w' => e = .returned (.int .u64 4096) ∧ w' = w := by
  have := span_any 3 w
  rwa [show spn 3 = 4096 by decide] at this
theorem idx_3 (u : Nat) : idx u 3 = u / 4096 % 512 := rfl
theorem index_3 (u x : Nat) (w : World) (hu : u < 18446744073709551616) (hx : x = u / 4096 % 512) : Calls Try.prog 19 #[.int .u64 (u : Int), .int .i64 3] w fun e w' => e = .returned (.int .i64 (x : Nat)) ∧ Dr w w' := by
  subst hx; exact index_any u 3 w hu
theorem mask48 (u : Nat) (hu : u < 18446744073709551616) : bits .and .u64 (u : Int) 281474976710655 = ((u % 281474976710656 : Nat) : Int) := by
  have h := u64_and_nat u 281474976710655 hu (by decide)
  have e1 : (281474976710655 : Nat) = 2 ^ 48 - 1 := by decide
  rw [e1, Nat.and_two_pow_sub_one_eq_mod] at h
  exact h

set_option maxHeartbeats 8000000 in
set_option maxRecDepth 100000 in
theorem spans_0 (u : Nat) (level : Int) (w : World) (hu : u < 18446744073709551616) (hl : level % 4 = 0) :
    Calls Try.prog 8 #[.int .u64 (u : Int), .int .i64 level] w fun e w' => e = .returned (.bool true) ∧ Kp w w' := by
  have m := mask2 level
  rw [hl] at m
  have m48 := mask48 u hu
  obtain ⟨a, ha⟩ : ∃ a, a = u % 281474976710656 := ⟨_, rfl⟩
  rw [← ha] at m48
  obtain ⟨x0, h0⟩ : ∃ x, x = u / 549755813888 % 512 := ⟨_, rfl⟩
  have c0 := fun w => index_0 u x0 w hu h0
  have y0 : (x0 : Int) < 512 := by omega
  obtain ⟨p, hp⟩ : ∃ p : Nat, p = x0 * 549755813888 := ⟨_, rfl⟩
  have hp2 : (x0 : Int) * 549755813888 = p := by omega
  have hp3 : (p : Int) < 281474976710656 := by omega
  have ha3 : (a : Int) < 281474976710656 := by omega
  have t1 : (p : Int) ≤ a := by omega
  have t2 : (a : Int) - p < 549755813888 := by omega
  obtain ⟨u2, hu2⟩ : ∃ v, v = (u + 549755813888) % 18446744073709551616 := ⟨_, rfl⟩
  obtain ⟨z, hz⟩ : ∃ z, z = u2 / 549755813888 % 512 := ⟨_, rfl⟩
  have c9 := fun w => index_0 u2 z w (by omega) hz
  have z1 : (z : Int) = ((x0 : Int) + 1) % 512 := by omega
  have z2 : ((u : Int) + 549755813888) % 18446744073709551616 = u2 := by omega
  have z3 : IntKind.u64.wrap ((u : Int) + 549755813888) = u2 := by simp [IntKind.wrap, IntKind.bits, IntKind.signed]; omega
  clear hu hl ha hu2 hz hp h0
  go_enter Try.func8, Try.ntmps8
  go_wp2_with (first | (go_at_call 21; with_reducible refine (span_0 _).mono ?_; rintro e w' ⟨rfl, rfl⟩) | (go_at_call 21; with_reducible refine (span_1 _).mono ?_; rintro e w' ⟨rfl, rfl⟩) | (go_at_call 21; with_reducible refine (span_2 _).mono ?_; rintro e w' ⟨rfl, rfl⟩) | (go_at_call 21; with_reducible refine (span_3 _).mono ?_; rintro e w' ⟨rfl, rfl⟩))
  with_reducible refine (c0 _).mono ?_
  rintro e w1 ⟨rfl, D⟩
  have H1 : Hid (Kp _ w1) := D.kp
  clear D
  go_wp2_with (first | (go_at_call 21; with_reducible refine (span_0 _).mono ?_; rintro e w' ⟨rfl, rfl⟩) | (go_at_call 21; with_reducible refine (span_1 _).mono ?_; rintro e w' ⟨rfl, rfl⟩) | (go_at_call 21; with_reducible refine (span_2 _).mono ?_; rintro e w' ⟨rfl, rfl⟩) | (go_at_call 21; with_reducible refine (span_3 _).mono ?_; rintro e w' ⟨rfl, rfl⟩))
  refine wp_loop_rounds 1 ?_
  rw [rounds_succ]; go_wp2_with fail
  with_reducible refine (told_any _).mono ?_
  rintro e w2 ⟨rfl, D⟩
  have H2 : Hid (Kp _ w2) := H1.out.trans D
  clear D H1
  go_wp2_with (first | (go_at_call 21; with_reducible refine (span_0 _).mono ?_; rintro e w' ⟨rfl, rfl⟩) | (go_at_call 21; with_reducible refine (span_1 _).mono ?_; rintro e w' ⟨rfl, rfl⟩) | (go_at_call 21; with_reducible refine (span_2 _).mono ?_; rintro e w' ⟨rfl, rfl⟩) | (go_at_call 21; with_reducible refine (span_3 _).mono ?_; rintro e w' ⟨rfl, rfl⟩))
  with_reducible refine (c9 _).mono ?_
  rintro e w3 ⟨rfl, D⟩
  have H3 : Hid (Kp _ w3) := H2.out.trans D.kp
  clear D H2
  go_wp2_with fail
  go_ret
  exact ⟨rfl, H3.out⟩

set_option maxHeartbeats 8000000 in
set_option maxRecDepth 100000 in
theorem spans_1 (u : Nat) (level : Int) (w : World) (hu : u < 18446744073709551616) (hl : level % 4 = 1) :
    Calls Try.prog 8 #[.int .u64 (u : Int), .int .i64 level] w fun e w' => e = .returned (.bool true) ∧ Kp w w' := by
  have m := mask2 level
  rw [hl] at m
  have m48 := mask48 u hu
  obtain ⟨a, ha⟩ : ∃ a, a = u % 281474976710656 := ⟨_, rfl⟩
  rw [← ha] at m48
  obtain ⟨x0, h0⟩ : ∃ x, x = u / 549755813888 % 512 := ⟨_, rfl⟩
  have c0 := fun w => index_0 u x0 w hu h0
  have y0 : (x0 : Int) < 512 := by omega
  obtain ⟨x1, h1⟩ : ∃ x, x = u / 1073741824 % 512 := ⟨_, rfl⟩
  have c1 := fun w => index_1 u x1 w hu h1
  have y1 : (x1 : Int) < 512 := by omega
  have t1 : (x0 : Int) * 549755813888 + (x1 : Int) * 1073741824 ≤ a := by omega
  have t2 : (a : Int) - ((x0 : Int) * 549755813888) - (x1 : Int) * 1073741824 < 1073741824 := by omega
  obtain ⟨u2, hu2⟩ : ∃ v, v = (u + 1073741824) % 18446744073709551616 := ⟨_, rfl⟩
  obtain ⟨z, hz⟩ : ∃ z, z = u2 / 1073741824 % 512 := ⟨_, rfl⟩
  have c9 := fun w => index_1 u2 z w (by omega) hz
  have z1 : (z : Int) = ((x1 : Int) + 1) % 512 := by omega
  have z2 : ((u : Int) + 1073741824) % 18446744073709551616 = u2 := by omega
  have z3 : IntKind.u64.wrap ((u : Int) + 1073741824) = u2 := by simp [IntKind.wrap, IntKind.bits, IntKind.signed]; omega
  clear hu hl ha hu2 hz h0 h1
  go_enter Try.func8, Try.ntmps8
  go_wp2_with (first | (go_at_call 21; with_reducible refine (span_0 _).mono ?_; rintro e w' ⟨rfl, rfl⟩) | (go_at_call 21; with_reducible refine (span_1 _).mono ?_; rintro e w' ⟨rfl, rfl⟩) | (go_at_call 21; with_reducible refine (span_2 _).mono ?_; rintro e w' ⟨rfl, rfl⟩) | (go_at_call 21; with_reducible refine (span_3 _).mono ?_; rintro e w' ⟨rfl, rfl⟩))
  with_reducible refine (c1 _).mono ?_
  rintro e w1 ⟨rfl, D⟩
  have H1 : Hid (Kp _ w1) := D.kp
  clear D
  go_wp2_with (first | (go_at_call 21; with_reducible refine (span_0 _).mono ?_; rintro e w' ⟨rfl, rfl⟩) | (go_at_call 21; with_reducible refine (span_1 _).mono ?_; rintro e w' ⟨rfl, rfl⟩) | (go_at_call 21; with_reducible refine (span_2 _).mono ?_; rintro e w' ⟨rfl, rfl⟩) | (go_at_call 21; with_reducible refine (span_3 _).mono ?_; rintro e w' ⟨rfl, rfl⟩))
  refine wp_loop_rounds 2 ?_
  rw [rounds_succ]; go_wp2_with (first | (go_at_call 21; with_reducible refine (span_0 _).mono ?_; rintro e w' ⟨rfl, rfl⟩) | (go_at_call 21; with_reducible refine (span_1 _).mono ?_; rintro e w' ⟨rfl, rfl⟩) | (go_at_call 21; with_reducible refine (span_2 _).mono ?_; rintro e w' ⟨rfl, rfl⟩) | (go_at_call 21; with_reducible refine (span_3 _).mono ?_; rintro e w' ⟨rfl, rfl⟩))
  with_reducible refine (c0 _).mono ?_
  rintro e w2 ⟨rfl, D⟩
  have H2 : Hid (Kp _ w2) := H1.out.trans D.kp
  clear D H1
  go_wp2_with (first | (go_at_call 21; with_reducible refine (span_0 _).mono ?_; rintro e w' ⟨rfl, rfl⟩) | (go_at_call 21; with_reducible refine (span_1 _).mono ?_; rintro e w' ⟨rfl, rfl⟩) | (go_at_call 21; with_reducible refine (span_2 _).mono ?_; rintro e w' ⟨rfl, rfl⟩) | (go_at_call 21; with_reducible refine (span_3 _).mono ?_; rintro e w' ⟨rfl, rfl⟩))
  rw [rounds_succ]; go_wp2_with fail
  with_reducible refine (told_any _).mono ?_
  rintro e w3 ⟨rfl, D⟩
  have H3 : Hid (Kp _ w3) := H2.out.trans D
  clear D H2
  go_wp2_with (first | (go_at_call 21; with_reducible refine (span_0 _).mono ?_; rintro e w' ⟨rfl, rfl⟩) | (go_at_call 21; with_reducible refine (span_1 _).mono ?_; rintro e w' ⟨rfl, rfl⟩) | (go_at_call 21; with_reducible refine (span_2 _).mono ?_; rintro e w' ⟨rfl, rfl⟩) | (go_at_call 21; with_reducible refine (span_3 _).mono ?_; rintro e w' ⟨rfl, rfl⟩))
  with_reducible refine (c9 _).mono ?_
  rintro e w4 ⟨rfl, D⟩
  have H4 : Hid (Kp _ w4) := H3.out.trans D.kp
  clear D H3
  go_wp2_with fail
  go_ret
  exact ⟨rfl, H4.out⟩

set_option maxHeartbeats 8000000 in
set_option maxRecDepth 100000 in
theorem spans_2 (u : Nat) (level : Int) (w : World) (hu : u < 18446744073709551616) (hl : level % 4 = 2) :
    Calls Try.prog 8 #[.int .u64 (u : Int), .int .i64 level] w fun e w' => e = .returned (.bool true) ∧ Kp w w' := by
  have m := mask2 level
  rw [hl] at m
  have m48 := mask48 u hu
  obtain ⟨a, ha⟩ : ∃ a, a = u % 281474976710656 := ⟨_, rfl⟩
  rw [← ha] at m48
  obtain ⟨x0, h0⟩ : ∃ x, x = u / 549755813888 % 512 := ⟨_, rfl⟩
  have c0 := fun w => index_0 u x0 w hu h0
  have y0 : (x0 : Int) < 512 := by omega
  obtain ⟨x1, h1⟩ : ∃ x, x = u / 1073741824 % 512 := ⟨_, rfl⟩
  have c1 := fun w => index_1 u x1 w hu h1
  have y1 : (x1 : Int) < 512 := by omega
  obtain ⟨x2, h2⟩ : ∃ x, x = u / 2097152 % 512 := ⟨_, rfl⟩
  have c2 := fun w => index_2 u x2 w hu h2
  have y2 : (x2 : Int) < 512 := by omega
  have t1 : (x0 : Int) * 549755813888 + (x1 : Int) * 1073741824 + (x2 : Int) * 2097152 ≤ a := by omega
  have t2 : (a : Int) - ((x0 : Int) * 549755813888 + (x1 : Int) * 1073741824) - (x2 : Int) * 2097152 < 2097152 := by omega
  obtain ⟨u2, hu2⟩ : ∃ v, v = (u + 2097152) % 18446744073709551616 := ⟨_, rfl⟩
  obtain ⟨z, hz⟩ : ∃ z, z = u2 / 2097152 % 512 := ⟨_, rfl⟩
  have c9 := fun w => index_2 u2 z w (by omega) hz
  have z1 : (z : Int) = ((x2 : Int) + 1) % 512 := by omega
  have z2 : ((u : Int) + 2097152) % 18446744073709551616 = u2 := by omega
  have z3 : IntKind.u64.wrap ((u : Int) + 2097152) = u2 := by simp [IntKind.wrap, IntKind.bits, IntKind.signed]; omega
  clear hu hl ha hu2 hz h0 h1 h2
  go_enter Try.func8, Try.ntmps8
  go_wp2_with (first | (go_at_call 21; with_reducible refine (span_0 _).mono ?_; rintro e w' ⟨rfl, rfl⟩) | (go_at_call 21; with_reducible refine (span_1 _).mono ?_; rintro e w' ⟨rfl, rfl⟩) | (go_at_call 21; with_reducible refine (span_2 _).mono ?_; rintro e w' ⟨rfl, rfl⟩) | (go_at_call 21; with_reducible refine (span_3 _).mono ?_; rintro e w' ⟨rfl, rfl⟩))
  with_reducible refine (c2 _).mono ?_
  rintro e w1 ⟨rfl, D⟩
  have H1 : Hid (Kp _ w1) := D.kp
  clear D
  go_wp2_with (first | (go_at_call 21; with_reducible refine (span_0 _).mono ?_; rintro e w' ⟨rfl, rfl⟩) | (go_at_call 21; with_reducible refine (span_1 _).mono ?_; rintro e w' ⟨rfl, rfl⟩) | (go_at_call 21; with_reducible refine (span_2 _).mono ?_; rintro e w' ⟨rfl, rfl⟩) | (go_at_call 21; with_reducible refine (span_3 _).mono ?_; rintro e w' ⟨rfl, rfl⟩))
  refine wp_loop_rounds 3 ?_
  rw [rounds_succ]; go_wp2_with (first | (go_at_call 21; with_reducible refine (span_0 _).mono ?_; rintro e w' ⟨rfl, rfl⟩) | (go_at_call 21; with_reducible refine (span_1 _).mono ?_; rintro e w' ⟨rfl, rfl⟩) | (go_at_call 21; with_reducible refine (span_2 _).mono ?_; rintro e w' ⟨rfl, rfl⟩) | (go_at_call 21; with_reducible refine (span_3 _).mono ?_; rintro e w' ⟨rfl, rfl⟩))
  with_reducible refine (c0 _).mono ?_
  rintro e w2 ⟨rfl, D⟩
  have H2 : Hid (Kp _ w2) := H1.out.trans D.kp
  clear D H1
  go_wp2_with (first | (go_at_call 21; with_reducible refine (span_0 _).mono ?_; rintro e w' ⟨rfl, rfl⟩) | (go_at_call 21; with_reducible refine (span_1 _).mono ?_; rintro e w' ⟨rfl, rfl⟩) | (go_at_call 21; with_reducible refine (span_2 _).mono ?_; rintro e w' ⟨rfl, rfl⟩) | (go_at_call 21; with_reducible refine (span_3 _).mono ?_; rintro e w' ⟨rfl, rfl⟩))
  rw [rounds_succ]; go_wp2_with (first | (go_at_call 21; with_reducible refine (span_0 _).mono ?_; rintro e w' ⟨rfl, rfl⟩) | (go_at_call 21; with_reducible refine (span_1 _).mono ?_; rintro e w' ⟨rfl, rfl⟩) | (go_at_call 21; with_reducible refine (span_2 _).mono ?_; rintro e w' ⟨rfl, rfl⟩) | (go_at_call 21; with_reducible refine (span_3 _).mono ?_; rintro e w' ⟨rfl, rfl⟩))
  with_reducible refine (c1 _).mono ?_
  rintro e w3 ⟨rfl, D⟩
  have H3 : Hid (Kp _ w3) := H2.out.trans D.kp
  clear D H2
  go_wp2_with (first | (go_at_call 21; with_reducible refine (span_0 _).mono ?_; rintro e w' ⟨rfl, rfl⟩) | (go_at_call 21; with_reducible refine (span_1 _).mono ?_; rintro e w' ⟨rfl, rfl⟩) | (go_at_call 21; with_reducible refine (span_2 _).mono ?_; rintro e w' ⟨rfl, rfl⟩) | (go_at_call 21; with_reducible refine (span_3 _).mono ?_; rintro e w' ⟨rfl, rfl⟩))
  rw [rounds_succ]; go_wp2_with fail
  with_reducible refine (told_any _).mono ?_
  rintro e w4 ⟨rfl, D⟩
  have H4 : Hid (Kp _ w4) := H3.out.trans D
  clear D H3
  go_wp2_with (first | (go_at_call 21; with_reducible refine (span_0 _).mono ?_; rintro e w' ⟨rfl, rfl⟩) | (go_at_call 21; with_reducible refine (span_1 _).mono ?_; rintro e w' ⟨rfl, rfl⟩) | (go_at_call 21; with_reducible refine (span_2 _).mono ?_; rintro e w' ⟨rfl, rfl⟩) | (go_at_call 21; with_reducible refine (span_3 _).mono ?_; rintro e w' ⟨rfl, rfl⟩))
  with_reducible refine (c9 _).mono ?_
  rintro e w5 ⟨rfl, D⟩
  have H5 : Hid (Kp _ w5) := H4.out.trans D.kp
  clear D H4
  go_wp2_with fail
  go_ret
  exact ⟨rfl, H5.out⟩

set_option maxHeartbeats 8000000 in
set_option maxRecDepth 100000 in
theorem spans_3 (u : Nat) (level : Int) (w : World) (hu : u < 18446744073709551616) (hl : level % 4 = 3) :
    Calls Try.prog 8 #[.int .u64 (u : Int), .int .i64 level] w fun e w' => e = .returned (.bool true) ∧ Kp w w' := by
  have m := mask2 level
  rw [hl] at m
  have m48 := mask48 u hu
  obtain ⟨a, ha⟩ : ∃ a, a = u % 281474976710656 := ⟨_, rfl⟩
  rw [← ha] at m48
  obtain ⟨x0, h0⟩ : ∃ x, x = u / 549755813888 % 512 := ⟨_, rfl⟩
  have c0 := fun w => index_0 u x0 w hu h0
  have y0 : (x0 : Int) < 512 := by omega
  obtain ⟨x1, h1⟩ : ∃ x, x = u / 1073741824 % 512 := ⟨_, rfl⟩
  have c1 := fun w => index_1 u x1 w hu h1
  have y1 : (x1 : Int) < 512 := by omega
  obtain ⟨x2, h2⟩ : ∃ x, x = u / 2097152 % 512 := ⟨_, rfl⟩
  have c2 := fun w => index_2 u x2 w hu h2
  have y2 : (x2 : Int) < 512 := by omega
  obtain ⟨x3, h3⟩ : ∃ x, x = u / 4096 % 512 := ⟨_, rfl⟩
  have c3 := fun w => index_3 u x3 w hu h3
  have y3 : (x3 : Int) < 512 := by omega
  have t1 : (x0 : Int) * 549755813888 + (x1 : Int) * 1073741824 + (x2 : Int) * 2097152 + (x3 : Int) * 4096 ≤ a := by omega
  have t2 : (a : Int) - ((x0 : Int) * 549755813888 + (x1 : Int) * 1073741824 + (x2 : Int) * 2097152) - (x3 : Int) * 4096 < 4096 := by omega
  obtain ⟨u2, hu2⟩ : ∃ v, v = (u + 4096) % 18446744073709551616 := ⟨_, rfl⟩
  obtain ⟨z, hz⟩ : ∃ z, z = u2 / 4096 % 512 := ⟨_, rfl⟩
  have c9 := fun w => index_3 u2 z w (by omega) hz
  have z1 : (z : Int) = ((x3 : Int) + 1) % 512 := by omega
  have z2 : ((u : Int) + 4096) % 18446744073709551616 = u2 := by omega
  have z3 : IntKind.u64.wrap ((u : Int) + 4096) = u2 := by simp [IntKind.wrap, IntKind.bits, IntKind.signed]; omega
  clear hu hl ha hu2 hz h0 h1 h2 h3
  go_enter Try.func8, Try.ntmps8
  go_wp2_with (first | (go_at_call 21; with_reducible refine (span_0 _).mono ?_; rintro e w' ⟨rfl, rfl⟩) | (go_at_call 21; with_reducible refine (span_1 _).mono ?_; rintro e w' ⟨rfl, rfl⟩) | (go_at_call 21; with_reducible refine (span_2 _).mono ?_; rintro e w' ⟨rfl, rfl⟩) | (go_at_call 21; with_reducible refine (span_3 _).mono ?_; rintro e w' ⟨rfl, rfl⟩))
  with_reducible refine (c3 _).mono ?_
  rintro e w1 ⟨rfl, D⟩
  have H1 : Hid (Kp _ w1) := D.kp
  clear D
  go_wp2_with (first | (go_at_call 21; with_reducible refine (span_0 _).mono ?_; rintro e w' ⟨rfl, rfl⟩) | (go_at_call 21; with_reducible refine (span_1 _).mono ?_; rintro e w' ⟨rfl, rfl⟩) | (go_at_call 21; with_reducible refine (span_2 _).mono ?_; rintro e w' ⟨rfl, rfl⟩) | (go_at_call 21; with_reducible refine (span_3 _).mono ?_; rintro e w' ⟨rfl, rfl⟩))
  refine wp_loop_rounds 4 ?_
  rw [rounds_succ]; go_wp2_with (first | (go_at_call 21; with_reducible refine (span_0 _).mono ?_; rintro e w' ⟨rfl, rfl⟩) | (go_at_call 21; with_reducible refine (span_1 _).mono ?_; rintro e w' ⟨rfl, rfl⟩) | (go_at_call 21; with_reducible refine (span_2 _).mono ?_; rintro e w' ⟨rfl, rfl⟩) | (go_at_call 21; with_reducible refine (span_3 _).mono ?_; rintro e w' ⟨rfl, rfl⟩))
  with_reducible refine (c0 _).mono ?_
  rintro e w2 ⟨rfl, D⟩
  have H2 : Hid (Kp _ w2) := H1.out.trans D.kp
  clear D H1
  go_wp2_with (first | (go_at_call 21; with_reducible refine (span_0 _).mono ?_; rintro e w' ⟨rfl, rfl⟩) | (go_at_call 21; with_reducible refine (span_1 _).mono ?_; rintro e w' ⟨rfl, rfl⟩) | (go_at_call 21; with_reducible refine (span_2 _).mono ?_; rintro e w' ⟨rfl, rfl⟩) | (go_at_call 21; with_reducible refine (span_3 _).mono ?_; rintro e w' ⟨rfl, rfl⟩))
  rw [rounds_succ]; go_wp2_with (first | (go_at_call 21; with_reducible refine (span_0 _).mono ?_; rintro e w' ⟨rfl, rfl⟩) | (go_at_call 21; with_reducible refine (span_1 _).mono ?_; rintro e w' ⟨rfl, rfl⟩) | (go_at_call 21; with_reducible refine (span_2 _).mono ?_; rintro e w' ⟨rfl, rfl⟩) | (go_at_call 21; with_reducible refine (span_3 _).mono ?_; rintro e w' ⟨rfl, rfl⟩))
  with_reducible refine (c1 _).mono ?_
  rintro e w3 ⟨rfl, D⟩
  have H3 : Hid (Kp _ w3) := H2.out.trans D.kp
  clear D H2
  go_wp2_with (first | (go_at_call 21; with_reducible refine (span_0 _).mono ?_; rintro e w' ⟨rfl, rfl⟩) | (go_at_call 21; with_reducible refine (span_1 _).mono ?_; rintro e w' ⟨rfl, rfl⟩) | (go_at_call 21; with_reducible refine (span_2 _).mono ?_; rintro e w' ⟨rfl, rfl⟩) | (go_at_call 21; with_reducible refine (span_3 _).mono ?_; rintro e w' ⟨rfl, rfl⟩))
  rw [rounds_succ]; go_wp2_with (first | (go_at_call 21; with_reducible refine (span_0 _).mono ?_; rintro e w' ⟨rfl, rfl⟩) | (go_at_call 21; with_reducible refine (span_1 _).mono ?_; rintro e w' ⟨rfl, rfl⟩) | (go_at_call 21; with_reducible refine (span_2 _).mono ?_; rintro e w' ⟨rfl, rfl⟩) | (go_at_call 21; with_reducible refine (span_3 _).mono ?_; rintro e w' ⟨rfl, rfl⟩))
  with_reducible refine (c2 _).mono ?_
  rintro e w4 ⟨rfl, D⟩
  have H4 : Hid (Kp _ w4) := H3.out.trans D.kp
  clear D H3
  go_wp2_with (first | (go_at_call 21; with_reducible refine (span_0 _).mono ?_; rintro e w' ⟨rfl, rfl⟩) | (go_at_call 21; with_reducible refine (span_1 _).mono ?_; rintro e w' ⟨rfl, rfl⟩) | (go_at_call 21; with_reducible refine (span_2 _).mono ?_; rintro e w' ⟨rfl, rfl⟩) | (go_at_call 21; with_reducible refine (span_3 _).mono ?_; rintro e w' ⟨rfl, rfl⟩))
  rw [rounds_succ]; go_wp2_with fail
  with_reducible refine (told_any _).mono ?_
  rintro e w5 ⟨rfl, D⟩
  have H5 : Hid (Kp _ w5) := H4.out.trans D
  clear D H4
  go_wp2_with (first | (go_at_call 21; with_reducible refine (span_0 _).mono ?_; rintro e w' ⟨rfl, rfl⟩) | (go_at_call 21; with_reducible refine (span_1 _).mono ?_; rintro e w' ⟨rfl, rfl⟩) | (go_at_call 21; with_reducible refine (span_2 _).mono ?_; rintro e w' ⟨rfl, rfl⟩) | (go_at_call 21; with_reducible refine (span_3 _).mono ?_; rintro e w' ⟨rfl, rfl⟩))
  with_reducible refine (c9 _).mono ?_
  rintro e w6 ⟨rfl, D⟩
  have H6 : Hid (Kp _ w6) := H5.out.trans D.kp
  clear D H5
  go_wp2_with fail
  go_ret
  exact ⟨rfl, H6.out⟩

theorem spans_law (u level : Int) (w : World) (hu : (Lit.int .u64 u).wf = true) :
    Calls Try.prog 8 #[.int .u64 u, .int .i64 level] w fun e w' => e = .returned (.bool true) ∧ Kp w w' := by
  have h := wf_word hu
  obtain ⟨n, rfl⟩ : ∃ n : Nat, u = n := ⟨u.toNat, by omega⟩
  have h4 : level % 4 = 0 ∨ level % 4 = 1 ∨ level % 4 = 2 ∨ level % 4 = 3 := by omega
  rcases h4 with c | c | c | c
  · exact spans_0 n level w (by omega) c
  · exact spans_1 n level w (by omega) c
  · exact spans_2 n level w (by omega) c
  · exact spans_3 n level w (by omega) c

end Go.Proofs.Ytddklpbddpjklaa
