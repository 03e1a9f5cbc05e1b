/- The walks of gauss's small inner functions over whole numbers: isWhole, isSmall, withoutMinusZero, conjugate, norm, nearest, refuse. -/
import Derived.Test.YtpiekhiamdknjaaW1
namespace Go.Proofs.Ytpiekhiamdknjaa
open Go.RowKit

theorem FI_const {b : Nat} (n : Int) (h : n.natAbs < 9007199254740992) (e : floatOfInt .f64 n = b) : FI b n := by
  have := FI_of_int n h; rwa [e] at this
theorem FI_whole : FI 4841369599423283200 4503599627370496 := FI_const _ (by decide) (by decide)
theorem FI_small : FI 4715268809856909312 16777216 := FI_const _ (by decide) (by decide)

theorem mul_le {x y : Int} {A B : Nat} (hx : x.natAbs ≤ A) (hy : y.natAbs ≤ B) : (x * y).natAbs ≤ A * B := by
  rw [Int.natAbs_mul]; exact Nat.mul_le_mul hx hy

set_option maxHeartbeats 400000 in
theorem isWhole_true (a b : Nat) (w : World) (x y : Int) (ha : FI a x) (hb : FI b y) (hx : x.natAbs ≤ 4503599627370496) (hy : y.natAbs ≤ 4503599627370496) :
    Calls Try.prog 28 #[.complex .f64 a b] w fun e w' => e = .returned (.bool true) ∧ w' = w := by
  have c1 := fun w => upTo_true a _ w x _ ha FI_whole (by omega) (by omega)
  have c2 := fun w => upTo_true b _ w y _ hb FI_whole (by omega) (by omega)
  clear hx hy
  go_enter Try.func28, Try.ntmps28
  go_wp2_with (first | (go_at_call 33; with_reducible refine (c1 _).mono ?_; rintro e w' ⟨rfl, rfl⟩) | (go_at_call 33; with_reducible refine (c2 _).mono ?_; rintro e w' ⟨rfl, rfl⟩))
  go_ret
  exact ⟨rfl, rfl⟩

set_option maxHeartbeats 400000 in
theorem isSmall_true (a b : Nat) (w : World) (x y : Int) (ha : FI a x) (hb : FI b y) (hx : x.natAbs ≤ 16777216) (hy : y.natAbs ≤ 16777216) :
    Calls Try.prog 42 #[.complex .f64 a b] w fun e w' => e = .returned (.bool true) ∧ w' = w := by
  have c1 := fun w => upTo_true a _ w x _ ha FI_small (by omega) (by omega)
  have c2 := fun w => upTo_true b _ w y _ hb FI_small (by omega) (by omega)
  clear hx hy
  go_enter Try.func42, Try.ntmps42
  go_wp2_with (first | (go_at_call 33; with_reducible refine (c1 _).mono ?_; rintro e w' ⟨rfl, rfl⟩) | (go_at_call 33; with_reducible refine (c2 _).mono ?_; rintro e w' ⟨rfl, rfl⟩))
  go_ret
  exact ⟨rfl, rfl⟩

set_option maxHeartbeats 400000 in
theorem conj_any (a b : Nat) (w : World) :
    Calls Try.prog 43 #[.complex .f64 a b] w fun e w' => e = .returned (.complex .f64 a (Op.negFloat .f64 b)) ∧ w' = w := by
  have hn : ∀ w, (Op.unary .neg (.float .f64 b)).run Try.prog w = .ok (.float .f64 (Op.negFloat .f64 b)) w := fun _ => rfl
  go_enter Try.func43, Try.ntmps43
  go_wp2
  go_ret
  exact ⟨rfl, rfl⟩

set_option maxHeartbeats 400000 in
theorem norm_any (a b : Nat) (w : World) (x y : Int) (ha : FI a x) (hb : FI b y) (hx : x.natAbs ≤ 16777216) (hy : y.natAbs ≤ 16777216) :
    Calls Try.prog 37 #[.complex .f64 a b] w fun e w' => e = .returned (.int .i64 (x * x + y * y)) ∧ w' = w := by
  have m1 := mul_le hx hx
  have m2 := mul_le hy hy
  have m3 := mul_le hx hy
  have m4 := mul_le hy hx
  obtain ⟨re, im, hm, hre, _⟩ := FI_cmul ha hb ha (FI_neg hb) (by omega) (by rw [Int.mul_neg]; omega) (by rw [Int.mul_neg]; omega) (by omega)
  have hM := fun w => run_complex_mul (P := Try.prog) w 22 _ _ _ _ _ _ hm
  rw [Int.mul_neg, Int.sub_neg] at hre
  have hI := fun w => run_convert_float_int (P := Try.prog) w 28 3 .f64 .i64 re _ (by kernel_rfl) (by kernel_rfl) (FI_toInt hre (by omega))
  clear hm hre ha hb hx hy m1 m2 m3 m4
  go_enter Try.func37, Try.ntmps37
  go_wp2_with (go_at_call 43; with_reducible refine (conj_any _ _ _).mono ?_; rintro e w' ⟨rfl, rfl⟩)
  go_ret
  exact ⟨rfl, rfl⟩

theorem wrap64_id {x : Int} (h1 : -9223372036854775808 ≤ x) (h2 : x ≤ 9223372036854775807) : wrap64 x = x := by
  unfold wrap64; omega

theorem ret_float {n m : Int} (h : n = m) : Ending.returned (.float .f64 (floatOfInt .f64 n)) = .returned (.float .f64 (floatOfInt .f64 m)) := by rw [h]

theorem tdiv_parts {D M : Int} (hM : 0 < M) : (D.tmod M < 0 → D.tdiv M - 1 = D / M) ∧ (0 ≤ D.tmod M → D.tdiv M = D / M) := by
  have e1 := Int.tdiv_eq_ediv (a := D) (b := M)
  have e2 := Int.tmod_eq_emod (a := D) (b := M)
  have l1 := Int.emod_nonneg D (b := M) (by omega)
  have l2 := Int.emod_lt_of_pos D hM
  have hs : M.sign = 1 := Int.sign_eq_one_of_pos hM
  rw [hs] at e1
  by_cases c : 0 ≤ D ∨ M ∣ D
  · rw [if_pos c] at e1 e2; constructor <;> intro h <;> simp at e2 <;> omega
  · rw [if_neg c] at e1 e2; constructor <;> intro h <;> omega

theorem ediv_small {D M : Int} (hM : 0 < M) (h1 : -4611686018427387904 ≤ D) (h2 : D ≤ 4611686018427387904) : -4611686018427387904 ≤ D / M ∧ D / M ≤ 4611686018427387904 := by
  have h3 : D < 4611686018427387905 * M := by
    have : 4611686018427387905 * 1 ≤ 4611686018427387905 * M := Int.mul_le_mul_of_nonneg_left hM (by omega)
    omega
  have h4 : -4611686018427387904 * M ≤ D := by
    have : 4611686018427387904 * 1 ≤ 4611686018427387904 * M := Int.mul_le_mul_of_nonneg_left hM (by omega)
    omega
  exact ⟨(Int.le_ediv_iff_mul_le hM).2 h4, by have := (Int.ediv_lt_iff_lt_mul hM).2 h3; omega⟩

theorem tdiv_down {D M : Int} (hM : 0 < M) (h : D.tmod M < 0) (h1 : -4611686018427387904 ≤ D) (h2 : D ≤ 4611686018427387904) : wrap64 (D.tdiv M - 1) = D / M := by
  have e := (tdiv_parts (D := D) hM).1 h
  have b := ediv_small hM h1 h2
  rw [e]; exact wrap64_id (by omega) (by omega)

theorem tdiv_up {D M : Int} (hM : 0 < M) (h : 0 ≤ D.tmod M) : D.tdiv M = D / M := (tdiv_parts hM).2 h

set_option maxHeartbeats 1000000 in
theorem refuse2_any (B : Nat) (a b c d : Nat) (x y u v : Int) (w : World) (ha : FI a x) (hb : FI b y) (hc : FI c u) (hd : FI d v)
    (hx : x.natAbs ≤ 16777216) (hy : y.natAbs ≤ 16777216) (hu : u.natAbs ≤ 16777216) (hv : v.natAbs ≤ 16777216)
    (k0 : w.cell? ⟨B, 0, none⟩ = some (.complex .f64 a b)) (k1 : w.cell? ⟨B, 1, none⟩ = some (.complex .f64 c d)) :
    Calls Try.prog 36 #[.slice (some ⟨B, 0, none⟩) 2 2] w fun e w' => e = .returned (.int .i64 0) ∧ w = w' := by
  have c1 := fun w => isWhole_true a b w x y ha hb (by omega) (by omega)
  have c2 := fun w => isWhole_true c d w u v hc hd (by omega) (by omega)
  have c3 := fun w => isSmall_true a b w x y ha hb hx hy
  have c4 := fun w => isSmall_true c d w u v hc hd hu hv
  clear ha hb hc hd hx hy hu hv
  go_enter Try.func36, Try.ntmps36
  go_wp2_with fail
  refine wp_loop_rounds 3 ?_
  rw [rounds_succ]; go_wp2_with (first | (go_at_call 28; with_reducible refine (c1 _).mono ?_; rintro e w' ⟨rfl, rfl⟩) | (go_at_call 28; with_reducible refine (c2 _).mono ?_; rintro e w' ⟨rfl, rfl⟩) | (go_at_call 42; with_reducible refine (c3 _).mono ?_; rintro e w' ⟨rfl, rfl⟩) | (go_at_call 42; with_reducible refine (c4 _).mono ?_; rintro e w' ⟨rfl, rfl⟩))
  rw [rounds_succ]; go_wp2_with (first | (go_at_call 28; with_reducible refine (c1 _).mono ?_; rintro e w' ⟨rfl, rfl⟩) | (go_at_call 28; with_reducible refine (c2 _).mono ?_; rintro e w' ⟨rfl, rfl⟩) | (go_at_call 42; with_reducible refine (c3 _).mono ?_; rintro e w' ⟨rfl, rfl⟩) | (go_at_call 42; with_reducible refine (c4 _).mono ?_; rintro e w' ⟨rfl, rfl⟩))
  rw [rounds_succ]; go_wp2_with (first | (go_at_call 28; with_reducible refine (c1 _).mono ?_; rintro e w' ⟨rfl, rfl⟩) | (go_at_call 28; with_reducible refine (c2 _).mono ?_; rintro e w' ⟨rfl, rfl⟩) | (go_at_call 42; with_reducible refine (c3 _).mono ?_; rintro e w' ⟨rfl, rfl⟩) | (go_at_call 42; with_reducible refine (c4 _).mono ?_; rintro e w' ⟨rfl, rfl⟩))
  refine wp_loop_rounds 3 ?_
  rw [rounds_succ]; go_wp2_with (first | (go_at_call 28; with_reducible refine (c1 _).mono ?_; rintro e w' ⟨rfl, rfl⟩) | (go_at_call 28; with_reducible refine (c2 _).mono ?_; rintro e w' ⟨rfl, rfl⟩) | (go_at_call 42; with_reducible refine (c3 _).mono ?_; rintro e w' ⟨rfl, rfl⟩) | (go_at_call 42; with_reducible refine (c4 _).mono ?_; rintro e w' ⟨rfl, rfl⟩))
  rw [rounds_succ]; go_wp2_with (first | (go_at_call 28; with_reducible refine (c1 _).mono ?_; rintro e w' ⟨rfl, rfl⟩) | (go_at_call 28; with_reducible refine (c2 _).mono ?_; rintro e w' ⟨rfl, rfl⟩) | (go_at_call 42; with_reducible refine (c3 _).mono ?_; rintro e w' ⟨rfl, rfl⟩) | (go_at_call 42; with_reducible refine (c4 _).mono ?_; rintro e w' ⟨rfl, rfl⟩))
  rw [rounds_succ]; go_wp2_with (first | (go_at_call 28; with_reducible refine (c1 _).mono ?_; rintro e w' ⟨rfl, rfl⟩) | (go_at_call 28; with_reducible refine (c2 _).mono ?_; rintro e w' ⟨rfl, rfl⟩) | (go_at_call 42; with_reducible refine (c3 _).mono ?_; rintro e w' ⟨rfl, rfl⟩) | (go_at_call 42; with_reducible refine (c4 _).mono ?_; rintro e w' ⟨rfl, rfl⟩))
  go_ret
  exact ⟨rfl, rfl⟩

set_option maxHeartbeats 1000000 in
theorem refuse1_any (B : Nat) (a b : Nat) (x y : Int) (w : World) (ha : FI a x) (hb : FI b y)
    (hx : x.natAbs ≤ 16777216) (hy : y.natAbs ≤ 16777216)
    (k0 : w.cell? ⟨B, 0, none⟩ = some (.complex .f64 a b)) :
    Calls Try.prog 36 #[.slice (some ⟨B, 0, none⟩) 1 1] w fun e w' => e = .returned (.int .i64 0) ∧ w = w' := by
  have c1 := fun w => isWhole_true a b w x y ha hb (by omega) (by omega)
  have c3 := fun w => isSmall_true a b w x y ha hb hx hy
  clear ha hb hx hy
  go_enter Try.func36, Try.ntmps36
  go_wp2_with fail
  refine wp_loop_rounds 2 ?_
  rw [rounds_succ]; go_wp2_with (go_at_call 28; with_reducible refine (c1 _).mono ?_; rintro e w' ⟨rfl, rfl⟩)
  rw [rounds_succ]; go_wp2_with (go_at_call 28; with_reducible refine (c1 _).mono ?_; rintro e w' ⟨rfl, rfl⟩)
  refine wp_loop_rounds 2 ?_
  rw [rounds_succ]; go_wp2_with (go_at_call 42; with_reducible refine (c3 _).mono ?_; rintro e w' ⟨rfl, rfl⟩)
  rw [rounds_succ]; go_wp2_with (go_at_call 42; with_reducible refine (c3 _).mono ?_; rintro e w' ⟨rfl, rfl⟩)
  go_ret
  exact ⟨rfl, rfl⟩

end Go.Proofs.Ytpiekhiamdknjaa
