/- The walk of GaussUnits: a turn is a product with a unit, and a number less itself is 0. -/
import Derived.Test.YtobmgeklccagfabTurns
namespace Go.Proofs.Ytobmgeklccagfab
open Go.RowKit

set_option maxHeartbeats 400000 in
theorem clean_zero (w : World) : Calls Try.prog 17 #[.complex .f64 0 0] w fun e w' => e = .returned (.bool true) ∧ w' = w := by
  have h1 : ∀ w, (binOp .quo 38 (.float .f64 4607182418800017408) (.float .f64 0)).run Try.prog w = .ok (.float .f64 9218868437227405312) w := fun w => run_float_arith (P := Try.prog) w .quo _ .f64 _ _ _ (by decide)
  have h2 : (FloatKind.f64.format.order 9218868437227405312 0 == some .gt) = true := by decide
  have h3 : (FloatKind.f64.format.order 0 0 != some .eq) = false := by decide
  go_enter Try.func17, Try.ntmps17
  go_wp2
  go_ret
  exact ⟨rfl, rfl⟩

theorem neg_id {x : Int} (h : x.natAbs ≤ 16777216) : wrap64 (-x) = -x := wrap64_id (by omega) (by omega)

set_option maxRecDepth 100000 in
set_option maxHeartbeats 4000000 in
theorem units0 (a b k : Int) (w : World) (hk : k % 4 = (0 : Nat)) : Calls Try.prog 6 #[.int .i64 a, .int .i64 b, .int .i64 k] w fun e w' => e = .returned (.bool true) ∧ Grown w w' := by
  have ba := nabs_le (B := 16777216) (sp_le a) (by decide)
  have bb := nabs_le (B := 16777216) (sp_le b) (by decide)
  have HK : Hid (k % 4 = (0 : Nat)) := hk
  have hK : (wrap64 (k.tmod 4 + 4)).tmod 4 = 0 := turn_mod k 0 hk
  clear hk
  go_enter Try.func6, Try.ntmps6
  go_wp2_with fail
  with_reducible refine (small_any _ _ _).mono ?_; rintro e1 w1 ⟨x1, x2, rfl, X1, X2, rfl⟩
  generalize sp a = A at *
  generalize sp b = B at *
  have cI1 := fun w => run_convert_float_int (P := Try.prog) w 38 3 .f64 .i64 x1 _ (by kernel_rfl) (by kernel_rfl) (FI_toInt X1.fi (nabs_lt ba (by decide)))
  have cI2 := fun w => run_convert_float_int (P := Try.prog) w 38 3 .f64 .i64 x2 _ (by kernel_rfl) (by kernel_rfl) (FI_toInt X2.fi (nabs_lt bb (by decide)))
  go_wp2_with fail
  clear hK
  with_reducible refine (mul_any _ _ _ _ A B (1) (0) _ X1.fi X2.fi FI_one FI_zero ba bb (by decide) (by decide)).mono ?_; rintro e1 w2 ⟨p1, p2, rfl, P1, P2, g1⟩; go_wp2_with fail
  with_reducible refine (mul_any _ _ _ _ A B (-1) 0 _ X1.fi X2.fi Fm1 FI_zero ba bb (by decide) (by decide)).mono ?_; rintro e1 w3 ⟨n1, n2, rfl, N1, N2, g2⟩; go_wp2_with fail
  have k1 : A * -1 - B * 0 = -A := by omega
  have k2 : A * 0 + B * -1 = -B := by omega
  rw [k1] at N1
  rw [k2] at N2
  clear k1 k2
  with_reducible refine (add_any _ _ _ _ A B _ _ _ X1.fi X2.fi N1.fi N2.fi (nabs_le ba (by decide)) (nabs_le bb (by decide)) (by rw [Int.natAbs_neg]; exact nabs_le ba (by decide)) (by rw [Int.natAbs_neg]; exact nabs_le bb (by decide)) (by rw [Int.add_right_neg]; decide) (by rw [Int.add_right_neg]; decide)).mono ?_; rintro e1 w4 ⟨z1, z2, rfl, Z1, Z2, g3⟩
  obtain rfl : z1 = 0 := Z1.2 (Int.add_right_neg A)
  obtain rfl : z2 = 0 := Z2.2 (Int.add_right_neg B)
  clear Z1 Z2 N1 N2
  go_wp2_with fail
  with_reducible refine (make_any _ _ _).mono ?_; rintro e1 w5 ⟨rfl, rfl⟩; go_wp2_with fail
  have fA := FI_of_int A (nabs_lt ba (by decide))
  have fB := FI_of_int (-B) (by rw [Int.natAbs_neg]; exact nabs_lt bb (by decide))
  with_reducible refine (mul_any _ _ _ _ A B A (-B) _ X1.fi X2.fi fA fB ba bb ba (by rw [Int.natAbs_neg]; exact bb)).mono ?_; rintro e1 w6 ⟨c1, c2, rfl, C1, C2, g4⟩; go_wp2_with fail
  obtain ⟨M, hM⟩ : ∃ M, M = A * A + B * B := ⟨_, rfl⟩
  have nn := fun w => norm_face _ _ A B w X1.fi X2.fi ba bb
  have bM : M.natAbs ≤ 1125899906842624 := by rw [hM]; exact nabs_add (mul_le ba ba) (mul_le bb bb) (by decide)
  have fM := FI_of_int M (nabs_lt bM (by decide))
  have f0 := FI_of_int 0 (by decide)
  have o1 := is_eq C1.fi fM (by rw [hM, Int.mul_neg]; omega)
  have o2 := is_eq C2.fi f0 (by rw [Int.mul_neg, Int.mul_comm B A]; omega)
  rw [← hM] at nn
  clear hM fM f0 C1 C2 fA fB bM cI1 cI2
  with_reducible refine (nn _).mono ?_; rintro e1 w7 ⟨rfl, g5⟩; go_wp2_with fail
  with_reducible refine (told_any _).mono ?_; rintro e1 w8 ⟨rfl, g6⟩; go_wp2_with fail
  with_reducible refine (turn_any 0 _ _ A B k _ X1.fi X2.fi ba bb HK.out).mono ?_; rintro e1 w9 ⟨t1, t2, rfl, T1, T2, rfl⟩
  have o3 := is_eq P1.fi T1.fi (by simp [tre])
  have o4 := is_eq P2.fi T2.fi (by simp [tim])
  have o5 := is_eq FI_zero FI_zero rfl
  go_wp2_with fail
  with_reducible refine (clean_zero _).mono ?_; rintro e1 w10 ⟨rfl, rfl⟩; go_wp2_with fail
  with_reducible refine (make_any _ _ _).mono ?_; rintro e1 w11 ⟨rfl, rfl⟩
  go_wp2
  go_ret
  exact ⟨rfl, Grown_trans ((Grown.refl _).alloc _ _) (Grown_trans g1 (Grown_trans g2 (Grown_trans g3 (Grown_trans g4 (Grown_trans g5 g6)))))⟩

set_option maxRecDepth 100000 in
set_option maxHeartbeats 4000000 in
theorem units1 (a b k : Int) (w : World) (hk : k % 4 = (1 : Nat)) : Calls Try.prog 6 #[.int .i64 a, .int .i64 b, .int .i64 k] w fun e w' => e = .returned (.bool true) ∧ Grown w w' := by
  have ba := nabs_le (B := 16777216) (sp_le a) (by decide)
  have bb := nabs_le (B := 16777216) (sp_le b) (by decide)
  have HK : Hid (k % 4 = (1 : Nat)) := hk
  have hK : (wrap64 (k.tmod 4 + 4)).tmod 4 = 1 := turn_mod k 1 hk
  clear hk
  go_enter Try.func6, Try.ntmps6
  go_wp2_with fail
  with_reducible refine (small_any _ _ _).mono ?_; rintro e1 w1 ⟨x1, x2, rfl, X1, X2, rfl⟩
  generalize sp a = A at *
  generalize sp b = B at *
  have cI1 := fun w => run_convert_float_int (P := Try.prog) w 38 3 .f64 .i64 x1 _ (by kernel_rfl) (by kernel_rfl) (FI_toInt X1.fi (nabs_lt ba (by decide)))
  have cI2 := fun w => run_convert_float_int (P := Try.prog) w 38 3 .f64 .i64 x2 _ (by kernel_rfl) (by kernel_rfl) (FI_toInt X2.fi (nabs_lt bb (by decide)))
  go_wp2_with fail
  clear hK
  with_reducible refine (mul_any _ _ _ _ A B (0) (1) _ X1.fi X2.fi FI_zero FI_one ba bb (by decide) (by decide)).mono ?_; rintro e1 w2 ⟨p1, p2, rfl, P1, P2, g1⟩; go_wp2_with fail
  with_reducible refine (mul_any _ _ _ _ A B (-1) 0 _ X1.fi X2.fi Fm1 FI_zero ba bb (by decide) (by decide)).mono ?_; rintro e1 w3 ⟨n1, n2, rfl, N1, N2, g2⟩; go_wp2_with fail
  have k1 : A * -1 - B * 0 = -A := by omega
  have k2 : A * 0 + B * -1 = -B := by omega
  rw [k1] at N1
  rw [k2] at N2
  clear k1 k2
  with_reducible refine (add_any _ _ _ _ A B _ _ _ X1.fi X2.fi N1.fi N2.fi (nabs_le ba (by decide)) (nabs_le bb (by decide)) (by rw [Int.natAbs_neg]; exact nabs_le ba (by decide)) (by rw [Int.natAbs_neg]; exact nabs_le bb (by decide)) (by rw [Int.add_right_neg]; decide) (by rw [Int.add_right_neg]; decide)).mono ?_; rintro e1 w4 ⟨z1, z2, rfl, Z1, Z2, g3⟩
  obtain rfl : z1 = 0 := Z1.2 (Int.add_right_neg A)
  obtain rfl : z2 = 0 := Z2.2 (Int.add_right_neg B)
  clear Z1 Z2 N1 N2
  go_wp2_with fail
  with_reducible refine (make_any _ _ _).mono ?_; rintro e1 w5 ⟨rfl, rfl⟩; go_wp2_with fail
  have fA := FI_of_int A (nabs_lt ba (by decide))
  have fB := FI_of_int (-B) (by rw [Int.natAbs_neg]; exact nabs_lt bb (by decide))
  with_reducible refine (mul_any _ _ _ _ A B A (-B) _ X1.fi X2.fi fA fB ba bb ba (by rw [Int.natAbs_neg]; exact bb)).mono ?_; rintro e1 w6 ⟨c1, c2, rfl, C1, C2, g4⟩; go_wp2_with fail
  obtain ⟨M, hM⟩ : ∃ M, M = A * A + B * B := ⟨_, rfl⟩
  have nn := fun w => norm_face _ _ A B w X1.fi X2.fi ba bb
  have bM : M.natAbs ≤ 1125899906842624 := by rw [hM]; exact nabs_add (mul_le ba ba) (mul_le bb bb) (by decide)
  have fM := FI_of_int M (nabs_lt bM (by decide))
  have f0 := FI_of_int 0 (by decide)
  have o1 := is_eq C1.fi fM (by rw [hM, Int.mul_neg]; omega)
  have o2 := is_eq C2.fi f0 (by rw [Int.mul_neg, Int.mul_comm B A]; omega)
  rw [← hM] at nn
  clear hM fM f0 C1 C2 fA fB bM cI1 cI2
  with_reducible refine (nn _).mono ?_; rintro e1 w7 ⟨rfl, g5⟩; go_wp2_with fail
  with_reducible refine (told_any _).mono ?_; rintro e1 w8 ⟨rfl, g6⟩; go_wp2_with fail
  with_reducible refine (turn_any 1 _ _ A B k _ X1.fi X2.fi ba bb HK.out).mono ?_; rintro e1 w9 ⟨t1, t2, rfl, T1, T2, rfl⟩
  have o3 := is_eq P1.fi T1.fi (by simp [tre])
  have o4 := is_eq P2.fi T2.fi (by simp [tim])
  have o5 := is_eq FI_zero FI_zero rfl
  go_wp2_with fail
  with_reducible refine (clean_zero _).mono ?_; rintro e1 w10 ⟨rfl, rfl⟩; go_wp2_with fail
  with_reducible refine (make_any _ _ _).mono ?_; rintro e1 w11 ⟨rfl, rfl⟩
  go_wp2
  go_ret
  exact ⟨rfl, Grown_trans ((Grown.refl _).alloc _ _) (Grown_trans g1 (Grown_trans g2 (Grown_trans g3 (Grown_trans g4 (Grown_trans g5 g6)))))⟩

set_option maxRecDepth 100000 in
set_option maxHeartbeats 4000000 in
theorem units2 (a b k : Int) (w : World) (hk : k % 4 = (2 : Nat)) : Calls Try.prog 6 #[.int .i64 a, .int .i64 b, .int .i64 k] w fun e w' => e = .returned (.bool true) ∧ Grown w w' := by
  have ba := nabs_le (B := 16777216) (sp_le a) (by decide)
  have bb := nabs_le (B := 16777216) (sp_le b) (by decide)
  have HK : Hid (k % 4 = (2 : Nat)) := hk
  have hK : (wrap64 (k.tmod 4 + 4)).tmod 4 = 2 := turn_mod k 2 hk
  clear hk
  go_enter Try.func6, Try.ntmps6
  go_wp2_with fail
  with_reducible refine (small_any _ _ _).mono ?_; rintro e1 w1 ⟨x1, x2, rfl, X1, X2, rfl⟩
  generalize sp a = A at *
  generalize sp b = B at *
  have cI1 := fun w => run_convert_float_int (P := Try.prog) w 38 3 .f64 .i64 x1 _ (by kernel_rfl) (by kernel_rfl) (FI_toInt X1.fi (nabs_lt ba (by decide)))
  have cI2 := fun w => run_convert_float_int (P := Try.prog) w 38 3 .f64 .i64 x2 _ (by kernel_rfl) (by kernel_rfl) (FI_toInt X2.fi (nabs_lt bb (by decide)))
  go_wp2_with fail
  clear hK
  with_reducible refine (mul_any _ _ _ _ A B (-1) (0) _ X1.fi X2.fi Fm1 FI_zero ba bb (by decide) (by decide)).mono ?_; rintro e1 w2 ⟨p1, p2, rfl, P1, P2, g1⟩; go_wp2_with fail
  with_reducible refine (mul_any _ _ _ _ A B (-1) 0 _ X1.fi X2.fi Fm1 FI_zero ba bb (by decide) (by decide)).mono ?_; rintro e1 w3 ⟨n1, n2, rfl, N1, N2, g2⟩; go_wp2_with fail
  have k1 : A * -1 - B * 0 = -A := by omega
  have k2 : A * 0 + B * -1 = -B := by omega
  rw [k1] at N1
  rw [k2] at N2
  clear k1 k2
  with_reducible refine (add_any _ _ _ _ A B _ _ _ X1.fi X2.fi N1.fi N2.fi (nabs_le ba (by decide)) (nabs_le bb (by decide)) (by rw [Int.natAbs_neg]; exact nabs_le ba (by decide)) (by rw [Int.natAbs_neg]; exact nabs_le bb (by decide)) (by rw [Int.add_right_neg]; decide) (by rw [Int.add_right_neg]; decide)).mono ?_; rintro e1 w4 ⟨z1, z2, rfl, Z1, Z2, g3⟩
  obtain rfl : z1 = 0 := Z1.2 (Int.add_right_neg A)
  obtain rfl : z2 = 0 := Z2.2 (Int.add_right_neg B)
  clear Z1 Z2 N1 N2
  go_wp2_with fail
  with_reducible refine (make_any _ _ _).mono ?_; rintro e1 w5 ⟨rfl, rfl⟩; go_wp2_with fail
  have fA := FI_of_int A (nabs_lt ba (by decide))
  have fB := FI_of_int (-B) (by rw [Int.natAbs_neg]; exact nabs_lt bb (by decide))
  with_reducible refine (mul_any _ _ _ _ A B A (-B) _ X1.fi X2.fi fA fB ba bb ba (by rw [Int.natAbs_neg]; exact bb)).mono ?_; rintro e1 w6 ⟨c1, c2, rfl, C1, C2, g4⟩; go_wp2_with fail
  obtain ⟨M, hM⟩ : ∃ M, M = A * A + B * B := ⟨_, rfl⟩
  have nn := fun w => norm_face _ _ A B w X1.fi X2.fi ba bb
  have bM : M.natAbs ≤ 1125899906842624 := by rw [hM]; exact nabs_add (mul_le ba ba) (mul_le bb bb) (by decide)
  have fM := FI_of_int M (nabs_lt bM (by decide))
  have f0 := FI_of_int 0 (by decide)
  have o1 := is_eq C1.fi fM (by rw [hM, Int.mul_neg]; omega)
  have o2 := is_eq C2.fi f0 (by rw [Int.mul_neg, Int.mul_comm B A]; omega)
  rw [← hM] at nn
  clear hM fM f0 C1 C2 fA fB bM cI1 cI2
  with_reducible refine (nn _).mono ?_; rintro e1 w7 ⟨rfl, g5⟩; go_wp2_with fail
  with_reducible refine (told_any _).mono ?_; rintro e1 w8 ⟨rfl, g6⟩; go_wp2_with fail
  with_reducible refine (turn_any 2 _ _ A B k _ X1.fi X2.fi ba bb HK.out).mono ?_; rintro e1 w9 ⟨t1, t2, rfl, T1, T2, rfl⟩
  have o3 := is_eq P1.fi T1.fi (by simp [tre])
  have o4 := is_eq P2.fi T2.fi (by simp [tim])
  have o5 := is_eq FI_zero FI_zero rfl
  go_wp2_with fail
  with_reducible refine (clean_zero _).mono ?_; rintro e1 w10 ⟨rfl, rfl⟩; go_wp2_with fail
  with_reducible refine (make_any _ _ _).mono ?_; rintro e1 w11 ⟨rfl, rfl⟩
  go_wp2
  go_ret
  exact ⟨rfl, Grown_trans ((Grown.refl _).alloc _ _) (Grown_trans g1 (Grown_trans g2 (Grown_trans g3 (Grown_trans g4 (Grown_trans g5 g6)))))⟩

set_option maxRecDepth 100000 in
set_option maxHeartbeats 4000000 in
theorem units3 (a b k : Int) (w : World) (hk : k % 4 = (3 : Nat)) : Calls Try.prog 6 #[.int .i64 a, .int .i64 b, .int .i64 k] w fun e w' => e = .returned (.bool true) ∧ Grown w w' := by
  have ba := nabs_le (B := 16777216) (sp_le a) (by decide)
  have bb := nabs_le (B := 16777216) (sp_le b) (by decide)
  have HK : Hid (k % 4 = (3 : Nat)) := hk
  have hK : (wrap64 (k.tmod 4 + 4)).tmod 4 = 3 := turn_mod k 3 hk
  clear hk
  go_enter Try.func6, Try.ntmps6
  go_wp2_with fail
  with_reducible refine (small_any _ _ _).mono ?_; rintro e1 w1 ⟨x1, x2, rfl, X1, X2, rfl⟩
  generalize sp a = A at *
  generalize sp b = B at *
  have cI1 := fun w => run_convert_float_int (P := Try.prog) w 38 3 .f64 .i64 x1 _ (by kernel_rfl) (by kernel_rfl) (FI_toInt X1.fi (nabs_lt ba (by decide)))
  have cI2 := fun w => run_convert_float_int (P := Try.prog) w 38 3 .f64 .i64 x2 _ (by kernel_rfl) (by kernel_rfl) (FI_toInt X2.fi (nabs_lt bb (by decide)))
  go_wp2_with fail
  clear hK
  with_reducible refine (mul_any _ _ _ _ A B (0) (-1) _ X1.fi X2.fi FI_zero Fm1 ba bb (by decide) (by decide)).mono ?_; rintro e1 w2 ⟨p1, p2, rfl, P1, P2, g1⟩; go_wp2_with fail
  with_reducible refine (mul_any _ _ _ _ A B (-1) 0 _ X1.fi X2.fi Fm1 FI_zero ba bb (by decide) (by decide)).mono ?_; rintro e1 w3 ⟨n1, n2, rfl, N1, N2, g2⟩; go_wp2_with fail
  have k1 : A * -1 - B * 0 = -A := by omega
  have k2 : A * 0 + B * -1 = -B := by omega
  rw [k1] at N1
  rw [k2] at N2
  clear k1 k2
  with_reducible refine (add_any _ _ _ _ A B _ _ _ X1.fi X2.fi N1.fi N2.fi (nabs_le ba (by decide)) (nabs_le bb (by decide)) (by rw [Int.natAbs_neg]; exact nabs_le ba (by decide)) (by rw [Int.natAbs_neg]; exact nabs_le bb (by decide)) (by rw [Int.add_right_neg]; decide) (by rw [Int.add_right_neg]; decide)).mono ?_; rintro e1 w4 ⟨z1, z2, rfl, Z1, Z2, g3⟩
  obtain rfl : z1 = 0 := Z1.2 (Int.add_right_neg A)
  obtain rfl : z2 = 0 := Z2.2 (Int.add_right_neg B)
  clear Z1 Z2 N1 N2
  go_wp2_with fail
  with_reducible refine (make_any _ _ _).mono ?_; rintro e1 w5 ⟨rfl, rfl⟩; go_wp2_with fail
  have fA := FI_of_int A (nabs_lt ba (by decide))
  have fB := FI_of_int (-B) (by rw [Int.natAbs_neg]; exact nabs_lt bb (by decide))
  with_reducible refine (mul_any _ _ _ _ A B A (-B) _ X1.fi X2.fi fA fB ba bb ba (by rw [Int.natAbs_neg]; exact bb)).mono ?_; rintro e1 w6 ⟨c1, c2, rfl, C1, C2, g4⟩; go_wp2_with fail
  obtain ⟨M, hM⟩ : ∃ M, M = A * A + B * B := ⟨_, rfl⟩
  have nn := fun w => norm_face _ _ A B w X1.fi X2.fi ba bb
  have bM : M.natAbs ≤ 1125899906842624 := by rw [hM]; exact nabs_add (mul_le ba ba) (mul_le bb bb) (by decide)
  have fM := FI_of_int M (nabs_lt bM (by decide))
  have f0 := FI_of_int 0 (by decide)
  have o1 := is_eq C1.fi fM (by rw [hM, Int.mul_neg]; omega)
  have o2 := is_eq C2.fi f0 (by rw [Int.mul_neg, Int.mul_comm B A]; omega)
  rw [← hM] at nn
  clear hM fM f0 C1 C2 fA fB bM cI1 cI2
  with_reducible refine (nn _).mono ?_; rintro e1 w7 ⟨rfl, g5⟩; go_wp2_with fail
  with_reducible refine (told_any _).mono ?_; rintro e1 w8 ⟨rfl, g6⟩; go_wp2_with fail
  with_reducible refine (turn_any 3 _ _ A B k _ X1.fi X2.fi ba bb HK.out).mono ?_; rintro e1 w9 ⟨t1, t2, rfl, T1, T2, rfl⟩
  have o3 := is_eq P1.fi T1.fi (by simp [tre])
  have o4 := is_eq P2.fi T2.fi (by simp [tim])
  have o5 := is_eq FI_zero FI_zero rfl
  go_wp2_with fail
  with_reducible refine (clean_zero _).mono ?_; rintro e1 w10 ⟨rfl, rfl⟩; go_wp2_with fail
  with_reducible refine (make_any _ _ _).mono ?_; rintro e1 w11 ⟨rfl, rfl⟩
  go_wp2
  go_ret
  exact ⟨rfl, Grown_trans ((Grown.refl _).alloc _ _) (Grown_trans g1 (Grown_trans g2 (Grown_trans g3 (Grown_trans g4 (Grown_trans g5 g6)))))⟩

theorem units_any (a b k : Int) (w : World) : Calls Try.prog 6 #[.int .i64 a, .int .i64 b, .int .i64 k] w fun e w' => e = .returned (.bool true) ∧ Grown w w' := by
  have : k % 4 = (0 : Nat) ∨ k % 4 = (1 : Nat) ∨ k % 4 = (2 : Nat) ∨ k % 4 = (3 : Nat) := by omega
  rcases this with h | h | h | h
  · exact units0 a b k w h
  · exact units1 a b k w h
  · exact units2 a b k w h
  · exact units3 a b k w h

end Go.Proofs.Ytobmgeklccagfab
