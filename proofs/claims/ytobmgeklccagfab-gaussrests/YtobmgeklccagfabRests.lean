/- The walk of GaussRests: a number is its quotient's product and its rest together, and the rest's Norm is at most half the divisor's. -/
import Derived.Test.YtobmgeklccagfabNums
namespace Go.Proofs.Ytobmgeklccagfab
open Go.RowKit

theorem round_le_at {P n : Int} {A : Nat} (hn : 0 < n) (h : (P.natAbs : Int) ≤ A * n) : ((2 * P + n) / (2 * n)).natAbs ≤ A + 1 := by
  have e1 : ((A : Int) + 1) * (2 * n) = 2 * (A * n) + 2 * n := by grind
  have e2 : (-((A : Int) + 1)) * (2 * n) = -(2 * (A * n) + 2 * n) := by grind
  have e3 : ((A : Int) + 2) * (2 * n) = 2 * (A * n) + 4 * n := by grind
  have h1 : -((A : Int) + 1) ≤ (2 * P + n) / (2 * n) := (Int.le_ediv_iff_mul_le (by omega)).2 (by omega)
  have h2 : (2 * P + n) / (2 * n) < (A : Int) + 2 := (Int.ediv_lt_iff_lt_mul (by omega)).2 (by omega)
  omega

theorem qre_at {x y u v : Int} {A : Nat} (h : ¬ (u = 0 ∧ v = 0)) (hx : x.natAbs ≤ A) (hy : y.natAbs ≤ A) : (qre x y u v).natAbs ≤ A + 1 :=
  round_le_at (sq_pos h) (dot_le hx hy)
theorem qim_at {x y u v : Int} {A : Nat} (h : ¬ (u = 0 ∧ v = 0)) (hx : x.natAbs ≤ A) (hy : y.natAbs ≤ A) : (qim x y u v).natAbs ≤ A + 1 := by
  refine round_le_at (sq_pos h) ?_
  have := dot_le (x := y) (y := -x) (u := u) (v := v) (A := A) hy (by omega)
  rw [Int.neg_mul, ← Int.sub_eq_add_neg] at this
  exact this

/-- Rounding: what is left over is at most half. -/
theorem round_rest (P n : Int) (hn : 0 < n) : -n ≤ 2 * (P - (2 * P + n) / (2 * n) * n) ∧ 2 * (P - (2 * P + n) / (2 * n) * n) ≤ n := by
  have e := Int.mul_ediv_add_emod (2 * P + n) (2 * n)
  have l1 := Int.emod_nonneg (2 * P + n) (b := 2 * n) (by omega)
  have l2 := Int.emod_lt_of_pos (2 * P + n) (b := 2 * n) (by omega)
  generalize (2 * P + n) / (2 * n) = q at *
  generalize (2 * P + n) % (2 * n) = s at *
  have e' : 2 * (q * n) = 2 * n * q := by grind
  omega

theorem sq_le_sq {e n : Int} (h1 : -n ≤ e) (h2 : e ≤ n) : e * e ≤ n * n := by
  have h3 : 0 ≤ (n - e) * (n + e) := Int.mul_nonneg (by omega) (by omega)
  have h4 : (n - e) * (n + e) = n * n - e * e := by grind
  omega

theorem rest_norm (x y u v : Int) (h : ¬ (u = 0 ∧ v = 0)) :
    2 * (rre x y u v * rre x y u v + rim x y u v * rim x y u v) ≤ u * u + v * v := by
  have hn := sq_pos h
  have a1 := round_rest (x * u + y * v) (u * u + v * v) hn
  have a2 := round_rest (y * u - x * v) (u * u + v * v) hn
  have b1 := sq_le_sq a1.1 a1.2
  have b2 := sq_le_sq a2.1 a2.2
  unfold rre rim
  change 2 * (x * u + y * v - qre x y u v * (u * u + v * v)) * (2 * (x * u + y * v - qre x y u v * (u * u + v * v))) ≤ _ at b1
  change 2 * (y * u - x * v - qim x y u v * (u * u + v * v)) * (2 * (y * u - x * v - qim x y u v * (u * u + v * v))) ≤ _ at b2
  generalize qre x y u v = p at *
  generalize qim x y u v = q at *
  clear a1 a2
  have key : 4 * (((x - (p * u - q * v)) * (x - (p * u - q * v)) + (y - (p * v + q * u)) * (y - (p * v + q * u))) * (u * u + v * v))
      = 2 * (x * u + y * v - p * (u * u + v * v)) * (2 * (x * u + y * v - p * (u * u + v * v))) + 2 * (y * u - x * v - q * (u * u + v * v)) * (2 * (y * u - x * v - q * (u * u + v * v))) := by grind
  generalize (x - (p * u - q * v)) * (x - (p * u - q * v)) + (y - (p * v + q * u)) * (y - (p * v + q * u)) = R at *
  generalize u * u + v * v = n at *
  have h5 : 2 * R * n ≤ n * n := by
    have : 2 * R * n = 2 * (R * n) := by grind
    omega
  exact Int.le_of_mul_le_mul_right h5 hn

theorem sq_small {r R : Int} (h : r * r ≤ R) : (r.natAbs : Int) ≤ R := Int.le_trans (sq_ge r) h

set_option maxRecDepth 100000 in
set_option maxHeartbeats 4000000 in
theorem rests_zero (a b c d : Int) (w : World) (h0 : tp c = 0 ∧ tp d = 0) : Calls Try.prog 3 #[.int .i64 a, .int .i64 b, .int .i64 c, .int .i64 d] w fun e w' => e = .returned (.bool true) ∧ Grown w w' := by
  have ba := nabs_le (B := 16777216) (sp_le a) (by decide)
  have bb := nabs_le (B := 16777216) (sp_le b) (by decide)
  have z0 := is_eq FI_zero FI_zero rfl
  go_enter Try.func3, Try.ntmps3
  go_wp2_with fail
  with_reducible refine (small_any _ _ _).mono ?_; rintro e1 w1 ⟨x1, x2, rfl, X1, X2, rfl⟩; go_wp2_with fail
  with_reducible refine (tiny_any _ _ _).mono ?_; rintro e1 w1 ⟨y1, y2, rfl, Y1, Y2, rfl⟩; go_wp2_with fail
  rw [h0.1] at Y1
  rw [h0.2] at Y2
  clear h0
  have o1 := is_eq Y1.fi FI_zero rfl
  have o2 := is_eq Y2.fi FI_zero rfl
  with_reducible refine (div_zero _ _ _ _ _ _ _ X1.fi X2.fi Y1.fi Y2.fi ba bb).mono ?_; rintro e1 w2 ⟨rfl, g1⟩; go_wp2_with fail
  with_reducible refine (told_any _).mono ?_; rintro e1 w3 ⟨rfl, g2⟩
  go_wp2
  go_ret
  exact ⟨rfl, Grown_trans g1 g2⟩

set_option maxRecDepth 100000 in
set_option maxHeartbeats 4000000 in
theorem rests_other (a b c d : Int) (w : World) (h0 : ¬ (tp c = 0 ∧ tp d = 0)) : Calls Try.prog 3 #[.int .i64 a, .int .i64 b, .int .i64 c, .int .i64 d] w fun e w' => e = .returned (.bool true) ∧ Grown w w' := by
  have ba := sp_le a
  have bb := sp_le b
  have bc := tp_le c
  have bd := tp_le d
  go_enter Try.func3, Try.ntmps3
  go_wp2_with fail
  with_reducible refine (small_any _ _ _).mono ?_; rintro e1 w1 ⟨x1, x2, rfl, X1, X2, rfl⟩; go_wp2_with fail
  with_reducible refine (tiny_any _ _ _).mono ?_; rintro e1 w1 ⟨y1, y2, rfl, Y1, Y2, rfl⟩; go_wp2_with fail
  generalize sp a = A at *
  generalize sp b = B at *
  generalize tp c = C at *
  generalize tp d = D at *
  have sa := nabs_le (B := 16777216) ba (by decide)
  have sb := nabs_le (B := 16777216) bb (by decide)
  have sc := nabs_le (B := 16777216) bc (by decide)
  have sd := nabs_le (B := 16777216) bd (by decide)
  have sq1 := nabs_le (B := 16777216) (qre_at h0 ba bb) (by decide)
  have sq2 := nabs_le (B := 16777216) (qim_at h0 ba bb) (by decide)
  have hR := rest_norm A B C D h0
  have sN : (C * C + D * D).natAbs ≤ 8388608 := nabs_add (mul_le bc bc) (mul_le bd bd) (by decide)
  obtain ⟨R, hRR⟩ : ∃ R, R = rre A B C D * rre A B C D + rim A B C D * rim A B C D := ⟨_, rfl⟩
  obtain ⟨N, hNN⟩ : ∃ N, N = C * C + D * D := ⟨_, rfl⟩
  have s1 := sq_ge (rre A B C D)
  have s2 := sq_ge (rim A B C D)
  rw [← hRR, ← hNN] at hR
  rw [← hNN] at sN
  have br1 : (rre A B C D).natAbs ≤ 8388608 := by omega
  have br2 : (rim A B C D).natAbs ≤ 8388608 := by omega
  have hR0 : 0 ≤ R := by omega
  have hN8 : N ≤ 8388608 := by omega
  clear s1 s2 sN
  have sr1 := nabs_le (B := 16777216) br1 (by decide)
  have sr2 := nabs_le (B := 16777216) br2 (by decide)
  have o0 : ((FloatKind.f64.format.order y1 0 == some .eq) && (FloatKind.f64.format.order y2 0 == some .eq)) = false := by
    rw [ord_eq Y1.fi FI_zero, ord_eq Y2.fi FI_zero]
    by_cases e : C = 0
    · simp [e]; intro e'; exact h0 ⟨e, e'⟩
    · simp [e]
  have dv := fun w => div_any _ _ _ _ A B C D w X1.fi X2.fi Y1.fi Y2.fi sa sb sc sd h0
  have q1F := FI_of_int (qre A B C D) (nabs_lt sq1 (by decide))
  have q2F := FI_of_int (qim A B C D) (nabs_lt sq2 (by decide))
  have m1 : (qre A B C D * C - qim A B C D * D).natAbs ≤ 4503599627370496 := nabs_sub (mul_le sq1 sc) (mul_le sq2 sd) (by decide)
  have m2 : (qre A B C D * D + qim A B C D * C).natAbs ≤ 4503599627370496 := nabs_add (mul_le sq1 sd) (mul_le sq2 sc) (by decide)
  have k1 : qre A B C D * C - qim A B C D * D + rre A B C D = A := by unfold rre; omega
  have k2 : qre A B C D * D + qim A B C D * C + rim A B C D = B := by unfold rim; omega
  have ml := fun w => mul_any _ _ _ _ _ _ C D w q1F q2F Y1.fi Y2.fi sq1 sq2 sc sd
  have ad := fun (p1 p2 r1 r2 : Nat) w (P1 : FC p1 _) (P2 : FC p2 _) (R1 : FC r1 _) (R2 : FC r2 _) => add_any p1 p2 r1 r2 _ _ _ _ w P1.fi P2.fi R1.fi R2.fi m1 m2 (nabs_le sr1 (by decide)) (nabs_le sr2 (by decide)) (by rw [k1]; exact nabs_le sa (by decide)) (by rw [k2]; exact nabs_le sb (by decide))
  rw [k1, k2] at ad
  have n1 := fun (r1 r2 : Nat) w (R1 : FC r1 _) (R2 : FC r2 _) => norm_face r1 r2 _ _ w R1.fi R2.fi sr1 sr2
  have n2 := fun w => norm_face _ _ C D w Y1.fi Y2.fi sc sd
  rw [← hRR] at n1
  rw [← hNN] at n2
  clear hRR hNN k1 k2 m1 m2 q1F q2F sq1 sq2 sr1 sr2 br1 br2 sa sb sc sd ba bb bc bd h0
  generalize qre A B C D = q1 at *
  generalize qim A B C D = q2 at *
  generalize rre A B C D = r1 at *
  generalize rim A B C D = r2 at *
  with_reducible refine (dv _).mono ?_; rintro e1 w2 ⟨t1, t2, rfl, T1, T2, g1⟩; go_wp2_with fail
  with_reducible refine (ml _).mono ?_; rintro e1 w3 ⟨p1, p2, rfl, P1, P2, g2⟩; go_wp2_with fail
  with_reducible refine (ad _ _ _ _ _ P1 P2 T1 T2).mono ?_; rintro e1 w4 ⟨s1, s2, rfl, S1, S2, g3⟩; go_wp2_with fail
  with_reducible refine (n1 _ _ _ T1 T2).mono ?_; rintro e1 w5 ⟨rfl, g4⟩; go_wp2_with fail
  with_reducible refine (n2 _).mono ?_; rintro e1 w6 ⟨rfl, g5⟩; go_wp2_with fail
  with_reducible refine (dv _).mono ?_; rintro e1 w7 ⟨t3, t4, rfl, T3, T4, g6⟩; go_wp2_with fail
  have o1 := is_eq S1.fi X1.fi rfl
  have o2 := is_eq S2.fi X2.fi rfl
  with_reducible refine (told_any _).mono ?_; rintro e1 w8 ⟨rfl, g7⟩
  go_wp2
  go_ret
  exact ⟨rfl, Grown_trans g1 (Grown_trans g2 (Grown_trans g3 (Grown_trans g4 (Grown_trans g5 (Grown_trans g6 g7)))))⟩

theorem rests_any (a b c d : Int) (w : World) : Calls Try.prog 3 #[.int .i64 a, .int .i64 b, .int .i64 c, .int .i64 d] w fun e w' => e = .returned (.bool true) ∧ Grown w w' := by
  by_cases h : tp c = 0 ∧ tp d = 0
  · exact rests_zero a b c d w h
  · exact rests_other a b c d w h

end Go.Proofs.Ytobmgeklccagfab
