/- The walk of GaussLaws: sums and products of numbers whose parts are below 2^11. -/
import Derived.Test.YtobmgeklccagfaaW4
namespace Go.Proofs.Ytobmgeklccagfaa
open Go.RowKit

set_option maxHeartbeats 400000 in
theorem make_any (x y : Int) (w : World) : Calls Try.prog 14 #[.int .i64 x, .int .i64 y] w fun e w' => e = .returned (.complex .f64 (floatOfInt .f64 x) (floatOfInt .f64 y)) ∧ w' = w := by
  go_enter Try.func14, Try.ntmps14
  go_wp2
  go_ret
  exact ⟨rfl, rfl⟩

theorem and4095 (n : Int) : bits .and .i64 n 4095 = n % 4096 := by
  have hm : (BitVec.ofInt 64 4095).toNat = 2 ^ 12 - 1 := by decide
  have key : (BitVec.ofInt 64 n &&& BitVec.ofInt 64 4095).toNat = (n % ((2 ^ 64 : Nat) : Int)).toNat % 2 ^ 12 := by
    rw [BitVec.toNat_and, BitVec.toNat_ofInt, hm, Nat.and_two_pow_sub_one_eq_mod]
  show IntKind.i64.wrap ((BitVec.ofInt 64 n &&& BitVec.ofInt 64 4095).toNat : Nat) = n % 4096
  rw [key, IntKind.wrap_i64]
  omega

/-- A part below 2^11 out of any number. -/
def tp (n : Int) : Int := n % 4096 - 2048
theorem tp_le (n : Int) : (tp n).natAbs ≤ 2048 := by unfold tp; omega
theorem tp_eq (n : Int) : wrap64 (bits .and .i64 n 4095 - 2048) = tp n := by
  rw [and4095]; unfold tp; exact wrap64_id (by omega) (by omega)

set_option maxHeartbeats 400000 in
theorem tiny_any (x y : Int) (w : World) : Calls Try.prog 6 #[.int .i64 x, .int .i64 y] w fun e w' => ∃ p q, e = .returned (.complex .f64 p q) ∧ FC p (tp x) ∧ FC q (tp y) ∧ w' = w := by
  have e1 := tp_eq x
  have e2 := tp_eq y
  have f1 := FC_of_int (tp x) (nabs_lt (tp_le x) (by decide))
  have f2 := FC_of_int (tp y) (nabs_lt (tp_le y) (by decide))
  go_enter Try.func6, Try.ntmps6
  go_wp2_with (go_at_call 14; with_reducible refine (make_any _ _ _).mono ?_; rintro e w1 ⟨rfl, rfl⟩)
  go_ret
  exact ⟨_, _, rfl, f1, f2, rfl⟩

theorem norm_prod {M N O : Int} {a b c d : Int} (hM : M = a * a + b * b) (hN : N = c * c + d * d) (hO : O = (a * c - b * d) * (a * c - b * d) + (a * d + b * c) * (a * d + b * c))
    (ha : a.natAbs ≤ 2048) (hb : b.natAbs ≤ 2048) (hc : c.natAbs ≤ 2048) (hd : d.natAbs ≤ 2048) : (O == wrap64 (M * N)) = true := by
  have hMN : O = M * N := by subst hM hN hO; grind
  have l1 : M.natAbs ≤ 8388608 := by subst hM; exact nabs_add (mul_le ha ha) (mul_le hb hb) (by decide)
  have l2 : N.natAbs ≤ 8388608 := by subst hN; exact nabs_add (mul_le hc hc) (mul_le hd hd) (by decide)
  have l3 := mul_le l1 l2
  rw [wrap64_id (by omega) (by omega), hMN]
  simp

set_option maxRecDepth 100000 in
set_option maxHeartbeats 4000000 in
theorem laws_any (a b c d e f : Int) (w : World) : Calls Try.prog 4 #[.int .i64 a, .int .i64 b, .int .i64 c, .int .i64 d, .int .i64 e, .int .i64 f] w fun e w' => e = .returned (.bool true) ∧ Grown w w' := by
  have ba := tp_le a
  have bb := tp_le b
  have bc := tp_le c
  have bd := tp_le d
  have be := tp_le e
  have bf := tp_le f
  go_enter Try.func4, Try.ntmps4
  go_wp2_with fail
  with_reducible refine (tiny_any _ _ _).mono ?_; rintro e1 w1 ⟨x1, x2, rfl, X1, X2, rfl⟩; go_wp2_with fail
  with_reducible refine (tiny_any _ _ _).mono ?_; rintro e1 w1 ⟨y1, y2, rfl, Y1, Y2, rfl⟩; go_wp2_with fail
  with_reducible refine (tiny_any _ _ _).mono ?_; rintro e1 w1 ⟨z1, z2, rfl, Z1, Z2, rfl⟩; go_wp2_with fail
  generalize tp a = A at *
  generalize tp b = B at *
  generalize tp c = C at *
  generalize tp d = D at *
  generalize tp e = E at *
  generalize tp f = F at *
  have sa := nabs_le (B := 16777216) ba (by decide)
  have sb := nabs_le (B := 16777216) bb (by decide)
  have sc := nabs_le (B := 16777216) bc (by decide)
  have sd := nabs_le (B := 16777216) bd (by decide)
  have se := nabs_le (B := 16777216) be (by decide)
  have sf := nabs_le (B := 16777216) bf (by decide)
  have sp1 : (A * C - B * D).natAbs ≤ 16777216 := nabs_sub (mul_le ba bc) (mul_le bb bd) (by decide)
  have sp2 : (A * D + B * C).natAbs ≤ 16777216 := nabs_add (mul_le ba bd) (mul_le bb bc) (by decide)
  have ss1 : (A + C).natAbs ≤ 16777216 := nabs_add ba bc (by decide)
  have ss2 : (B + D).natAbs ≤ 16777216 := nabs_add bb bd (by decide)
  have st1 : (C + A).natAbs ≤ 16777216 := nabs_add bc ba (by decide)
  have st2 : (D + B).natAbs ≤ 16777216 := nabs_add bd bb (by decide)
  have su1 : (A * E - B * F).natAbs ≤ 16777216 := nabs_sub (mul_le ba be) (mul_le bb bf) (by decide)
  have su2 : (A * F + B * E).natAbs ≤ 16777216 := nabs_add (mul_le ba bf) (mul_le bb be) (by decide)
  have sv1 : (C * E - D * F).natAbs ≤ 16777216 := nabs_sub (mul_le bc be) (mul_le bd bf) (by decide)
  have sv2 : (C * F + D * E).natAbs ≤ 16777216 := nabs_add (mul_le bc bf) (mul_le bd be) (by decide)
  with_reducible refine (mul_any _ _ _ _ A B C D _ X1.fi X2.fi Y1.fi Y2.fi sa sb sc sd).mono ?_; rintro e1 w2 ⟨p1, p2, rfl, P1, P2, g1⟩; go_wp2_with fail
  with_reducible refine (mul_any _ _ _ _ C D A B _ Y1.fi Y2.fi X1.fi X2.fi sc sd sa sb).mono ?_; rintro e1 w3 ⟨q1, q2, rfl, Q1, Q2, g2⟩; go_wp2_with fail
  with_reducible refine (add_any _ _ _ _ A B C D _ X1.fi X2.fi Y1.fi Y2.fi (nabs_le sa (by decide)) (nabs_le sb (by decide)) (nabs_le sc (by decide)) (nabs_le sd (by decide)) (nabs_le ss1 (by decide)) (nabs_le ss2 (by decide))).mono ?_; rintro e1 w4 ⟨s1, s2, rfl, S1, S2, g3⟩; go_wp2_with fail
  with_reducible refine (add_any _ _ _ _ C D A B _ Y1.fi Y2.fi X1.fi X2.fi (nabs_le sc (by decide)) (nabs_le sd (by decide)) (nabs_le sa (by decide)) (nabs_le sb (by decide)) (nabs_le st1 (by decide)) (nabs_le st2 (by decide))).mono ?_; rintro e1 w5 ⟨t1, t2, rfl, T1, T2, g4⟩
  have o1 := is_eq P1.fi Q1.fi (by grind)
  have o2 := is_eq P2.fi Q2.fi (by grind)
  have o3 := is_eq S1.fi T1.fi (by grind)
  have o4 := is_eq S2.fi T2.fi (by grind)
  go_wp2_with fail
  clear o1 o2 o3 o4 Q1 Q2 T1 T2
  with_reducible refine (mul_any _ _ _ _ _ _ E F _ S1.fi S2.fi Z1.fi Z2.fi ss1 ss2 se sf).mono ?_; rintro e1 w6 ⟨q3, q4, rfl, Q3, Q4, g5⟩; go_wp2_with fail
  with_reducible refine (mul_any _ _ _ _ A B E F _ X1.fi X2.fi Z1.fi Z2.fi sa sb se sf).mono ?_; rintro e1 w7 ⟨u1, u2, rfl, U1, U2, g6⟩; go_wp2_with fail
  with_reducible refine (mul_any _ _ _ _ C D E F _ Y1.fi Y2.fi Z1.fi Z2.fi sc sd se sf).mono ?_; rintro e1 w8 ⟨v1, v2, rfl, V1, V2, g7⟩; go_wp2_with fail
  with_reducible refine (add_any _ _ _ _ _ _ _ _ _ U1.fi U2.fi V1.fi V2.fi (nabs_le su1 (by decide)) (nabs_le su2 (by decide)) (nabs_le sv1 (by decide)) (nabs_le sv2 (by decide)) (nabs_add su1 sv1 (by decide)) (nabs_add su2 sv2 (by decide))).mono ?_; rintro e1 w9 ⟨t3, t4, rfl, T3, T4, g8⟩; go_wp2_with fail
  with_reducible refine (mul_any _ _ _ _ _ _ E F _ P1.fi P2.fi Z1.fi Z2.fi sp1 sp2 se sf).mono ?_; rintro e1 w10 ⟨r1, r2, rfl, R1, R2, g9⟩; go_wp2_with fail
  with_reducible refine (mul_any _ _ _ _ A B _ _ _ X1.fi X2.fi V1.fi V2.fi sa sb sv1 sv2).mono ?_; rintro e1 w11 ⟨r3, r4, rfl, R3, R4, g10⟩
  have o1 := is_eq Q3.fi T3.fi (by grind)
  have o2 := is_eq Q4.fi T4.fi (by grind)
  have o3 := is_eq R1.fi R3.fi (by grind)
  have o4 := is_eq R2.fi R4.fi (by grind)
  go_wp2_with fail
  clear o1 o2 o3 o4 Q3 Q4 T3 T4 R1 R2 R3 R4 U1 U2 V1 V2 S1 S2
  obtain ⟨M, hM⟩ : ∃ M, M = A * A + B * B := ⟨_, rfl⟩
  obtain ⟨N, hN⟩ : ∃ N, N = C * C + D * D := ⟨_, rfl⟩
  obtain ⟨O, hO⟩ : ∃ O, O = (A * C - B * D) * (A * C - B * D) + (A * D + B * C) * (A * D + B * C) := ⟨_, rfl⟩
  have n1 := fun w => norm_face _ _ A B w X1.fi X2.fi sa sb
  have n2 := fun w => norm_face _ _ C D w Y1.fi Y2.fi sc sd
  have n3 := fun w => norm_face _ _ _ _ w P1.fi P2.fi sp1 sp2
  have o5 := norm_prod hM hN hO ba bb bc bd
  rw [← hM] at n1
  rw [← hN] at n2
  rw [← hO] at n3
  clear hM hN hO X1 X2 Y1 Y2 Z1 Z2 P1 P2 sa sb sc sd se sf sp1 sp2 ss1 ss2 st1 st2 su1 su2 sv1 sv2 ba bb bc bd be bf
  with_reducible refine (n1 _).mono ?_; rintro e1 w12 ⟨rfl, g11⟩; go_wp2_with fail
  with_reducible refine (n2 _).mono ?_; rintro e1 w13 ⟨rfl, g12⟩; go_wp2_with fail
  with_reducible refine (n3 _).mono ?_; rintro e1 w14 ⟨rfl, g13⟩; go_wp2_with fail
  with_reducible refine (told_any _).mono ?_; rintro e1 w15 ⟨rfl, g14⟩
  go_wp2
  go_ret
  exact ⟨rfl, Grown_trans g1 (Grown_trans g2 (Grown_trans g3 (Grown_trans g4 (Grown_trans g5 (Grown_trans g6 (Grown_trans g7 (Grown_trans g8 (Grown_trans g9 (Grown_trans g10 (Grown_trans g11 (Grown_trans g12 (Grown_trans g13 g14))))))))))))⟩

end Go.Proofs.Ytobmgeklccagfaa
