/- The walk of GaussTurns: four turns are none, one is i times, a turn keeps the Norm. -/
import Derived.Test.YtobmgeklccagfabNums
namespace Go.Proofs.Ytobmgeklccagfab
open Go.RowKit

theorem tre_le (K : Nat) {x y : Int} {A : Nat} (hx : x.natAbs ≤ A) (hy : y.natAbs ≤ A) : (tre K x y).natAbs ≤ A := by
  unfold tre; split <;> omega
theorem tim_le (K : Nat) {x y : Int} {A : Nat} (hx : x.natAbs ≤ A) (hy : y.natAbs ≤ A) : (tim K x y).natAbs ≤ A := by
  unfold tim; split <;> omega
theorem turn_norm (K : Nat) (x y : Int) : tre K x y * tre K x y + tim K x y * tim K x y = x * x + y * y := by
  unfold tre tim; split <;> grind
theorem turn_back (K L : Nat) (x y : Int) (h : (K + L) % 4 = 0) (hK : K < 4) (hL : L < 4) : tre L (tre K x y) (tim K x y) = x ∧ tim L (tre K x y) (tim K x y) = y := by
  have : (K = 0 ∧ L = 0) ∨ (K = 1 ∧ L = 3) ∨ (K = 2 ∧ L = 2) ∨ (K = 3 ∧ L = 1) := by omega
  rcases this with ⟨rfl, rfl⟩ | ⟨rfl, rfl⟩ | ⟨rfl, rfl⟩ | ⟨rfl, rfl⟩ <;> simp [tre, tim]

theorem neg_mod (k : Int) : ∃ L : Nat, wrap64 (-k.tmod 4) % 4 = L ∧ ((k % 4).toNat + L) % 4 = 0 ∧ L < 4 := by
  have l1 := Int.lt_tmod_of_pos k (b := 4) (by omega)
  have l2 := Int.tmod_lt_of_pos k (b := 4) (by omega)
  have e2 := Int.tmod_eq_emod (a := k) (b := 4)
  rw [wrap64_id (by omega) (by omega)]
  refine ⟨((-k.tmod 4) % 4).toNat, by omega, ?_, by omega⟩
  split at e2 <;> simp at e2 <;> omega

set_option maxRecDepth 100000 in
set_option maxHeartbeats 4000000 in
theorem turns_any (a b k : Int) (w : World) : Calls Try.prog 5 #[.int .i64 a, .int .i64 b, .int .i64 k] w fun e w' => e = .returned (.bool true) ∧ Grown w w' := by
  have ba := nabs_le (B := 16777216) (sp_le a) (by decide)
  have bb := nabs_le (B := 16777216) (sp_le b) (by decide)
  obtain ⟨L, hL, hKL, hL4⟩ := neg_mod k
  have hK : k % 4 = ((k % 4).toNat : Nat) := by omega
  have hK4 : (k % 4).toNat < 4 := by omega
  generalize (k % 4).toNat = K at hKL hK hK4
  have hback := fun x y => turn_back K L x y hKL hK4 hL4
  have tl1 := tre_le K ba bb
  have tl2 := tim_le K ba bb
  have HK : Hid (k % 4 = (K : Int)) := hK
  have HL : Hid (wrap64 (-k.tmod 4) % 4 = (L : Int)) := hL
  have HB : Hid (∀ x y, tre L (tre K x y) (tim K x y) = x ∧ tim L (tre K x y) (tim K x y) = y) := hback
  clear hK hL hKL hK4 hL4 hback
  go_enter Try.func5, Try.ntmps5
  go_wp2_with fail
  with_reducible refine (small_any _ _ _).mono ?_; rintro e1 w1 ⟨x1, x2, rfl, X1, X2, rfl⟩; go_wp2_with fail
  generalize sp a = A at *
  generalize sp b = B at *
  with_reducible refine (turn_any 1 _ _ A B 1 _ X1.fi X2.fi ba bb (by decide)).mono ?_; rintro e1 w1 ⟨t1, t2, rfl, T1, T2, rfl⟩; go_wp2_with fail
  with_reducible refine (mul_any _ _ _ _ A B 0 1 _ X1.fi X2.fi FI_zero FI_one ba bb (by decide) (by decide)).mono ?_; rintro e1 w2 ⟨p1, p2, rfl, P1, P2, g1⟩; go_wp2_with fail
  obtain ⟨M, hM⟩ : ∃ M, M = A * A + B * B := ⟨_, rfl⟩
  have n1 := fun w => norm_face _ _ A B w X1.fi X2.fi ba bb
  rw [← hM] at n1
  with_reducible refine (n1 _).mono ?_; rintro e1 w3 ⟨rfl, g2⟩; go_wp2_with fail
  with_reducible refine (turn_any K _ _ A B k _ X1.fi X2.fi ba bb HK.out).mono ?_; rintro e1 w4 ⟨u1, u2, rfl, U1, U2, rfl⟩; go_wp2_with fail
  have n2 := fun w => norm_face _ _ _ _ w U1.fi U2.fi tl1 tl2
  rw [turn_norm, ← hM] at n2
  with_reducible refine (n2 _).mono ?_; rintro e1 w5 ⟨rfl, g3⟩; go_wp2_with fail
  have o1 := is_eq T1.fi P1.fi (by simp [tre])
  have o2 := is_eq T2.fi P2.fi (by simp [tim])
  clear hM n1 n2 P1 P2
  with_reducible refine (told_any _).mono ?_; rintro e1 w6 ⟨rfl, g4⟩; go_wp2_with fail
  clear o1 o2
  with_reducible refine (turn_any 1 _ _ _ _ 1 _ T1.fi T2.fi (tre_le 1 ba bb) (tim_le 1 ba bb) (by decide)).mono ?_; rintro e1 w7 ⟨v1, v2, rfl, V1, V2, rfl⟩; go_wp2_with fail
  with_reducible refine (turn_any 2 _ _ _ _ 2 _ V1.fi V2.fi (tre_le 1 (tre_le 1 ba bb) (tim_le 1 ba bb)) (tim_le 1 (tre_le 1 ba bb) (tim_le 1 ba bb)) (by decide)).mono ?_; rintro e1 w8 ⟨r1, r2, rfl, R1, R2, rfl⟩
  have o3 := is_eq R1.fi X1.fi (by simp [tre, tim])
  have o4 := is_eq R2.fi X2.fi (by simp [tre, tim])
  go_wp2_with fail
  clear o3 o4
  with_reducible refine (turn_any K _ _ A B k _ X1.fi X2.fi ba bb HK.out).mono ?_; rintro e1 w9 ⟨q1, q2, rfl, Q1, Q2, rfl⟩; go_wp2_with fail
  with_reducible refine (turn_any L _ _ _ _ _ _ Q1.fi Q2.fi tl1 tl2 HL.out).mono ?_; rintro e1 w10 ⟨s1, s2, rfl, S1, S2, rfl⟩
  have o5 := is_eq S1.fi X1.fi (HB.out A B).1
  have o6 := is_eq S2.fi X2.fi (HB.out A B).2
  go_wp2
  go_ret
  exact ⟨rfl, Grown_trans g1 (Grown_trans g2 (Grown_trans g3 g4))⟩

end Go.Proofs.Ytobmgeklccagfab
