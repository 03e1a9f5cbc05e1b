/- The walks of gauss's small inner functions over whole numbers: isWhole, isSmall, withoutMinusZero, conjugate, norm, nearest, refuse. -/
import Derived.Test.YtcejdeafdlbheaaW1
namespace Go.Proofs.Ytcejdeafdlbheaa
open Go.RowKit

theorem FI_const {b : Nat} (n : Int) (h : n.natAbs < 9007199254740992) (e : floatOfInt .f64 n = b) : FI b n := by
  have := FI_of_int n h; rwa [e] at this
theorem FI_whole : FI 4841369599423283200 4503599627370496 := FI_const _ (by decide) (by decide)
theorem FI_small : FI 4715268809856909312 16777216 := FI_const _ (by decide) (by decide)

theorem mul_le {x y : Int} {A B : Nat} (hx : x.natAbs ≤ A) (hy : y.natAbs ≤ B) : (x * y).natAbs ≤ A * B := by
  rw [Int.natAbs_mul]; exact Nat.mul_le_mul hx hy

set_option maxHeartbeats 400000 in
theorem isWhole_true (a b : Nat) (w : World) (x y : Int) (ha : FI a x) (hb : FI b y) (hx : x.natAbs ≤ 4503599627370496) (hy : y.natAbs ≤ 4503599627370496) :
    Calls Try.prog 20 #[.complex .f64 a b] w fun e w' => e = .returned (.bool true) ∧ w' = w := by
  have c1 := fun w => upTo_true a _ w x _ ha FI_whole (by omega) (by omega)
  have c2 := fun w => upTo_true b _ w y _ hb FI_whole (by omega) (by omega)
  clear hx hy
  go_enter Try.func20, Try.ntmps20
  go_wp2_with (first | (go_at_call 22; with_reducible refine (c1 _).mono ?_; rintro e w' ⟨rfl, rfl⟩) | (go_at_call 22; with_reducible refine (c2 _).mono ?_; rintro e w' ⟨rfl, rfl⟩))
  go_ret
  exact ⟨rfl, rfl⟩

set_option maxHeartbeats 400000 in
theorem clean_any (a b : Nat) (w : World) (x y : Int) (ha : FI a x) (hb : FI b y) :
    Calls Try.prog 21 #[.complex .f64 a b] w fun e w' => e = .returned (.complex .f64 (pz x a) (pz y b)) ∧ w' = w := by
  have c1 := fun w => plainZero_any a w x ha
  have c2 := fun w => plainZero_any b w y hb
  go_enter Try.func21, Try.ntmps21
  go_wp2_with (first | (go_at_call 23; with_reducible refine (c1 _).mono ?_; rintro e w' ⟨rfl, rfl⟩) | (go_at_call 23; with_reducible refine (c2 _).mono ?_; rintro e w' ⟨rfl, rfl⟩))
  go_ret
  exact ⟨rfl, rfl⟩

theorem wrap64_id {x : Int} (h1 : -9223372036854775808 ≤ x) (h2 : x ≤ 9223372036854775807) : wrap64 x = x := by
  unfold wrap64; omega

theorem ret_float {n m : Int} (h : n = m) : Ending.returned (.float .f64 (floatOfInt .f64 n)) = .returned (.float .f64 (floatOfInt .f64 m)) := by rw [h]

theorem tdiv_parts {D M : Int} (hM : 0 < M) : (D.tmod M < 0 → D.tdiv M - 1 = D / M) ∧ (0 ≤ D.tmod M → D.tdiv M = D / M) := by
  have e1 := Int.tdiv_eq_ediv (a := D) (b := M)
  have e2 := Int.tmod_eq_emod (a := D) (b := M)
  have l1 := Int.emod_nonneg D (b := M) (by omega)
  have l2 := Int.emod_lt_of_pos D hM
  have hs : M.sign = 1 := Int.sign_eq_one_of_pos hM
  rw [hs] at e1
  by_cases c : 0 ≤ D ∨ M ∣ D
  · rw [if_pos c] at e1 e2; constructor <;> intro h <;> simp at e2 <;> omega
  · rw [if_neg c] at e1 e2; constructor <;> intro h <;> omega

theorem ediv_small {D M : Int} (hM : 0 < M) (h1 : -4611686018427387904 ≤ D) (h2 : D ≤ 4611686018427387904) : -4611686018427387904 ≤ D / M ∧ D / M ≤ 4611686018427387904 := by
  have h3 : D < 4611686018427387905 * M := by
    have : 4611686018427387905 * 1 ≤ 4611686018427387905 * M := Int.mul_le_mul_of_nonneg_left hM (by omega)
    omega
  have h4 : -4611686018427387904 * M ≤ D := by
    have : 4611686018427387904 * 1 ≤ 4611686018427387904 * M := Int.mul_le_mul_of_nonneg_left hM (by omega)
    omega
  exact ⟨(Int.le_ediv_iff_mul_le hM).2 h4, by have := (Int.ediv_lt_iff_lt_mul hM).2 h3; omega⟩

theorem tdiv_down {D M : Int} (hM : 0 < M) (h : D.tmod M < 0) (h1 : -4611686018427387904 ≤ D) (h2 : D ≤ 4611686018427387904) : wrap64 (D.tdiv M - 1) = D / M := by
  have e := (tdiv_parts (D := D) hM).1 h
  have b := ediv_small hM h1 h2
  rw [e]; exact wrap64_id (by omega) (by omega)

theorem tdiv_up {D M : Int} (hM : 0 < M) (h : 0 ≤ D.tmod M) : D.tdiv M = D / M := (tdiv_parts hM).2 h

end Go.Proofs.Ytcejdeafdlbheaa
