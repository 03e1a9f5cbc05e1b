/- The walks of the statements' own makers of numbers: Make, tiny, small. -/
import Derived.Test.YtobmgeklccagfabW4
namespace Go.Proofs.Ytobmgeklccagfab
open Go.RowKit

set_option maxHeartbeats 400000 in
theorem make_any (x y : Int) (w : World) : Calls Try.prog 14 #[.int .i64 x, .int .i64 y] w fun e w' => e = .returned (.complex .f64 (floatOfInt .f64 x) (floatOfInt .f64 y)) ∧ w' = w := by
  go_enter Try.func14, Try.ntmps14
  go_wp2
  go_ret
  exact ⟨rfl, rfl⟩

theorem and4095 (n : Int) : bits .and .i64 n 4095 = n % 4096 := by
  have hm : (BitVec.ofInt 64 4095).toNat = 2 ^ 12 - 1 := by decide
  have key : (BitVec.ofInt 64 n &&& BitVec.ofInt 64 4095).toNat = (n % ((2 ^ 64 : Nat) : Int)).toNat % 2 ^ 12 := by
    rw [BitVec.toNat_and, BitVec.toNat_ofInt, hm, Nat.and_two_pow_sub_one_eq_mod]
  show IntKind.i64.wrap ((BitVec.ofInt 64 n &&& BitVec.ofInt 64 4095).toNat : Nat) = n % 4096
  rw [key, IntKind.wrap_i64]
  omega

/-- A part below 2^11 out of any number. -/
def tp (n : Int) : Int := n % 4096 - 2048
theorem tp_le (n : Int) : (tp n).natAbs ≤ 2048 := by unfold tp; omega
theorem tp_eq (n : Int) : wrap64 (bits .and .i64 n 4095 - 2048) = tp n := by
  rw [and4095]; unfold tp; exact wrap64_id (by omega) (by omega)

set_option maxHeartbeats 400000 in
theorem tiny_any (x y : Int) (w : World) : Calls Try.prog 8 #[.int .i64 x, .int .i64 y] w fun e w' => ∃ p q, e = .returned (.complex .f64 p q) ∧ FC p (tp x) ∧ FC q (tp y) ∧ w' = w := by
  have e1 := tp_eq x
  have e2 := tp_eq y
  have f1 := FC_of_int (tp x) (nabs_lt (tp_le x) (by decide))
  have f2 := FC_of_int (tp y) (nabs_lt (tp_le y) (by decide))
  go_enter Try.func8, Try.ntmps8
  go_wp2_with (go_at_call 14; with_reducible refine (make_any _ _ _).mono ?_; rintro e w1 ⟨rfl, rfl⟩)
  go_ret
  exact ⟨_, _, rfl, f1, f2, rfl⟩

theorem small_eq (k : Int) : wrap64 ((wrap64 (k.tmod 16777216 + 16777216)).tmod 16777216 - 8388608) = k % 16777216 - 8388608 := by
  have l1 := Int.lt_tmod_of_pos k (b := 16777216) (by omega)
  have l2 := Int.tmod_lt_of_pos k (b := 16777216) (by omega)
  rw [wrap64_id (x := k.tmod 16777216 + 16777216) (by omega) (by omega)]
  have e2 := Int.tmod_eq_emod (a := k) (b := 16777216)
  have e3 : (k.tmod 16777216 + 16777216).tmod 16777216 = (k.tmod 16777216 + 16777216) % 16777216 := Int.tmod_eq_emod_of_nonneg (by omega)
  have e4 : (k.tmod 16777216 + 16777216) % 16777216 = k % 16777216 := by
    rw [e2]; split <;> simp <;> omega
  rw [e3, e4]
  exact wrap64_id (by omega) (by omega)

/-- A small part out of any number. -/
def sp (n : Int) : Int := n % 16777216 - 8388608
theorem sp_le (n : Int) : (sp n).natAbs ≤ 8388608 := by unfold sp; omega
theorem sp_eq (k : Int) : wrap64 ((wrap64 (k.tmod 16777216 + 16777216)).tmod 16777216 - 8388608) = sp k := small_eq k

set_option maxHeartbeats 400000 in
theorem small_any (x y : Int) (w : World) : Calls Try.prog 7 #[.int .i64 x, .int .i64 y] w fun e w' => ∃ p q, e = .returned (.complex .f64 p q) ∧ FC p (sp x) ∧ FC q (sp y) ∧ w' = w := by
  have e1 := sp_eq x
  have e2 := sp_eq y
  have f1 := FC_of_int (sp x) (nabs_lt (sp_le x) (by decide))
  have f2 := FC_of_int (sp y) (nabs_lt (sp_le y) (by decide))
  go_enter Try.func7, Try.ntmps7
  go_wp2_with (go_at_call 14; with_reducible refine (make_any _ _ _).mono ?_; rintro e w1 ⟨rfl, rfl⟩)
  go_ret
  exact ⟨_, _, rfl, f1, f2, rfl⟩

end Go.Proofs.Ytobmgeklccagfab
