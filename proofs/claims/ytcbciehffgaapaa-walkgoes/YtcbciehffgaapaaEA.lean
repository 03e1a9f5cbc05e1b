/- desc: the document's split of a word. -/
import Derived.Test.YtcbciehffgaapaaE9
namespace Go.Proofs.Ytcbciehffgaapaa
open Go.RowKit

theorem and_addr (u : Nat) : u &&& 281474976706560 = adN u := by
  have e1 : (u &&& 281474976706560) % 2 ^ 12 = 0 := by
    rw [Nat.and_mod_two_pow, show (281474976706560 : Nat) % 2 ^ 12 = 0 from by decide +kernel, Nat.and_zero]
  have e2 : (u &&& 281474976706560) / 2 ^ 12 = u / 2 ^ 12 % 2 ^ 36 := by
    rw [← Nat.shiftRight_eq_div_pow, Nat.shiftRight_and_distrib, show (281474976706560 : Nat) >>> 12 = 2 ^ 36 - 1 from by decide +kernel, Nat.and_two_pow_sub_one_eq_mod, Nat.shiftRight_eq_div_pow]
  unfold adN fieldN
  rw [← e2]
  omega
/-- A word without its address. -/
def lowW (u : Nat) : Nat := u - adN u
theorem and_low_word (u : Nat) (hu : u < 18446744073709551616) : u &&& (18446744073709551615 - 281474976706560) = lowW u := by
  rw [show (18446744073709551615 - 281474976706560 : Nat) = 18446462598732845055 from by decide +kernel]
  have e1 : (u &&& 18446462598732845055) % 2 ^ 12 = u % 2 ^ 12 := by
    rw [Nat.and_mod_two_pow, show (18446462598732845055 : Nat) % 2 ^ 12 = 2 ^ 12 - 1 from by decide +kernel, Nat.and_two_pow_sub_one_eq_mod, Nat.mod_mod]
  have e2 : (u &&& 18446462598732845055) / 2 ^ 12 % 2 ^ 36 = 0 := by
    rw [← Nat.shiftRight_eq_div_pow, Nat.shiftRight_and_distrib, Nat.and_mod_two_pow, show (18446462598732845055 : Nat) >>> 12 % 2 ^ 36 = 0 from by decide +kernel, Nat.and_zero]
  have e3 : (u &&& 18446462598732845055) / 2 ^ 48 = u / 2 ^ 48 := by
    rw [← Nat.shiftRight_eq_div_pow, Nat.shiftRight_and_distrib, show (18446462598732845055 : Nat) >>> 48 = 2 ^ 16 - 1 from by decide +kernel, Nat.and_two_pow_sub_one_eq_mod, Nat.shiftRight_eq_div_pow]
    omega
  unfold lowW adN fieldN
  generalize u &&& 18446462598732845055 = y at *
  omega

theorem bt_cast (u i : Nat) : ((fieldN u i 1 : Nat) : Int) = ((oneN (btN u i) : Nat) : Int) := by
  have := field_lt u i 1
  unfold btN oneN
  by_cases c : fieldN u i 1 = 1
  · rw [c]; rfl
  · rw [if_neg (by simpa using c)]; omega
theorem one_eq (b : Bool) : (((oneN b : Nat) : Int) == 1) = b := by cases b <;> rfl
theorem one_two (b : Bool) : (((2 * oneN b : Nat) : Int) != 0) = b := by cases b <;> rfl
theorem one_zero (b : Bool) : (((oneN b : Nat) : Int) == 0) = !b := by cases b <;> rfl

/-- A word's low bits, asked by and. -/
theorem ask_at (u i : Nat) (z : Int) (hz : z = (u : Int) / 2 ^ i) (hu : u < 18446744073709551616) : bits .and .u64 z 1 = ((oneN (btN u i) : Nat) : Int) := by
  rw [hz, ← bt_cast]
  exact field_and u i 1 hu (by decide)
theorem ask_0 (u : Nat) (hu : u < 18446744073709551616) : bits .and .u64 (u : Int) 1 = ((oneN (btN u 0) : Nat) : Int) := ask_at u 0 _ (by simp) hu
theorem ask_1 (u : Nat) (hu : u < 18446744073709551616) : bits .and .u64 (u : Int) 2 = ((2 * oneN (btN u 1) : Nat) : Int) := by
  have h := u64_and_nat u 2 hu (by decide)
  refine h.trans ?_
  have e1 : (u &&& 2) % 2 ^ 1 = 0 := by rw [Nat.and_mod_two_pow, show (2 : Nat) % 2 ^ 1 = 0 from rfl, Nat.and_zero]
  have e2 : (u &&& 2) / 2 ^ 1 = u / 2 ^ 1 % 2 ^ 1 := by
    rw [← Nat.shiftRight_eq_div_pow, Nat.shiftRight_and_distrib, show (2 : Nat) >>> 1 = 2 ^ 1 - 1 from rfl, Nat.and_two_pow_sub_one_eq_mod, Nat.shiftRight_eq_div_pow]
  have b := bt_cast u 1
  unfold fieldN at b
  omega

set_option maxHeartbeats 4000000 in
theorem rsplit_any (l : Int) (u : Nat) (w : World) (hu : u < 18446744073709551616) :
    Calls Try.prog 47 #[.int .i64 l, .int .u64 (u : Int)] w fun e w' => e = .returned (.agg #[.int .i64 (kdN l u), .int .u64 (adN u : Nat), .bool (btN u 6), .bool (btN u 7), .bool (btN u 8), .int .i64 (fieldN u 55 4 : Nat)]) ∧ Kp w w' := by
  have p1 : bits .and .u64 (u : Int) 281474976706560 = ((adN u : Nat) : Int) := by rw [← and_addr]; exact u64_and_nat u 281474976706560 hu (by decide)
  have p2 : bits .and .u64 ((u : Int) / 36028797018963968) 15 = ((fieldN u 55 4 : Nat) : Int) := field_and u 55 4 hu (by decide)
  have p3 : bits .and .u64 ((u : Int) / 64) 1 = ((oneN (btN u 6) : Nat) : Int) := ask_at u 6 _ (by rfl) hu
  have p4 : bits .and .u64 ((u : Int) / 128) 1 = ((oneN (btN u 7) : Nat) : Int) := ask_at u 7 _ (by rfl) hu
  have p5 : bits .and .u64 ((u : Int) / 256) 1 = ((oneN (btN u 8) : Nat) : Int) := ask_at u 8 _ (by rfl) hu
  have p6 := ask_1 u hu
  have q3 := one_eq (btN u 6)
  have q4 := one_eq (btN u 7)
  have q5 := one_eq (btN u 8)
  have q6 := one_two (btN u 1)
  have f1 : (fieldN u 55 4 : Nat) < 16 := field_lt u 55 4
  have f2 : ((fieldN u 55 4 : Nat) : Int) < 16 := by omega
  unfold kdN
  clear f1 hu
  generalize fieldN u 55 4 = f at *
  generalize adN u = a at *
  generalize btN u 6 = r at *
  generalize btN u 7 = q at *
  generalize btN u 8 = x at *
  generalize btN u 1 = b at *
  generalize ((oneN r : Nat) : Int) = rr at *
  generalize ((oneN q : Nat) : Int) = qq at *
  generalize ((oneN x : Nat) : Int) = xx at *
  generalize ((2 * oneN b : Nat) : Int) = bb at *
  cases b
  · rw [if_pos rfl]
    go_enter Try.func47, Try.ntmps47
    go_wp2
    refine bodyPost_ret (res_d rfl rfl ((BX.made w 2 a r q x f).kp ((Kp.refl _).alloc _))) rfl ⟨rfl, ((Kp.refl _).alloc _).alloc _⟩
  · rw [if_neg (by decide)]
    by_cases c : l = 3
    · subst c
      rw [if_pos rfl]
      go_enter Try.func47, Try.ntmps47
      go_wp2
      refine bodyPost_ret (res_d rfl rfl ((BX.made w 3 a r q x f).kp ((Kp.refl _).alloc _))) rfl ⟨rfl, ((Kp.refl _).alloc _).alloc _⟩
    · have c1 : (l == 3) = false := by rw [beq_eq_false_iff_ne]; exact c
      rw [if_neg c]
      go_enter Try.func47, Try.ntmps47
      go_wp2
      refine bodyPost_ret (res_d rfl rfl ((BX.made w 1 a r q x f).kp ((Kp.refl _).alloc _))) rfl ⟨rfl, ((Kp.refl _).alloc _).alloc _⟩

end Go.Proofs.Ytcbciehffgaapaa
