/- desc: the word of a descriptor; Encode. -/
import Derived.Test.YtcbciehffgaapaaE3
namespace Go.Proofs.Ytcbciehffgaapaa
open Go.RowKit

theorem and_low {u M low : Nat} (hu : u < 2 ^ low) (hM : M % 2 ^ low = 2 ^ low - 1) : u &&& M = u := by
  have e : u &&& M = (u &&& M) % 2 ^ low := (Nat.mod_eq_of_lt (Nat.lt_of_le_of_lt Nat.and_le_left hu)).symm
  rw [e, Nat.and_mod_two_pow, hM, Nat.and_two_pow_sub_one_eq_mod, Nat.mod_mod, Nat.mod_eq_of_lt hu]
theorem set_low {u low n v : Nat} (hu : u < 2 ^ low) (hM : (18446744073709551615 - on n * 2 ^ low) % 2 ^ low = 2 ^ low - 1) (hv : v < 2 ^ n) : setN u low n v = u + v * 2 ^ low := by
  unfold setN
  rw [and_low hu hM, Nat.mod_eq_of_lt hv, Nat.or_comm, Nat.mul_comm, ← Nat.two_pow_add_eq_or_of_lt hu, Nat.add_comm]
theorem one_lt (b : Bool) : oneN b < 2 := by cases b <;> decide

/-- A descriptor's word. -/
def wrd (k : Int) (a : Nat) (r q x : Bool) (f : Int) : Nat :=
  if k = 0 then 0 else 1 + 2 * oneN (k != 2) + 64 * oneN r + 128 * oneN q + 256 * oneN x + a + f.toNat * 36028797018963968
/-- What Encode tells. -/
def dencN (s l k : Int) (a : Nat) (r q x : Bool) (f : Int) : Nat := if dchk s l k a r q x f = 0 then wrd k a r q x f else 0

theorem unit_dvd {s l k : Int} (h : isPl s l = true) : 4096 ∣ unitN l k := by
  have := isPl_iff.1 h
  unfold unitN
  split
  · unfold spn
    rw [if_pos (isLv_iff.2 ⟨this.2.2.1, this.2.2.2⟩)]
    exact Nat.pow_dvd_pow 2 (m := 12) (by unfold sh; omega)
  · exact Nat.dvd_refl _
theorem chk_ok {s l k : Int} {a : Nat} {r q x : Bool} {f : Int} (h : dchk s l k a r q x f = 0) :
    isPl s l = true ∧ isKd k = true ∧ (0 ≤ f ∧ f ≤ 15) ∧ fm l k a r q x f = true ∧ a < topS s ∧ a % unitN l k = 0 := by
  unfold dchk at h
  split at h
  · cases h
  rename_i h1
  split at h
  · cases h
  rename_i h2
  split at h
  · cases h
  rename_i h3
  split at h
  · cases h
  rename_i h4
  have h1 := Decidable.not_not.1 h1
  exact ⟨h1.1, h1.2.1, h1.2.2, by simpa using h2, by omega, by omega⟩
theorem top_le (s : Int) : topS s ≤ 1099511627776 := by unfold topS; split; exact Nat.le_refl _; split <;> decide
theorem chk_addr {s l k : Int} {a : Nat} {r q x : Bool} {f : Int} (h : dchk s l k a r q x f = 0) : ∃ c, a = c * 4096 ∧ c < 268435456 := by
  obtain ⟨h1, _, _, _, h5, h6⟩ := chk_ok h
  have := Nat.dvd_trans (unit_dvd h1 (k := k)) (Nat.dvd_of_mod_eq_zero h6)
  obtain ⟨c, hc⟩ := this
  have := top_le s
  exact ⟨c, by omega, by omega⟩

end Go.Proofs.Ytcbciehffgaapaa
