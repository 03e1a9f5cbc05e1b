/- Masks of ints. -/
import Derived.Test.YtfpmakmemmnbkaaK0
import Derived.Laws.Bits128
namespace Go.Proofs.Ytfpmakmemmnbkaa
open Go.RowKit

theorem i64_mask (k : Nat) (M : Int) (n : Int) (hk : k ≤ 62) (h : (BitVec.ofInt 64 M).toNat = 2 ^ k - 1) : bits .and .i64 n M = n % ((2 ^ k : Nat) : Int) := by
  have key : (BitVec.ofInt 64 n &&& BitVec.ofInt 64 M).toNat = (n % ((2 ^ 64 : Nat) : Int)).toNat % 2 ^ k := by
    rw [BitVec.toNat_and, BitVec.toNat_ofInt, h, Nat.and_two_pow_sub_one_eq_mod]
  show IntKind.i64.wrap ((BitVec.ofInt 64 n &&& BitVec.ofInt 64 M).toNat : Nat) = _
  have hd : (2 ^ k : Nat) ∣ 2 ^ 64 := Nat.pow_dvd_pow 2 (by omega)
  have hp : 2 ^ k ≤ 2 ^ 62 := Nat.pow_le_pow_right (by decide) hk
  have hpos : 0 < 2 ^ k := Nat.two_pow_pos k
  have e1 : ((((n % ((2 ^ 64 : Nat) : Int)).toNat % 2 ^ k : Nat)) : Int) = n % ((2 ^ k : Nat) : Int) := by
    rw [Int.natCast_emod, Int.toNat_of_nonneg (Int.emod_nonneg _ (by decide)), Int.emod_emod_of_dvd _ (Int.natCast_dvd_natCast.2 hd)]
  rw [key, IntKind.wrap_i64, e1]
  have l1 := Int.emod_nonneg n (b := ((2 ^ k : Nat) : Int)) (by omega)
  have l2 := Int.emod_lt_of_pos n (b := ((2 ^ k : Nat) : Int)) (by omega)
  omega
theorem mask20 (n : Int) : bits .and .i64 n 1048575 = n % 1048576 := i64_mask 20 1048575 n (by decide) (by decide)
theorem mask10 (n : Int) : bits .and .i64 n 1023 = n % 1024 := i64_mask 10 1023 n (by decide) (by decide)
theorem mask5 (n : Int) : bits .and .i64 n 31 = n % 32 := i64_mask 5 31 n (by decide) (by decide)
theorem mask2 (n : Int) : bits .and .i64 n 3 = n % 4 := i64_mask 2 3 n (by decide) (by decide)
theorem mask4 (n : Int) : bits .and .i64 n 15 = n % 16 := i64_mask 4 15 n (by decide) (by decide)

end Go.Proofs.Ytfpmakmemmnbkaa
