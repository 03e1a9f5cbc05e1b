/- Fields, the document's, bit by bit; no such bits. -/
import Derived.Test.YtddklpbddpjklaaB1
namespace Go.Proofs.Ytddklpbddpjklaa
open Go.RowKit

def isF (low n : Int) : Bool := decide (0 ≤ low ∧ 1 ≤ n ∧ low + n ≤ 64)

theorem has_any (low n : Int) (w : World) :
    Calls Try.prog 28 #[.int .i64 low, .int .i64 n] w fun e w' => e = .returned (.bool (isF low n)) ∧ w' = w := by
  by_cases c1 : 0 ≤ low
  · by_cases c2 : low < 64
    · by_cases c3 : 1 ≤ n
      · by_cases c4 : n ≤ 64 - low
        · rw [show isF low n = true from decide_eq_true ⟨c1, c3, by omega⟩]
          go_enter Try.func28, Try.ntmps28
          go_wp2
          go_ret
          exact ⟨rfl, rfl⟩
        · rw [show isF low n = false from decide_eq_false (by omega)]
          go_enter Try.func28, Try.ntmps28
          go_wp2
          go_ret
          exact ⟨rfl, rfl⟩
      · rw [show isF low n = false from decide_eq_false (by omega)]
        go_enter Try.func28, Try.ntmps28
        go_wp2
        go_ret
        exact ⟨rfl, rfl⟩
    · rw [show isF low n = false from decide_eq_false (by omega)]
      go_enter Try.func28, Try.ntmps28
      go_wp2
      go_ret
      exact ⟨rfl, rfl⟩
  · rw [show isF low n = false from decide_eq_false (by omega)]
    go_enter Try.func28, Try.ntmps28
    go_wp2
    go_ret
    exact ⟨rfl, rfl⟩

theorem bit_of (x i : Nat) : x / 2 ^ i % 2 = (x.testBit i).toNat := by rw [Nat.toNat_testBit]
theorem half (x i : Nat) : x / 2 ^ i = x / 2 ^ (i + 1) * 2 + x / 2 ^ i % 2 := by
  have : x / 2 ^ (i + 1) = x / 2 ^ i / 2 := by rw [Nat.pow_succ, Nat.div_div_eq_div_mul]
  omega
theorem field_bit (u low n i : Nat) (h : i < n) : fieldN u low n / 2 ^ i % 2 = u / 2 ^ (low + i) % 2 := by
  rw [bit_of, bit_of]
  unfold fieldN
  rw [Nat.testBit_mod_two_pow, Nat.testBit_div_two_pow, decide_eq_true h, Bool.true_and, Nat.add_comm]
theorem set_bit (u low n v i : Nat) (hu : u < 18446744073709551616) (hl : low + n ≤ 64) : (setN u low n v).testBit i = if low ≤ i ∧ i < low + n then v.testBit (i - low) else u.testBit i := by
  have l1 := shl_lt (on_pow n) hl
  have e1 : 18446744073709551615 - on n * 2 ^ low = 2 ^ 64 - (on n * 2 ^ low + 1) := by
    have : (2 : Nat) ^ 64 = 18446744073709551616 := rfl
    omega
  unfold setN
  rw [Nat.testBit_or, Nat.testBit_and, e1, Nat.testBit_two_pow_sub_succ (by exact l1), Nat.testBit_mul_two_pow, Nat.testBit_mul_two_pow, Nat.testBit_mod_two_pow]
  unfold on
  rw [Nat.testBit_two_pow_sub_one]
  by_cases c : low ≤ i ∧ i < low + n
  · rw [if_pos c]
    have h1 : low ≤ i := c.1
    have h2 : i - low < n := by omega
    simp [h1, h2]
  · rw [if_neg c]
    by_cases h1 : low ≤ i
    · have h2 : ¬ i - low < n := by omega
      by_cases h3 : i < 64
      · simp [h2, h3]
      · have : u.testBit i = false := Nat.testBit_lt_two_pow (Nat.lt_of_lt_of_le hu (Nat.pow_le_pow_right (n := 2) (by decide) (show 64 ≤ i by omega)))
        simp [h2, this]
    · have h3 : i < 64 := by omega
      simp [h1, h3]
theorem set_bit' (u low n v i : Nat) (hu : u < 18446744073709551616) (hl : low + n ≤ 64) : setN u low n v / 2 ^ i % 2 = if low ≤ i ∧ i < low + n then v / 2 ^ (i - low) % 2 else u / 2 ^ i % 2 := by
  rw [bit_of, set_bit u low n v i hu hl]
  split
  · rw [bit_of]
  · rw [bit_of]
theorem set_lt (u low n v : Nat) (hu : u < 18446744073709551616) (hl : low + n ≤ 64) : setN u low n v < 18446744073709551616 :=
  Nat.or_lt_two_pow (n := 64) (Nat.lt_of_le_of_lt Nat.and_le_left hu) (shl_lt (Nat.mod_lt v (Nat.two_pow_pos n)) hl)
theorem and_one (u k : Nat) (hu : u < 18446744073709551616) : bits .and .u64 ((u : Int) / 2 ^ k) 1 = ((u / 2 ^ k % 2 : Nat) : Int) := by
  have h1 : u / 2 ^ k < 18446744073709551616 := Nat.lt_of_le_of_lt (Nat.div_le_self _ _) hu
  have h2 := u64_and_nat (u / 2 ^ k) 1 h1 (by decide)
  rw [nat_mask1] at h2
  rw [← h2]; congr 1

set_option maxHeartbeats 2000000 in
set_option maxRecDepth 10000 in
theorem rfield_any (u low n : Nat) (w : World) (hu : u < 18446744073709551616) (hn : 1 ≤ n) (hl : low + n ≤ 64) :
    Calls Try.prog 16 #[.int .u64 (u : Int), .int .i64 (low : Int), .int .i64 (n : Int)] w fun e w' => e = .returned (.int .u64 (fieldN u low n : Nat)) ∧ w' = w := by
  have c1 := has_any low n
  rw [show isF low n = true from decide_eq_true (by omega)] at c1
  have z1 : (n : Int) ≤ 64 := by omega
  have z2 : (low : Int) + n ≤ 64 := by omega
  have r0 : fieldN u low n / 2 ^ n = 0 := Nat.div_eq_of_lt (Nat.mod_lt _ (Nat.two_pow_pos n))
  have l0 : fieldN u low n < 18446744073709551616 := Nat.lt_of_lt_of_le (Nat.mod_lt _ (Nat.two_pow_pos n)) (Nat.pow_le_pow_right (n := 2) (by decide) (show n ≤ 64 by omega))
  have R0 : Hid _ := r0
  have HU : Hid _ := hu
  have L0 : Hid _ := l0
  clear r0 hu l0
  go_enter Try.func16, Try.ntmps16
  go_wp2_with (go_at_call 28; with_reducible refine (c1 _).mono ?_; rintro e w' ⟨rfl, rfl⟩)
  go_loopg [7, 8] n (fun g v7 v8 wr => ∃ i : Nat, v7 = .int .u64 ((fieldN u low n / 2 ^ i : Nat) : Int) ∧ v8 = .int .i64 ((i : Int) - 1) ∧ i ≤ n ∧ i ≤ g ∧ wr = w')
  case atStart => exact ⟨n, by rw [R0.out]; rfl, rfl, by omega, by omega, rfl⟩
  case round =>
    obtain ⟨i, rfl, rfl, hi, hg, rfl⟩ := hrel
    match i, hi, hg with
    | i + 1, hi, hg =>
      have e1 : ((i + 1 : Nat) : Int) - 1 = i := by omega
      have h1 := half (fieldN u low n) i
      rw [field_bit u low n i (by omega)] at h1
      have q1 := and_one u (low + i) HU.out
      have l1 : fieldN u low n / 2 ^ i < 18446744073709551616 := Nat.lt_of_le_of_lt (Nat.div_le_self _ _) L0.out
      have l2 : u / 2 ^ (low + i) % 2 < 2 := Nat.mod_lt _ (by decide)
      rw [e1]
      obtain ⟨r, hr⟩ : ∃ r, r = fieldN u low n / 2 ^ i := ⟨_, rfl⟩
      rw [← hr] at h1 l1
      have HR : Hid _ := hr
      clear hr e1
      generalize fieldN u low n / 2 ^ (i + 1) = o at *
      generalize u / 2 ^ (low + i) % 2 = b at *
      have y1 : (o : Int) ≤ 9223372036854775807 := by omega
      have y2 : (b : Int) < 2 := by omega
      have y3 : (i : Int) < n := by omega
      have H1 : Hid _ := h1
      clear h1 l1 l2
      go_wp2
      go_roundg i
      case measure => omega
      case rel => exact ⟨i, by rw [← HR.out, H1.out]; go_num, by go_num, by omega, by omega, rfl⟩
    | 0, hi, hg =>
      rw [Nat.pow_zero, Nat.div_one]
      go_wp2
      go_ret
      exact ⟨rfl, rfl⟩

end Go.Proofs.Ytddklpbddpjklaa
