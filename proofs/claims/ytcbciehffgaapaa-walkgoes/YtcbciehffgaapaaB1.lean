/- bits: which bits and levels there are; a row of ones; fields; indices and spans. -/
import Derived.Test.YtcbciehffgaapaaU0
import Derived.Deep.QuietTactic
import Derived.BigQuiet
import Derived.Deep.LoopGhost
namespace Go.Proofs.Ytcbciehffgaapaa
open Go.RowKit


theorem inWord_any (low n : Int) (w : World) (h1 : -9223372036854775808 ≤ n) (h2 : n ≤ 9223372036854775807) :
    Calls Try.prog 49 #[.int .i64 low, .int .i64 n] w fun e w' => e = .returned (.bool (decide (0 ≤ low ∧ 1 ≤ n ∧ low + n ≤ 64))) ∧ w' = w := by
  by_cases c1 : 0 ≤ low
  · by_cases c2 : 1 ≤ n
    · by_cases c3 : low ≤ 64 - n
      · rw [decide_eq_true ⟨c1, c2, by omega⟩]
        go_enter Try.func49, Try.ntmps49
        go_wp2
        go_ret
        exact ⟨rfl, rfl⟩
      · rw [decide_eq_false (by omega)]
        go_enter Try.func49, Try.ntmps49
        go_wp2
        go_ret
        exact ⟨rfl, rfl⟩
    · rw [decide_eq_false (by omega)]
      go_enter Try.func49, Try.ntmps49
      go_wp2
      go_ret
      exact ⟨rfl, rfl⟩
  · rw [decide_eq_false (by omega)]
    go_enter Try.func49, Try.ntmps49
    go_wp2
    go_ret
    exact ⟨rfl, rfl⟩

/-- n ones. -/
def on (n : Nat) : Nat := 2 ^ n - 1
theorem on_lt {n : Nat} (h : n ≤ 64) : on n < 18446744073709551616 := by
  have := Nat.pow_le_pow_right (n := 2) (by decide) h
  unfold on; omega
theorem on_top : ∀ n, n ≤ 64 → 18446744073709551615 / 2 ^ (64 - n) = on n := by decide +kernel
theorem on_top_int (n : Nat) (h : n ≤ 64) : (18446744073709551615 : Int) / 2 ^ (64 - n) = (on n : Nat) := by
  rw [← on_top n h]; simp


theorem ones_any (n : Nat) (w : World) (h1 : 1 ≤ n) (h2 : n ≤ 64) :
    Calls Try.prog 50 #[.int .i64 (n : Int)] w fun e w' => e = .returned (.int .u64 (on n : Nat)) ∧ w' = w := by
  have z1 : (1 : Int) ≤ n := by omega
  have z2 : (n : Int) ≤ 64 := by omega
  have z3 := on_top_int n h2
  go_enter Try.func50, Try.ntmps50
  go_wp2
  go_ret
  exact ⟨rfl, rfl⟩

/-- The n bits from low on. -/
def fieldN (u low n : Nat) : Nat := u / 2 ^ low % 2 ^ n
theorem field_and (u low n : Nat) (hu : u < 18446744073709551616) (hn : n ≤ 64) : bits .and .u64 ((u : Int) / 2 ^ low) (on n : Nat) = (fieldN u low n : Nat) := by
  have h1 : u / 2 ^ low < 18446744073709551616 := Nat.lt_of_le_of_lt (Nat.div_le_self _ _) hu
  have h2 := u64_and_nat (u / 2 ^ low) (on n) h1 (on_lt hn)
  rw [on, Nat.and_two_pow_sub_one_eq_mod] at h2
  rw [← fieldN, ← on] at h2
  rw [← h2]; congr 1

set_option maxHeartbeats 1000000 in
theorem field_any (u low n : Nat) (w : World) (hu : u < 18446744073709551616) (hn : 1 ≤ n) (hl : low + n ≤ 64) :
    Calls Try.prog 38 #[.int .u64 (u : Int), .int .i64 (low : Int), .int .i64 (n : Int)] w fun e w' => e = .returned (.int .u64 (fieldN u low n : Nat)) ∧ Dr w w' := by
  have c1 := fun w => inWord_any low n w (by omega) (by omega)
  rw [decide_eq_true (by omega)] at c1
  have c2 := fun w => ones_any n w hn (by omega)
  have z1 : (low : Int) ≤ 64 := by omega
  have z2 := field_and u low n hu (by omega)
  clear hu hn hl
  generalize fieldN u low n = r at *
  generalize on n = m at *
  go_enter Try.func38, Try.ntmps38
  go_wp2_with (go_at_call 49; with_reducible refine (c1 _).mono ?_; rintro e w' ⟨rfl, rfl⟩)
  go_quiet (first | (go_at_call 50; refine Calls.quiet_of_same (c2 _)))
  go_wp2
  go_ret
  exact ⟨rfl, ⟨_, rfl⟩⟩

/-- u with v's low n bits from low on. -/
def setN (u low n v : Nat) : Nat := (u &&& (18446744073709551615 - on n * 2 ^ low)) ||| (v % 2 ^ n * 2 ^ low)

theorem shl_lt {c n low : Nat} (hc : c < 2 ^ n) (hl : low + n ≤ 64) : c * 2 ^ low < 18446744073709551616 := by
  have h1 : c * 2 ^ low < 2 ^ n * 2 ^ low := Nat.mul_lt_mul_of_pos_right hc (Nat.two_pow_pos _)
  rw [← Nat.pow_add] at h1
  have h2 := Nat.pow_le_pow_right (n := 2) (by decide) (show n + low ≤ 64 by omega)
  exact Nat.lt_of_lt_of_le h1 h2
theorem shl_mod {c low : Nat} (h : c * 2 ^ low < 18446744073709551616) : IntKind.u64.wrap ((c : Int) * 2 ^ low) = ((c * 2 ^ low : Nat) : Int) := by
  have e : (c : Int) * 2 ^ low = ((c * 2 ^ low : Nat) : Int) := by rw [Int.natCast_mul, Int.natCast_pow]; rfl
  rw [e]; simp [IntKind.wrap, IntKind.bits, IntKind.signed]; omega
theorem on_pow (n : Nat) : on n < 2 ^ n := by have := Nat.two_pow_pos n; unfold on; omega

end Go.Proofs.Ytcbciehffgaapaa
