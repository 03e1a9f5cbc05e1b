/- Set, the document's, bit by bit; no such bits. -/
import Derived.Test.YtddklpbddpjklaaB7
namespace Go.Proofs.Ytddklpbddpjklaa
open Go.RowKit

set_option maxHeartbeats 4000000 in
set_option maxRecDepth 10000 in
theorem rset_any (u low n v : Nat) (w : World) (hu : u < 18446744073709551616) (hv : v < 18446744073709551616) (hn : 1 ≤ n) (hl : low + n ≤ 64) :
    Calls Try.prog 18 #[.int .u64 (u : Int), .int .i64 (low : Int), .int .i64 (n : Int), .int .u64 (v : Int)] w fun e w' => e = .returned (.int .u64 (setN u low n v : Nat)) ∧ w' = w := by
  have c1 := has_any low n
  rw [show isF low n = true from decide_eq_true (by omega)] at c1
  have z1 : (n : Int) ≤ 64 := by omega
  have z2 : (low : Int) + n ≤ 64 := by omega
  have l0 := set_lt u low n v hu hl
  have R0 : Hid (setN u low n v / 2 ^ 64 = 0) := Nat.div_eq_of_lt l0
  have HU : Hid _ := hu
  have HV : Hid _ := hv
  have L0 : Hid _ := l0
  clear hu hv l0
  go_enter Try.func18, Try.ntmps18
  go_wp2_with (go_at_call 28; with_reducible refine (c1 _).mono ?_; rintro e w' ⟨rfl, rfl⟩)
  go_loopg [9, 10] 64 (fun g v9 v10 wr => ∃ i : Nat, v9 = .int .u64 ((setN u low n v / 2 ^ i : Nat) : Int) ∧ v10 = .int .i64 ((i : Int) - 1) ∧ i ≤ 64 ∧ i ≤ g ∧ wr = w')
  case atStart => exact ⟨64, by rw [R0.out]; rfl, rfl, by omega, by omega, rfl⟩
  case round =>
    obtain ⟨i, rfl, rfl, hi, hg, rfl⟩ := hrel
    match i, hi, hg with
    | i + 1, hi, hg =>
      have e1 : ((i + 1 : Nat) : Int) - 1 = i := by omega
      have h1 := half (setN u low n v) i
      rw [set_bit' u low n v i HU.out hl] at h1
      have q1 := and_one u i HU.out
      have q2 := and_one v (i - low) HV.out
      have l1 : setN u low n v / 2 ^ i < 18446744073709551616 := Nat.lt_of_le_of_lt (Nat.div_le_self _ _) L0.out
      have l2 : u / 2 ^ i % 2 < 2 := Nat.mod_lt _ (by decide)
      have l3 : v / 2 ^ (i - low) % 2 < 2 := Nat.mod_lt _ (by decide)
      rw [e1]
      obtain ⟨r, hr⟩ : ∃ r, r = setN u low n v / 2 ^ i := ⟨_, rfl⟩
      rw [← hr] at h1 l1
      have HR : Hid _ := hr
      clear hr e1
      generalize setN u low n v / 2 ^ (i + 1) = o at *
      generalize u / 2 ^ i % 2 = b at *
      generalize v / 2 ^ (i - low) % 2 = c at *
      have y1 : (o : Int) ≤ 9223372036854775807 := by split at h1 <;> omega
      have y2 : (b : Int) < 2 := by omega
      have y3 : (i : Int) < 64 := by omega
      have y4 : (c : Int) < 2 := by omega
      by_cases c1 : low ≤ i
      · by_cases c2 : i < low + n
        · rw [if_pos ⟨c1, c2⟩] at h1
          have H1 : Hid _ := h1
          have x1 : (low : Int) ≤ i := by omega
          have x2 : (i : Int) < low + n := by omega
          clear h1 l1 l2 l3 c1 c2
          go_wp2
          go_roundg i
          case measure => omega
          case rel => exact ⟨i, by rw [← HR.out, H1.out]; go_num, by go_num, by omega, by omega, rfl⟩
        · rw [if_neg (by omega)] at h1
          have H1 : Hid _ := h1
          have x1 : (low : Int) ≤ i := by omega
          have x2 : ¬ (i : Int) < low + n := by omega
          clear h1 l1 l2 l3 c1 c2
          go_wp2
          go_roundg i
          case measure => omega
          case rel => exact ⟨i, by rw [← HR.out, H1.out]; go_num, by go_num, by omega, by omega, rfl⟩
      · rw [if_neg (by omega)] at h1
        have H1 : Hid _ := h1
        have x1 : ¬ (low : Int) ≤ i := by omega
        clear h1 l1 l2 l3 c1
        go_wp2
        go_roundg i
        case measure => omega
        case rel => exact ⟨i, by rw [← HR.out, H1.out]; go_num, by go_num, by omega, by omega, rfl⟩
    | 0, hi, hg =>
      rw [Nat.pow_zero, Nat.div_one]
      go_wp2
      go_ret
      exact ⟨rfl, rfl⟩

theorem isF_not {low n : Int} (h : ¬ (0 ≤ low ∧ 1 ≤ n ∧ low + n ≤ 64)) : isF low n = false := decide_eq_false h
theorem inWord_not (low n : Int) (w : World) (h1 : -9223372036854775808 ≤ n) (h2 : n ≤ 9223372036854775807) (h : ¬ (0 ≤ low ∧ 1 ≤ n ∧ low + n ≤ 64)) :
    Calls Try.prog 26 #[.int .i64 low, .int .i64 n] w fun e w' => e = .returned (.bool false) ∧ w' = w := by
  have := inWord_any low n w h1 h2
  rwa [decide_eq_false h] at this

theorem field_not (u low n : Int) (w : World) (h1 : -9223372036854775808 ≤ n) (h2 : n ≤ 9223372036854775807) (h : ¬ (0 ≤ low ∧ 1 ≤ n ∧ low + n ≤ 64)) :
    Calls Try.prog 15 #[.int .u64 u, .int .i64 low, .int .i64 n] w fun e w' => e = .returned (.int .u64 0) ∧ w' = w := by
  have c1 := fun w => inWord_not low n w h1 h2 h
  clear h h1 h2
  go_enter Try.func15, Try.ntmps15
  go_wp2_with (go_at_call 26; with_reducible refine (c1 _).mono ?_; rintro e w' ⟨rfl, rfl⟩)
  go_ret
  exact ⟨rfl, rfl⟩
theorem set_not (u low n v : Int) (w : World) (h1 : -9223372036854775808 ≤ n) (h2 : n ≤ 9223372036854775807) (h : ¬ (0 ≤ low ∧ 1 ≤ n ∧ low + n ≤ 64)) :
    Calls Try.prog 17 #[.int .u64 u, .int .i64 low, .int .i64 n, .int .u64 v] w fun e w' => e = .returned (.int .u64 u) ∧ w' = w := by
  have c1 := fun w => inWord_not low n w h1 h2 h
  clear h h1 h2
  go_enter Try.func17, Try.ntmps17
  go_wp2_with (go_at_call 26; with_reducible refine (c1 _).mono ?_; rintro e w' ⟨rfl, rfl⟩)
  go_ret
  exact ⟨rfl, rfl⟩
theorem rfield_not (u low n : Int) (w : World) (h : ¬ (0 ≤ low ∧ 1 ≤ n ∧ low + n ≤ 64)) :
    Calls Try.prog 16 #[.int .u64 u, .int .i64 low, .int .i64 n] w fun e w' => e = .returned (.int .u64 0) ∧ w' = w := by
  have c1 := has_any low n
  rw [isF_not h] at c1
  clear h
  go_enter Try.func16, Try.ntmps16
  go_wp2_with (go_at_call 28; with_reducible refine (c1 _).mono ?_; rintro e w' ⟨rfl, rfl⟩)
  go_ret
  exact ⟨rfl, rfl⟩
theorem rset_not (u low n v : Int) (w : World) (h : ¬ (0 ≤ low ∧ 1 ≤ n ∧ low + n ≤ 64)) :
    Calls Try.prog 18 #[.int .u64 u, .int .i64 low, .int .i64 n, .int .u64 v] w fun e w' => e = .returned (.int .u64 u) ∧ w' = w := by
  have c1 := has_any low n
  rw [isF_not h] at c1
  clear h
  go_enter Try.func18, Try.ntmps18
  go_wp2_with (go_at_call 28; with_reducible refine (c1 _).mono ?_; rintro e w' ⟨rfl, rfl⟩)
  go_ret
  exact ⟨rfl, rfl⟩

end Go.Proofs.Ytddklpbddpjklaa
