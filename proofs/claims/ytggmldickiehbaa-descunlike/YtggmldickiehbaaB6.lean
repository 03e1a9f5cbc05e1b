/- Levels: indices and spans, the program's and the document's; no such bits. -/
import Derived.Test.YtggmldickiehbaaB1
namespace Go.Proofs.Ytggmldickiehbaa
open Go.RowKit

/-- How many bits an address's index of a level stands above the lowest. -/
def sh (level : Int) : Nat := 39 - 9 * level.toNat
def isLv (level : Int) : Bool := decide (0 ≤ level ∧ level ≤ 3)
def spn (level : Int) : Nat := if isLv level = true then 2 ^ sh level else 0
def idx (u : Nat) (level : Int) : Nat := if isLv level = true then fieldN u (sh level) 9 else 0
theorem field_lt (u low n : Nat) : fieldN u low n < 2 ^ n := Nat.mod_lt _ (Nat.two_pow_pos n)
theorem idx_lt (u : Nat) (level : Int) : idx u level < 512 := by
  unfold idx; split
  · exact field_lt _ _ _
  · decide

theorem isLevel_any (level : Int) (w : World) : Calls Try.prog 35 #[.int .i64 level] w fun e w' => e = .returned (.bool (isLv level)) ∧ w' = w := by
  by_cases c1 : 0 ≤ level
  · by_cases c2 : level ≤ 3
    · rw [show isLv level = true from decide_eq_true ⟨c1, c2⟩]
      go_enter Try.func35, Try.ntmps35
      go_wp2
      go_ret
      exact ⟨rfl, rfl⟩
    · rw [show isLv level = false from decide_eq_false (by omega)]
      go_enter Try.func35, Try.ntmps35
      go_wp2
      go_ret
      exact ⟨rfl, rfl⟩
  · rw [show isLv level = false from decide_eq_false (by omega)]
    go_enter Try.func35, Try.ntmps35
    go_wp2
    go_ret
    exact ⟨rfl, rfl⟩
theorem isLv_iff {level : Int} : isLv level = true ↔ 0 ≤ level ∧ level ≤ 3 := by unfold isLv; exact decide_eq_true_iff
theorem isLv_not {level : Int} (h : ¬ (0 ≤ level ∧ level ≤ 3)) : isLv level = false := decide_eq_false h

theorem lowBit_any (level : Int) (w : World) (h : 0 ≤ level ∧ level ≤ 3) : Calls Try.prog 36 #[.int .i64 level] w fun e w' => e = .returned (.int .i64 (sh level : Nat)) ∧ w' = w := by
  obtain ⟨h1, h2⟩ := h
  have e : (sh level : Int) = 12 + 9 * (3 - level) := by unfold sh; omega
  rw [e]
  go_enter Try.func36, Try.ntmps36
  go_wp2
  go_ret
  exact ⟨rfl, rfl⟩

theorem pow_sh (level : Int) : (2 : Nat) ^ sh level < 18446744073709551616 := by
  have : (2 : Nat) ^ sh level ≤ 2 ^ 39 := Nat.pow_le_pow_right (by decide) (by unfold sh; omega)
  exact Nat.lt_of_le_of_lt this (by decide)

theorem span_any (level : Int) (w : World) :
    Calls Try.prog 32 #[.int .i64 level] w fun e w' => e = .returned (.int .u64 (spn level : Nat)) ∧ w' = w := by
  have c1 := isLevel_any level
  by_cases c : 0 ≤ level ∧ level ≤ 3
  · have e : spn level = 2 ^ sh level := by unfold spn; rw [if_pos (isLv_iff.2 c)]
    rw [isLv_iff.2 c] at c1
    have c2 := fun w => lowBit_any level w c
    have l : (sh level : Int) ≤ 39 := by unfold sh; omega
    have q := shl_mod (c := 1) (low := sh level) (by rw [Nat.one_mul]; exact pow_sh level)
    have q2 : IntKind.u64.wrap (2 ^ sh level) = ((2 ^ sh level : Nat) : Int) := by
      rw [Nat.one_mul] at q
      rw [← q]; congr 1; simp
    rw [e]
    have q3 : (2 : Int) ^ sh level % 18446744073709551616 = ((2 ^ sh level : Nat) : Int) := by
      rw [← q2]; simp [IntKind.wrap, IntKind.bits, IntKind.signed]
    clear e c q
    generalize ((2 ^ sh level : Nat) : Int) = r at *
    generalize sh level = k at *
    go_enter Try.func32, Try.ntmps32
    go_wp2_with (first | (go_at_call 35; with_reducible refine (c1 _).mono ?_; rintro e w' ⟨rfl, rfl⟩) | (go_at_call 36; with_reducible refine (c2 _).mono ?_; rintro e w' ⟨rfl, rfl⟩))
    go_ret
    exact ⟨rfl, rfl⟩
  · have e : spn level = 0 := by unfold spn; rw [isLv_not c]; rfl
    rw [isLv_not c] at c1
    rw [e]
    clear e c
    go_enter Try.func32, Try.ntmps32
    go_wp2_with (go_at_call 35; with_reducible refine (c1 _).mono ?_; rintro e w' ⟨rfl, rfl⟩)
    go_ret
    exact ⟨rfl, rfl⟩

set_option maxHeartbeats 1000000 in
theorem rspan_any (level : Int) (w : World) :
    Calls Try.prog 18 #[.int .i64 level] w fun e w' => e = .returned (.int .u64 (spn level : Nat)) ∧ w' = w := by
  by_cases c0 : level = 0
  · subst c0
    rw [show ((spn 0 : Nat) : Int) = 549755813888 from by decide +kernel]
    go_enter Try.func18, Try.ntmps18
    go_wp2_with fail
    refine wp_loop_rounds 4 ?_
    rw [rounds_succ]; go_wp2
    rw [rounds_succ]; go_wp2
    rw [rounds_succ]; go_wp2
    rw [rounds_succ]; go_wp2
    go_ret
    exact ⟨rfl, rfl⟩
  by_cases c1 : level = 1
  · subst c1
    rw [show ((spn 1 : Nat) : Int) = 1073741824 from by decide +kernel]
    go_enter Try.func18, Try.ntmps18
    go_wp2_with fail
    refine wp_loop_rounds 4 ?_
    rw [rounds_succ]; go_wp2
    rw [rounds_succ]; go_wp2
    rw [rounds_succ]; go_wp2
    go_ret
    exact ⟨rfl, rfl⟩
  by_cases c2 : level = 2
  · subst c2
    rw [show ((spn 2 : Nat) : Int) = 2097152 from by decide +kernel]
    go_enter Try.func18, Try.ntmps18
    go_wp2_with fail
    refine wp_loop_rounds 4 ?_
    rw [rounds_succ]; go_wp2
    rw [rounds_succ]; go_wp2
    go_ret
    exact ⟨rfl, rfl⟩
  by_cases c3 : level = 3
  · subst c3
    rw [show ((spn 3 : Nat) : Int) = 4096 from by decide +kernel]
    go_enter Try.func18, Try.ntmps18
    go_wp2_with fail
    refine wp_loop_rounds 4 ?_
    rw [rounds_succ]; go_wp2
    go_ret
    exact ⟨rfl, rfl⟩
  have e : spn level = 0 := by unfold spn; rw [isLv_not (by omega)]; rfl
  rw [e]
  by_cases c : level < 0
  · go_enter Try.func18, Try.ntmps18
    go_wp2
    go_ret
    exact ⟨rfl, rfl⟩
  · have c' : 3 < level := by omega
    go_enter Try.func18, Try.ntmps18
    go_wp2
    go_ret
    exact ⟨rfl, rfl⟩

end Go.Proofs.Ytggmldickiehbaa
