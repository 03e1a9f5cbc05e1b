/- Levels: indices and spans, the program's and the document's; no such bits. -/
import Derived.Test.YtcbciehffgaapaaB1
namespace Go.Proofs.Ytcbciehffgaapaa
open Go.RowKit

/-- How many bits an address's index of a level stands above the lowest. -/
def sh (level : Int) : Nat := 39 - 9 * level.toNat
def isLv (level : Int) : Bool := decide (0 ≤ level ∧ level ≤ 3)
def spn (level : Int) : Nat := if isLv level = true then 2 ^ sh level else 0
def idx (u : Nat) (level : Int) : Nat := if isLv level = true then fieldN u (sh level) 9 else 0
theorem field_lt (u low n : Nat) : fieldN u low n < 2 ^ n := Nat.mod_lt _ (Nat.two_pow_pos n)
theorem idx_lt (u : Nat) (level : Int) : idx u level < 512 := by
  unfold idx; split
  · exact field_lt _ _ _
  · decide

theorem isLevel_any (level : Int) (w : World) : Calls Try.prog 37 #[.int .i64 level] w fun e w' => e = .returned (.bool (isLv level)) ∧ w' = w := by
  by_cases c1 : 0 ≤ level
  · by_cases c2 : level ≤ 3
    · rw [show isLv level = true from decide_eq_true ⟨c1, c2⟩]
      go_enter Try.func37, Try.ntmps37
      go_wp2
      go_ret
      exact ⟨rfl, rfl⟩
    · rw [show isLv level = false from decide_eq_false (by omega)]
      go_enter Try.func37, Try.ntmps37
      go_wp2
      go_ret
      exact ⟨rfl, rfl⟩
  · rw [show isLv level = false from decide_eq_false (by omega)]
    go_enter Try.func37, Try.ntmps37
    go_wp2
    go_ret
    exact ⟨rfl, rfl⟩
theorem isLv_iff {level : Int} : isLv level = true ↔ 0 ≤ level ∧ level ≤ 3 := by unfold isLv; exact decide_eq_true_iff
theorem isLv_not {level : Int} (h : ¬ (0 ≤ level ∧ level ≤ 3)) : isLv level = false := decide_eq_false h

theorem lowBit_any (level : Int) (w : World) (h : 0 ≤ level ∧ level ≤ 3) : Calls Try.prog 39 #[.int .i64 level] w fun e w' => e = .returned (.int .i64 (sh level : Nat)) ∧ w' = w := by
  obtain ⟨h1, h2⟩ := h
  have e : (sh level : Int) = 12 + 9 * (3 - level) := by unfold sh; omega
  rw [e]
  go_enter Try.func39, Try.ntmps39
  go_wp2
  go_ret
  exact ⟨rfl, rfl⟩

theorem index_any (u : Nat) (level : Int) (w : World) (hu : u < 18446744073709551616) :
    Calls Try.prog 25 #[.int .u64 (u : Int), .int .i64 level] w fun e w' => e = .returned (.int .i64 (idx u level : Nat)) ∧ Dr w w' := by
  have c1 := isLevel_any level
  by_cases c : 0 ≤ level ∧ level ≤ 3
  · have e : idx u level = fieldN u (sh level) 9 := by unfold idx; rw [if_pos (isLv_iff.2 c)]
    rw [isLv_iff.2 c] at c1
    have c2 := fun w => lowBit_any level w c
    have c3 : ∀ w, Calls Try.prog 38 #[.int .u64 (u : Int), .int .i64 (sh level : Nat), .int .i64 9] w fun e w' => e = .returned (.int .u64 (fieldN u (sh level) 9 : Nat)) ∧ Dr w w' := fun w => field_any u (sh level) 9 w hu (by decide) (by unfold sh; omega)
    have l := field_lt u (sh level) 9
    rw [e]
    clear e c
    generalize fieldN u (sh level) 9 = r at *
    generalize sh level = k at *
    have l2 : (r : Int) < 512 := by omega
    go_enter Try.func25, Try.ntmps25
    go_wp2_with (first | (go_at_call 37; with_reducible refine (c1 _).mono ?_; rintro e w' ⟨rfl, rfl⟩) | (go_at_call 39; with_reducible refine (c2 _).mono ?_; rintro e w' ⟨rfl, rfl⟩))
    with_reducible refine (c3 _).mono ?_
    rintro e w1 ⟨rfl, D⟩
    have HD : Hid _ := D
    clear D
    go_wp2
    go_ret
    exact ⟨rfl, HD.out⟩
  · have e : idx u level = 0 := by unfold idx; rw [isLv_not c]; rfl
    rw [isLv_not c] at c1
    rw [e]
    clear e c
    go_enter Try.func25, Try.ntmps25
    go_wp2_with (go_at_call 37; with_reducible refine (c1 _).mono ?_; rintro e w' ⟨rfl, rfl⟩)
    go_ret
    exact ⟨rfl, Dr.refl _⟩

theorem pow_sh (level : Int) : (2 : Nat) ^ sh level < 18446744073709551616 := by
  have : (2 : Nat) ^ sh level ≤ 2 ^ 39 := Nat.pow_le_pow_right (by decide) (by unfold sh; omega)
  exact Nat.lt_of_le_of_lt this (by decide)

theorem span_any (level : Int) (w : World) :
    Calls Try.prog 48 #[.int .i64 level] w fun e w' => e = .returned (.int .u64 (spn level : Nat)) ∧ w' = w := by
  have c1 := isLevel_any level
  by_cases c : 0 ≤ level ∧ level ≤ 3
  · have e : spn level = 2 ^ sh level := by unfold spn; rw [if_pos (isLv_iff.2 c)]
    rw [isLv_iff.2 c] at c1
    have c2 := fun w => lowBit_any level w c
    have l : (sh level : Int) ≤ 39 := by unfold sh; omega
    have q := shl_mod (c := 1) (low := sh level) (by rw [Nat.one_mul]; exact pow_sh level)
    have q2 : IntKind.u64.wrap (2 ^ sh level) = ((2 ^ sh level : Nat) : Int) := by
      rw [Nat.one_mul] at q
      rw [← q]; congr 1; simp
    rw [e]
    have q3 : (2 : Int) ^ sh level % 18446744073709551616 = ((2 ^ sh level : Nat) : Int) := by
      rw [← q2]; simp [IntKind.wrap, IntKind.bits, IntKind.signed]
    clear e c q
    generalize ((2 ^ sh level : Nat) : Int) = r at *
    generalize sh level = k at *
    go_enter Try.func48, Try.ntmps48
    go_wp2_with (first | (go_at_call 37; with_reducible refine (c1 _).mono ?_; rintro e w' ⟨rfl, rfl⟩) | (go_at_call 39; with_reducible refine (c2 _).mono ?_; rintro e w' ⟨rfl, rfl⟩))
    go_ret
    exact ⟨rfl, rfl⟩
  · have e : spn level = 0 := by unfold spn; rw [isLv_not c]; rfl
    rw [isLv_not c] at c1
    rw [e]
    clear e c
    go_enter Try.func48, Try.ntmps48
    go_wp2_with (go_at_call 37; with_reducible refine (c1 _).mono ?_; rintro e w' ⟨rfl, rfl⟩)
    go_ret
    exact ⟨rfl, rfl⟩

set_option maxHeartbeats 1000000 in
theorem rspan_any (level : Int) (w : World) :
    Calls Try.prog 33 #[.int .i64 level] w fun e w' => e = .returned (.int .u64 (spn level : Nat)) ∧ w' = w := by
  by_cases c0 : level = 0
  · subst c0
    rw [show ((spn 0 : Nat) : Int) = 549755813888 from by decide +kernel]
    go_enter Try.func33, Try.ntmps33
    go_wp2_with fail
    refine wp_loop_rounds 4 ?_
    rw [rounds_succ]; go_wp2
    rw [rounds_succ]; go_wp2
    rw [rounds_succ]; go_wp2
    rw [rounds_succ]; go_wp2
    go_ret
    exact ⟨rfl, rfl⟩
  by_cases c1 : level = 1
  · subst c1
    rw [show ((spn 1 : Nat) : Int) = 1073741824 from by decide +kernel]
    go_enter Try.func33, Try.ntmps33
    go_wp2_with fail
    refine wp_loop_rounds 4 ?_
    rw [rounds_succ]; go_wp2
    rw [rounds_succ]; go_wp2
    rw [rounds_succ]; go_wp2
    go_ret
    exact ⟨rfl, rfl⟩
  by_cases c2 : level = 2
  · subst c2
    rw [show ((spn 2 : Nat) : Int) = 2097152 from by decide +kernel]
    go_enter Try.func33, Try.ntmps33
    go_wp2_with fail
    refine wp_loop_rounds 4 ?_
    rw [rounds_succ]; go_wp2
    rw [rounds_succ]; go_wp2
    go_ret
    exact ⟨rfl, rfl⟩
  by_cases c3 : level = 3
  · subst c3
    rw [show ((spn 3 : Nat) : Int) = 4096 from by decide +kernel]
    go_enter Try.func33, Try.ntmps33
    go_wp2_with fail
    refine wp_loop_rounds 4 ?_
    rw [rounds_succ]; go_wp2
    go_ret
    exact ⟨rfl, rfl⟩
  have e : spn level = 0 := by unfold spn; rw [isLv_not (by omega)]; rfl
  rw [e]
  by_cases c : level < 0
  · go_enter Try.func33, Try.ntmps33
    go_wp2
    go_ret
    exact ⟨rfl, rfl⟩
  · have c' : 3 < level := by omega
    go_enter Try.func33, Try.ntmps33
    go_wp2
    go_ret
    exact ⟨rfl, rfl⟩

set_option maxHeartbeats 1000000 in
set_option maxRecDepth 10000 in
theorem rindex_any (u : Nat) (level : Int) (w : World) (hu : u < 18446744073709551616) :
    Calls Try.prog 29 #[.int .u64 (u : Int), .int .i64 level] w fun e w' => e = .returned (.int .i64 (idx u level : Nat)) ∧ w' = w := by
  have c1 := rspan_any level
  by_cases c : 0 ≤ level ∧ level ≤ 3
  · have e : idx u level = u / spn level % 512 := by unfold idx spn; rw [if_pos (isLv_iff.2 c), if_pos (isLv_iff.2 c)]; rfl
    have p : 0 < spn level := by unfold spn; rw [if_pos (isLv_iff.2 c)]; exact Nat.two_pow_pos _
    have p1 : ¬ ((spn level : Nat) : Int) = 0 := by omega
    have p2 : (0 : Int) < spn level := by omega
    have q : (u : Int) / (spn level : Nat) % 512 = (idx u level : Nat) := by rw [e]; simp
    have l := idx_lt u level
    have l1 : u / spn level < 18446744073709551616 := Nat.lt_of_le_of_lt (Nat.div_le_self _ _) hu
    have q1 : (u : Int) / (spn level : Nat) = ((u / spn level : Nat) : Int) := by simp
    rw [q1] at q
    clear e c p
    generalize spn level = s at *
    generalize idx u level = r at *
    generalize u / s = d at *
    have l2 : (r : Int) < 512 := by omega
    have l3 : (d : Int) < 18446744073709551616 := by omega
    have l4 : (u : Int) < 18446744073709551616 := by omega
    have F : Hid (wrap64 ((IntKind.u64.wrap (d : Int)).tmod 512) = r) := by
      have e1 : IntKind.u64.wrap (d : Int) = d := by simp [IntKind.wrap, IntKind.bits, IntKind.signed]; omega
      show wrap64 ((IntKind.u64.wrap (d : Int)).tmod 512) = r
      rw [e1, Int.tmod_eq_emod_of_nonneg (by omega), q]
      unfold wrap64; omega
    clear hu l1 l l3 l4 q l2
    go_enter Try.func29, Try.ntmps29
    go_wp2_with (go_at_call 33; with_reducible refine (c1 _).mono ?_; rintro e w' ⟨rfl, rfl⟩)
    go_ret
    exact ⟨congrArg (fun z => Ending.returned (Value.int .i64 z)) F.out, rfl⟩
  · have e : idx u level = 0 := by unfold idx; rw [isLv_not c]; rfl
    have e2 : spn level = 0 := by unfold spn; rw [isLv_not c]; rfl
    rw [e2] at c1
    rw [e]
    go_enter Try.func29, Try.ntmps29
    go_wp2_with (go_at_call 33; with_reducible refine (c1 _).mono ?_; rintro e w' ⟨rfl, rfl⟩)
    go_ret
    exact ⟨rfl, rfl⟩

end Go.Proofs.Ytcbciehffgaapaa
