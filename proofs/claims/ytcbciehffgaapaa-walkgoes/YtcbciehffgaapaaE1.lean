/- desc, the small ones: tops, places, kinds, units, bits asked and set; like structs. -/
import Derived.Test.YtcbciehffgaapaaB6
namespace Go.Proofs.Ytcbciehffgaapaa
open Go.RowKit

/-- What a stage's addresses are below. -/
def topS (s : Int) : Nat := if s = 1 then 1099511627776 else if s = 2 then 4294967296 else 0
theorem top_any (s : Int) (w : World) : Calls Try.prog 24 #[.int .i64 s] w fun e w' => e = .returned (.int .u64 (topS s : Nat)) ∧ w' = w := by
  by_cases c1 : s = 1
  · subst c1
    go_enter Try.func24, Try.ntmps24
    go_wp2
    go_ret
    exact ⟨rfl, rfl⟩
  by_cases c2 : s = 2
  · subst c2
    go_enter Try.func24, Try.ntmps24
    go_wp2
    go_ret
    exact ⟨rfl, rfl⟩
  rw [show topS s = 0 from by unfold topS; rw [if_neg c1, if_neg c2]]
  go_enter Try.func24, Try.ntmps24
  go_wp2
  go_ret
  exact ⟨rfl, rfl⟩
theorem rtop_any (s : Int) (w : World) : Calls Try.prog 32 #[.int .i64 s] w fun e w' => e = .returned (.int .u64 (topS s : Nat)) ∧ w' = w := by
  by_cases c1 : s = 1
  · subst c1
    go_enter Try.func32, Try.ntmps32
    go_wp2
    go_ret
    exact ⟨rfl, rfl⟩
  by_cases c2 : s = 2
  · subst c2
    go_enter Try.func32, Try.ntmps32
    go_wp2
    go_ret
    exact ⟨rfl, rfl⟩
  rw [show topS s = 0 from by unfold topS; rw [if_neg c1, if_neg c2]]
  go_enter Try.func32, Try.ntmps32
  go_wp2
  go_ret
  exact ⟨rfl, rfl⟩

/-- Are there tables of the stage and the level? -/
def isPl (s l : Int) : Bool := decide (1 ≤ s ∧ s ≤ 2 ∧ 0 ≤ l ∧ l ≤ 3)
theorem isPl_iff {s l : Int} : isPl s l = true ↔ 1 ≤ s ∧ s ≤ 2 ∧ 0 ≤ l ∧ l ≤ 3 := by unfold isPl; exact decide_eq_true_iff
theorem isPl_not {s l : Int} (h : ¬ (1 ≤ s ∧ s ≤ 2 ∧ 0 ≤ l ∧ l ≤ 3)) : isPl s l = false := decide_eq_false h
theorem isPlace_any (s l : Int) (w : World) : Calls Try.prog 41 #[.int .i64 s, .int .i64 l] w fun e w' => e = .returned (.bool (isPl s l)) ∧ w' = w := by
  by_cases c1 : 1 ≤ s
  · by_cases c2 : s ≤ 2
    · by_cases c3 : 0 ≤ l
      · by_cases c4 : l ≤ 3
        · rw [isPl_iff.2 ⟨c1, c2, c3, c4⟩]
          go_enter Try.func41, Try.ntmps41
          go_wp2
          go_ret
          exact ⟨rfl, rfl⟩
        · rw [isPl_not (by omega)]
          go_enter Try.func41, Try.ntmps41
          go_wp2
          go_ret
          exact ⟨rfl, rfl⟩
      · rw [isPl_not (by omega)]
        go_enter Try.func41, Try.ntmps41
        go_wp2
        go_ret
        exact ⟨rfl, rfl⟩
    · rw [isPl_not (by omega)]
      go_enter Try.func41, Try.ntmps41
      go_wp2
      go_ret
      exact ⟨rfl, rfl⟩
  · rw [isPl_not (by omega)]
    go_enter Try.func41, Try.ntmps41
    go_wp2
    go_ret
    exact ⟨rfl, rfl⟩

def isKd (k : Int) : Bool := decide (0 ≤ k ∧ k ≤ 3)
/-- What an address of the kind at the level is a multiple of. -/
def unitN (l k : Int) : Nat := if k = 2 then spn l else 4096
theorem unit_any (l k : Int) (w : World) : Calls Try.prog 46 #[.int .i64 l, .int .i64 k] w fun e w' => e = .returned (.int .u64 (unitN l k : Nat)) ∧ w' = w := by
  have c1 := span_any l
  by_cases c : k = 2
  · subst c
    rw [show unitN l 2 = spn l from by unfold unitN; rw [if_pos rfl]]
    generalize spn l = r at *
    go_enter Try.func46, Try.ntmps46
    go_wp2_with (go_at_call 48; with_reducible refine (c1 _).mono ?_; rintro e w' ⟨rfl, rfl⟩)
    go_ret
    exact ⟨rfl, rfl⟩
  · rw [show unitN l k = 4096 from by unfold unitN; rw [if_neg c]]
    go_enter Try.func46, Try.ntmps46
    go_wp2
    go_ret
    exact ⟨rfl, rfl⟩

/-- The bit of a word. -/
def btN (u i : Nat) : Bool := decide (fieldN u i 1 = 1)
theorem hasBit_any (u i : Nat) (w : World) (hu : u < 18446744073709551616) (hi : i < 64) :
    Calls Try.prog 42 #[.int .u64 (u : Int), .int .i64 (i : Int)] w fun e w' => e = .returned (.bool (btN u i)) ∧ Dr w w' := by
  have c1 : ∀ w, Calls Try.prog 38 #[.int .u64 (u : Int), .int .i64 (i : Int), .int .i64 1] w fun e w' => e = .returned (.int .u64 (fieldN u i 1 : Nat)) ∧ Dr w w' := fun w => field_any u i 1 w hu (by decide) (by omega)
  unfold btN
  clear hu hi
  generalize fieldN u i 1 = r at *
  by_cases c : r = 1
  · rw [decide_eq_true c]
    subst c
    go_enter Try.func42, Try.ntmps42
    go_wp2_with fail
    with_reducible refine (c1 _).mono ?_
    rintro e w1 ⟨rfl, D⟩
    have HD : Hid _ := D
    clear D
    go_wp2
    go_ret
    exact ⟨rfl, HD.out⟩
  · rw [decide_eq_false c]
    have c2 : ((r : Int) == 1) = false := by rw [beq_eq_false_iff_ne]; omega
    go_enter Try.func42, Try.ntmps42
    go_wp2_with fail
    with_reducible refine (c1 _).mono ?_
    rintro e w1 ⟨rfl, D⟩
    have HD : Hid _ := D
    clear D
    go_wp2
    go_ret
    exact ⟨rfl, HD.out⟩

/-- Is one of the n bits from i on set? -/
def bsN (u i n : Nat) : Bool := decide (fieldN u i n ≠ 0)
theorem hasBits_any (u i n m : Nat) (w : World) (hu : u < 18446744073709551616) (hn : 1 ≤ n) (hm : i + n = m) (hi : m ≤ 64) :
    Calls Try.prog 44 #[.int .u64 (u : Int), .int .i64 (i : Int), .int .i64 (m : Int)] w fun e w' => e = .returned (.bool (bsN u i n)) ∧ Dr w w' := by
  have c1 := fun w => field_any u i n w hu hn (by omega)
  have z : (m : Int) - i = n := by omega
  have z2 : (m : Int) ≤ 64 := by omega
  unfold bsN
  clear hu
  generalize fieldN u i n = r at *
  by_cases c : r = 0
  · rw [decide_eq_false (by omega)]
    subst c
    go_enter Try.func44, Try.ntmps44
    go_wp2_with fail
    with_reducible refine (c1 _).mono ?_
    rintro e w1 ⟨rfl, D⟩
    have HD : Hid _ := D
    clear D
    go_wp2
    go_ret
    exact ⟨rfl, HD.out⟩
  · rw [decide_eq_true c]
    have c2 : ((r : Int) != 0) = true := by rw [bne_iff_ne]; omega
    go_enter Try.func44, Try.ntmps44
    go_wp2_with fail
    with_reducible refine (c1 _).mono ?_
    rintro e w1 ⟨rfl, D⟩
    have HD : Hid _ := D
    clear D
    go_wp2
    go_ret
    exact ⟨rfl, HD.out⟩

/-- A truth as a number. -/
def oneN (b : Bool) : Nat := if b = true then 1 else 0
/-- The kind that a word says at a level. -/
def kdN (l : Int) (u : Nat) : Int := if btN u 1 = false then 2 else if l = 3 then 3 else 1
theorem kindOf_any (l : Int) (u : Nat) (w : World) (hu : u < 18446744073709551616) :
    Calls Try.prog 51 #[.int .i64 l, .int .u64 (u : Int)] w fun e w' => e = .returned (.int .i64 (kdN l u)) ∧ Dr w w' := by
  have c1 : ∀ w, Calls Try.prog 42 #[.int .u64 (u : Int), .int .i64 1] w fun e w' => e = .returned (.bool (btN u 1)) ∧ Dr w w' := fun w => hasBit_any u 1 w hu (by decide)
  unfold kdN
  clear hu
  generalize btN u 1 = b at *
  cases b
  · rw [if_pos rfl]
    go_enter Try.func51, Try.ntmps51
    go_wp2_with fail
    with_reducible refine (c1 _).mono ?_
    rintro e w1 ⟨rfl, D⟩
    have HD : Hid _ := D
    clear D
    go_wp2
    go_ret
    exact ⟨rfl, HD.out⟩
  · rw [if_neg (by decide)]
    by_cases c : l = 3
    · subst c
      rw [if_pos rfl]
      go_enter Try.func51, Try.ntmps51
      go_wp2_with fail
      with_reducible refine (c1 _).mono ?_
      rintro e w1 ⟨rfl, D⟩
      have HD : Hid _ := D
      clear D
      go_wp2
      go_ret
      exact ⟨rfl, HD.out⟩
    · rw [if_neg c]
      go_enter Try.func51, Try.ntmps51
      go_wp2_with fail
      with_reducible refine (c1 _).mono ?_
      rintro e w1 ⟨rfl, D⟩
      have HD : Hid _ := D
      clear D
      go_wp2
      go_ret
      exact ⟨rfl, HD.out⟩

end Go.Proofs.Ytcbciehffgaapaa
