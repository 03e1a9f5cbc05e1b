/- dirty: bits of words. -/
import Derived.Test.YthkkcnnlfjchaaaDoorL1
namespace Go.Proofs.YthkkcnnlfjchaaaDoor
open Go.RowKit Go.Maps

/-- The words W have the page p. -/
def hasW (W : Nat → Nat) (p : Nat) : Bool := (W (p / 64)).testBit (p % 64)
theorem pow_lt64 {b : Nat} (h : b < 64) : 2 ^ b < 18446744073709551616 := Nat.pow_lt_pow_right (by decide) h (a := 2) (n := 64)
theorem wrap_w64 {x : Nat} (h : x < 18446744073709551616) : IntKind.u64.wrap (x : Int) = (x : Int) := by
  rw [IntKind.wrap_u64]
  omega
set_option maxHeartbeats 1000000 in
theorem bit_any (p : Nat) (hp : p < 18446744073709551616) (w : World) :
    Calls Tryd.prog 22 #[.int .u64 (p : Int)] w fun e w' => e = .returned (.int .u64 ((2 ^ (p % 64) : Nat) : Int)) ∧ w' = w := by
  obtain ⟨b, hb⟩ : ∃ b, b = p % 64 := ⟨_, rfl⟩
  have hl : b < 64 := by omega
  have a3 : (p : Int).tmod 64 = (b : Int) := by
    rw [Int.tmod_eq_emod_of_nonneg (by omega)]
    omega
  have a1 : IntKind.u64.wrap ((p : Int).tmod 64) = (b : Int) := by
    rw [a3, IntKind.wrap_u64]
    omega
  have hq := pow_lt64 hl
  have a2 : IntKind.u64.wrap (2 ^ b) = ((2 ^ b : Nat) : Int) := by
    rw [show ((2 : Int) ^ b) = ((2 ^ b : Nat) : Int) from (Int.natCast_pow 2 b).symm]
    exact wrap_w64 hq
  rw [← hb]
  obtain ⟨q, hq2⟩ : ∃ q, q = 2 ^ b := ⟨_, rfl⟩
  rw [← hq2] at a2 hq ⊢
  clear hb hq2
  go_enter Tryd.func22, Tryd.ntmps22
  go_wp2_with fail
  go_ret
  exact ⟨rfl, rfl⟩

/-! ### words with a page more, with a page less -/
def addB (W : Nat → Nat) (x : Nat) : Nat → Nat := setW W (x / 64) (W (x / 64) ||| 2 ^ (x % 64))
def delB (W : Nat → Nat) (x : Nat) : Nat → Nat := setW W (x / 64) (W (x / 64) &&& (18446744073709551615 - 2 ^ (x % 64)))
theorem low_all (i : Nat) : Nat.testBit 18446744073709551615 i = decide (i < 64) := by
  have := Nat.testBit_two_pow_sub_one 64 i
  exact this
theorem low_but {b : Nat} (h : b < 64) (i : Nat) : Nat.testBit (18446744073709551615 - 2 ^ b) i = (decide (i < 64) && !decide (i = b)) := by
  have e : 18446744073709551615 - 2 ^ b = 2 ^ 64 - (2 ^ b + 1) := by omega
  rw [e, Nat.testBit_two_pow_sub_succ (pow_lt64 h), Nat.testBit_two_pow]
  congr 2
  exact decide_eq_decide.2 eq_comm
theorem split64 {x y : Nat} (h1 : x / 64 = y / 64) (h2 : x % 64 = y % 64) : x = y := by omega
theorem hasW_add (W : Nat → Nat) (x y : Nat) : hasW (addB W x) y = (decide (y = x) || hasW W y) := by
  unfold hasW addB
  by_cases e : y / 64 = x / 64
  · rw [e, setW_same, Nat.testBit_or, Nat.testBit_two_pow]
    by_cases c : x % 64 = y % 64
    · rw [decide_eq_true c, decide_eq_true (split64 e c.symm)]; simp
    · rw [decide_eq_false c, decide_eq_false (fun q : y = x => c (by rw [q]))]; simp
  · rw [setW_other _ _ e, decide_eq_false (fun q : y = x => e (by rw [q]))]; rfl
theorem hasW_del (W : Nat → Nat) (x y : Nat) : hasW (delB W x) y = (hasW W y && !decide (y = x)) := by
  unfold hasW delB
  by_cases e : y / 64 = x / 64
  · rw [e, setW_same, Nat.testBit_and, low_but (Nat.mod_lt x (by omega)), decide_eq_true (Nat.mod_lt y (by omega : 64 > 0))]
    by_cases c : y % 64 = x % 64
    · rw [decide_eq_true c, decide_eq_true (split64 e c)]; simp
    · rw [decide_eq_false c, decide_eq_false (fun q : y = x => c (by rw [q]))]; simp
  · rw [setW_other _ _ e, decide_eq_false (fun q : y = x => e (by rw [q]))]; simp
theorem and_bit (v b : Nat) : v &&& 2 ^ b = if v.testBit b then 2 ^ b else 0 := by
  apply Nat.eq_of_testBit_eq
  intro i
  rw [Nat.testBit_and, Nat.testBit_two_pow]
  by_cases c : b = i
  · subst c
    cases v.testBit b <;> simp
  · rw [decide_eq_false c]
    cases v.testBit b <;> simp [c]
theorem hasW_and (W : Nat → Nat) (x : Nat) : (W (x / 64) &&& 2 ^ (x % 64) ≠ 0) ↔ hasW W x = true := by
  unfold hasW
  rw [and_bit]
  cases (W (x / 64)).testBit (x % 64)
  · simp
  · have := Nat.two_pow_pos (x % 64)
    simp
theorem addB_same {W : Nat → Nat} {x : Nat} (h : hasW W x = true) : addB W x = W := by
  funext k
  unfold addB
  by_cases e : k = x / 64
  · subst e
    rw [setW_same]
    apply Nat.eq_of_testBit_eq
    intro i
    rw [Nat.testBit_or, Nat.testBit_two_pow]
    by_cases c : x % 64 = i
    · subst c
      rw [show (W (x / 64)).testBit (x % 64) = true from h]; rfl
    · rw [decide_eq_false c]; simp
  · rw [setW_other _ _ e]
theorem delB_same {W : Nat → Nat} (hl : ∀ k, W k < 18446744073709551616) {x : Nat} (h : hasW W x = false) : delB W x = W := by
  funext k
  unfold delB
  by_cases e : k = x / 64
  · subst e
    rw [setW_same]
    apply Nat.eq_of_testBit_eq
    intro i
    rw [Nat.testBit_and, low_but (Nat.mod_lt x (by omega))]
    by_cases c : i = x % 64
    · subst c
      rw [show (W (x / 64)).testBit (x % 64) = false from h]; rfl
    · by_cases d : i < 64
      · rw [decide_eq_false c, decide_eq_true d]; simp
      · rw [Nat.testBit_lt_two_pow (Nat.lt_of_lt_of_le (hl _) (Nat.pow_le_pow_right (n := 2) (by decide) (show 64 ≤ i by omega)))]; simp
  · rw [setW_other _ _ e]
theorem setW_low {W : Nat → Nat} (hl : ∀ k, W k < 18446744073709551616) {x v : Nat} (hv : v < 18446744073709551616) : ∀ k, setW W x v k < 18446744073709551616 := fun k => by
  unfold setW
  split
  · exact hv
  · exact hl k
theorem or_lt64 {a b : Nat} (ha : a < 18446744073709551616) (hb : b < 18446744073709551616) : a ||| b < 18446744073709551616 := Nat.or_lt_two_pow (n := 64) ha hb
theorem bit_lt64 (x : Nat) : 2 ^ (x % 64) < 18446744073709551616 := pow_lt64 (b := x % 64) (Nat.mod_lt x (by decide))
theorem addB_low {W : Nat → Nat} (hl : ∀ k, W k < 18446744073709551616) (x : Nat) : ∀ k, addB W x k < 18446744073709551616 := setW_low hl (or_lt64 (hl _) (bit_lt64 x))
theorem delB_low {W : Nat → Nat} (hl : ∀ k, W k < 18446744073709551616) (x : Nat) : ∀ k, delB W x k < 18446744073709551616 := setW_low hl (Nat.lt_of_le_of_lt Nat.and_le_left (hl _))
theorem or_ne (a : Nat) (b : Nat) : a ||| 2 ^ b ≠ 0 := fun e => by
  have h : (a ||| 2 ^ b).testBit b = true := by rw [Nat.testBit_or, Nat.testBit_two_pow]; simp
  rw [e] at h
  simp at h

end Go.Proofs.YthkkcnnlfjchaaaDoor
