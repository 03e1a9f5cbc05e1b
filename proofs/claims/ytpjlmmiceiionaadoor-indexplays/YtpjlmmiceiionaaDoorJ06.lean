/- Joined: W1, W2. -/
import Derived.Test.YtpjlmmiceiionaaDoorRows
import Derived.Test.YtpjlmmiceiionaaDoorFloat
import Derived.WalkKit
import Derived.WalkSpells
import Derived.WalkLawsBesides
import Derived.Laws.BitsAllLaws
/- The walks of the small functions: Abs, Trunc, isWholeUpTo, plainZero. -/
namespace Go.Proofs.YtpjlmmiceiionaaDoor
open Go.RowKit

theorem bits_run (a : Nat) (w : World) : (callFunc 92 #[.float .f64 a]).run Tryd.prog w = .ok (.value (.int .u64 a)) w := by kernel_rfl
theorem frombits_run (n : Int) (w : World) : (callFunc 91 #[.int .u64 n]).run Tryd.prog w = .ok (.value (.float .f64 n.toNat)) w := by kernel_rfl
theorem arch_run (a : Nat) (w : World) (x : Int) (h : FI a x) : (callFunc 93 #[.float .f64 a]).run Tryd.prog w = .ok (.value (.float .f64 (Ieee.double.write ((Ieee.double.read a).integral .zero)))) w := by
  obtain ⟨_, s, e, hr, _, _⟩ := h
  rw [run_callFunc_extern (f := 93) (fn := Tryd.f93) (e := Extern.MathFloor.toIntegral "math.archTrunc" .zero) (by kernel_rfl) (by kernel_rfl) (by kernel_rfl) (by kernel_rfl) (by kernel_rfl)]
  have hd : FloatKind.f64.decode a = Ieee.double.read a := rfl
  conv => lhs; arg 1; arg 2; whnf
  rw [hd, hr]
  rfl

theorem andNot_abs (a : Nat) (h : a < 18446744073709551616) : (bits .andNot .u64 (a : Int) 9223372036854775808).toNat = a % 9223372036854775808 := by
  have h1 := u64_andNot_nat a 9223372036854775808 h (by decide)
  have h2 : ((9223372036854775808 : Nat) : Int) = 9223372036854775808 := rfl
  rw [h2] at h1
  rw [h1, Int.toNat_natCast]
  have e1 : (18446744073709551615 - 9223372036854775808 : Nat) = 2 ^ 63 - 1 := by decide
  have e2 : (9223372036854775808 : Nat) = 2 ^ 63 := by decide
  rw [e1, e2, Nat.and_two_pow_sub_one_eq_mod]

set_option maxHeartbeats 400000 in
theorem abs_any (a : Nat) (w : World) (h : a < 18446744073709551616) :
    Calls Tryd.prog 87 #[.float .f64 a] w fun e w' => e = .returned (.float .f64 (a % 9223372036854775808)) ∧ w' = w := by
  have hb := bits_run a
  have hf := frombits_run
  go_enter Tryd.func87, Tryd.ntmps87
  go_wp2
  go_ret
  exact ⟨by rw [andNot_abs a h]; rfl, rfl⟩

set_option maxHeartbeats 400000 in
theorem trunc_any (a : Nat) (w : World) (x : Int) (h : FI a x) :
    Calls Tryd.prog 88 #[.float .f64 a] w fun e w' => e = .returned (.float .f64 (Ieee.double.write ((Ieee.double.read a).integral .zero))) ∧ w' = w := by
  have hb := fun w => arch_run a w x h
  go_enter Tryd.func88, Tryd.ntmps88
  go_wp2
  go_ret
  exact ⟨rfl, rfl⟩

/-- A part that is -0 as 0. -/
def pz (x : Int) (a : Nat) : Nat := if x = 0 then 0 else a
theorem FI_pz {a : Nat} {x : Int} (h : FI a x) : FI (pz x a) x := by
  unfold pz; split
  · rename_i e; rw [e]; exact FI_zero
  · exact h
theorem pz_zero (a : Nat) : pz 0 a = 0 := rfl
theorem pz_zero' {x : Int} (h : x = 0) (a : Nat) : pz x a = 0 := if_pos h
theorem pz_other {x : Int} (h : ¬ x = 0) (a : Nat) : pz x a = a := if_neg h

set_option maxHeartbeats 400000 in
theorem plainZero_any (a : Nat) (w : World) (x : Int) (h : FI a x) :
    Calls Tryd.prog 80 #[.float .f64 a] w fun e w' => e = .returned (.float .f64 (pz x a)) ∧ w' = w := by
  have h0 := ord_eq h FI_zero
  by_cases hx : x = 0
  · rw [pz_zero' hx]
    rw [decide_eq_true hx] at h0
    go_enter Tryd.func80, Tryd.ntmps80
    go_wp2
    go_ret
    exact ⟨rfl, rfl⟩
  · rw [pz_other hx]
    rw [decide_eq_false hx] at h0
    go_enter Tryd.func80, Tryd.ntmps80
    go_wp2
    go_ret
    exact ⟨rfl, rfl⟩

set_option maxHeartbeats 400000 in
theorem upTo_any (a m : Nat) (w : World) (x k : Int) (h : FI a x) (hm : FI m k) (hx : x.natAbs < 9007199254740992) :
    Calls Tryd.prog 79 #[.float .f64 a, .float .f64 m] w fun e w' => e = .returned (.bool (decide ((x.natAbs : Int) ≤ k))) ∧ w' = w := by
  have h1 := ord_le (FI_abs h) hm
  have h2 := ord_eq (FI_trunc h hx) h
  have hlt := h.1
  simp only [decide_true] at h2
  by_cases hc : (x.natAbs : Int) ≤ k
  · rw [decide_eq_true hc] at h1 ⊢
    clear hc
    go_enter Tryd.func79, Tryd.ntmps79
    go_wp2_with (first | (go_at_call 87; refine (abs_any _ _ hlt).mono ?_; rintro e w' ⟨rfl, rfl⟩) | (go_at_call 88; refine (trunc_any _ _ x h).mono ?_; rintro e w' ⟨rfl, rfl⟩))
    go_ret
    exact ⟨rfl, rfl⟩
  · rw [decide_eq_false hc] at h1 ⊢
    clear hc
    go_enter Tryd.func79, Tryd.ntmps79
    go_wp2_with (first | (go_at_call 87; refine (abs_any _ _ hlt).mono ?_; rintro e w' ⟨rfl, rfl⟩) | (go_at_call 88; refine (trunc_any _ _ x h).mono ?_; rintro e w' ⟨rfl, rfl⟩))
    go_ret
    exact ⟨rfl, rfl⟩

theorem upTo_true (a m : Nat) (w : World) (x k : Int) (h : FI a x) (hm : FI m k) (hx : x.natAbs < 9007199254740992) (hle : (x.natAbs : Int) ≤ k) :
    Calls Tryd.prog 79 #[.float .f64 a, .float .f64 m] w fun e w' => e = .returned (.bool true) ∧ w' = w := by
  have := upTo_any a m w x k h hm hx
  rwa [decide_eq_true hle] at this

end Go.Proofs.YtpjlmmiceiionaaDoor

/- The walks of gauss's small inner functions over whole numbers: isWhole, isSmall, withoutMinusZero, conjugate, norm, nearest, refuse. -/
namespace Go.Proofs.YtpjlmmiceiionaaDoor
open Go.RowKit

theorem FI_const {b : Nat} (n : Int) (h : n.natAbs < 9007199254740992) (e : floatOfInt .f64 n = b) : FI b n := by
  have := FI_of_int n h; rwa [e] at this
theorem FI_whole : FI 4841369599423283200 4503599627370496 := FI_const _ (by decide) (by decide)
theorem FI_small : FI 4715268809856909312 16777216 := FI_const _ (by decide) (by decide)

theorem mul_le {x y : Int} {A B : Nat} (hx : x.natAbs ≤ A) (hy : y.natAbs ≤ B) : (x * y).natAbs ≤ A * B := by
  rw [Int.natAbs_mul]; exact Nat.mul_le_mul hx hy

set_option maxHeartbeats 400000 in
theorem isWhole_true (a b : Nat) (w : World) (x y : Int) (ha : FI a x) (hb : FI b y) (hx : x.natAbs ≤ 4503599627370496) (hy : y.natAbs ≤ 4503599627370496) :
    Calls Tryd.prog 62 #[.complex .f64 a b] w fun e w' => e = .returned (.bool true) ∧ w' = w := by
  have c1 := fun w => upTo_true a _ w x _ ha FI_whole (by omega) (by omega)
  have c2 := fun w => upTo_true b _ w y _ hb FI_whole (by omega) (by omega)
  clear hx hy
  go_enter Tryd.func62, Tryd.ntmps62
  go_wp2_with (first | (go_at_call 79; with_reducible refine (c1 _).mono ?_; rintro e w' ⟨rfl, rfl⟩) | (go_at_call 79; with_reducible refine (c2 _).mono ?_; rintro e w' ⟨rfl, rfl⟩))
  go_ret
  exact ⟨rfl, rfl⟩

set_option maxHeartbeats 400000 in
theorem clean_any (a b : Nat) (w : World) (x y : Int) (ha : FI a x) (hb : FI b y) :
    Calls Tryd.prog 63 #[.complex .f64 a b] w fun e w' => e = .returned (.complex .f64 (pz x a) (pz y b)) ∧ w' = w := by
  have c1 := fun w => plainZero_any a w x ha
  have c2 := fun w => plainZero_any b w y hb
  go_enter Tryd.func63, Tryd.ntmps63
  go_wp2_with (first | (go_at_call 80; with_reducible refine (c1 _).mono ?_; rintro e w' ⟨rfl, rfl⟩) | (go_at_call 80; with_reducible refine (c2 _).mono ?_; rintro e w' ⟨rfl, rfl⟩))
  go_ret
  exact ⟨rfl, rfl⟩

theorem wrap64_id {x : Int} (h1 : -9223372036854775808 ≤ x) (h2 : x ≤ 9223372036854775807) : wrap64 x = x := by
  unfold wrap64; omega

theorem ret_float {n m : Int} (h : n = m) : Ending.returned (.float .f64 (floatOfInt .f64 n)) = .returned (.float .f64 (floatOfInt .f64 m)) := by rw [h]

theorem tdiv_parts {D M : Int} (hM : 0 < M) : (D.tmod M < 0 → D.tdiv M - 1 = D / M) ∧ (0 ≤ D.tmod M → D.tdiv M = D / M) := by
  have e1 := Int.tdiv_eq_ediv (a := D) (b := M)
  have e2 := Int.tmod_eq_emod (a := D) (b := M)
  have l1 := Int.emod_nonneg D (b := M) (by omega)
  have l2 := Int.emod_lt_of_pos D hM
  have hs : M.sign = 1 := Int.sign_eq_one_of_pos hM
  rw [hs] at e1
  by_cases c : 0 ≤ D ∨ M ∣ D
  · rw [if_pos c] at e1 e2; constructor <;> intro h <;> simp at e2 <;> omega
  · rw [if_neg c] at e1 e2; constructor <;> intro h <;> omega

theorem ediv_small {D M : Int} (hM : 0 < M) (h1 : -4611686018427387904 ≤ D) (h2 : D ≤ 4611686018427387904) : -4611686018427387904 ≤ D / M ∧ D / M ≤ 4611686018427387904 := by
  have h3 : D < 4611686018427387905 * M := by
    have : 4611686018427387905 * 1 ≤ 4611686018427387905 * M := Int.mul_le_mul_of_nonneg_left hM (by omega)
    omega
  have h4 : -4611686018427387904 * M ≤ D := by
    have : 4611686018427387904 * 1 ≤ 4611686018427387904 * M := Int.mul_le_mul_of_nonneg_left hM (by omega)
    omega
  exact ⟨(Int.le_ediv_iff_mul_le hM).2 h4, by have := (Int.ediv_lt_iff_lt_mul hM).2 h3; omega⟩

theorem tdiv_down {D M : Int} (hM : 0 < M) (h : D.tmod M < 0) (h1 : -4611686018427387904 ≤ D) (h2 : D ≤ 4611686018427387904) : wrap64 (D.tdiv M - 1) = D / M := by
  have e := (tdiv_parts (D := D) hM).1 h
  have b := ediv_small hM h1 h2
  rw [e]; exact wrap64_id (by omega) (by omega)

theorem tdiv_up {D M : Int} (hM : 0 < M) (h : 0 ≤ D.tmod M) : D.tdiv M = D / M := (tdiv_parts hM).2 h

end Go.Proofs.YtpjlmmiceiionaaDoor
