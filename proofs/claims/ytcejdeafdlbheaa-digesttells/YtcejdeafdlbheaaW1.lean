/- The walks of the small functions: Abs, Trunc, isWholeUpTo, plainZero. -/
import Derived.Test.YtcejdeafdlbheaaRows
import Derived.Test.YtcejdeafdlbheaaFloat
import Derived.WalkKit
import Derived.WalkSpells
import Derived.WalkLawsBesides
import Derived.Laws.BitsAllLaws
namespace Go.Proofs.Ytcejdeafdlbheaa
open Go.RowKit

theorem bits_run (a : Nat) (w : World) : (callFunc 27 #[.float .f64 a]).run Try.prog w = .ok (.value (.int .u64 a)) w := by kernel_rfl
theorem frombits_run (n : Int) (w : World) : (callFunc 26 #[.int .u64 n]).run Try.prog w = .ok (.value (.float .f64 n.toNat)) w := by kernel_rfl
theorem arch_run (a : Nat) (w : World) (x : Int) (h : FI a x) : (callFunc 28 #[.float .f64 a]).run Try.prog w = .ok (.value (.float .f64 (Ieee.double.write ((Ieee.double.read a).integral .zero)))) w := by
  obtain ⟨_, s, e, hr, _, _⟩ := h
  rw [run_callFunc_extern (f := 28) (fn := Try.f28) (e := Extern.MathFloor.toIntegral "math.archTrunc" .zero) (by kernel_rfl) (by kernel_rfl) (by kernel_rfl) (by kernel_rfl) (by kernel_rfl)]
  have hd : FloatKind.f64.decode a = Ieee.double.read a := rfl
  conv => lhs; arg 1; arg 2; whnf
  rw [hd, hr]
  rfl

theorem andNot_abs (a : Nat) (h : a < 18446744073709551616) : (bits .andNot .u64 (a : Int) 9223372036854775808).toNat = a % 9223372036854775808 := by
  have h1 := u64_andNot_nat a 9223372036854775808 h (by decide)
  have h2 : ((9223372036854775808 : Nat) : Int) = 9223372036854775808 := rfl
  rw [h2] at h1
  rw [h1, Int.toNat_natCast]
  have e1 : (18446744073709551615 - 9223372036854775808 : Nat) = 2 ^ 63 - 1 := by decide
  have e2 : (9223372036854775808 : Nat) = 2 ^ 63 := by decide
  rw [e1, e2, Nat.and_two_pow_sub_one_eq_mod]

set_option maxHeartbeats 400000 in
theorem abs_any (a : Nat) (w : World) (h : a < 18446744073709551616) :
    Calls Try.prog 24 #[.float .f64 a] w fun e w' => e = .returned (.float .f64 (a % 9223372036854775808)) ∧ w' = w := by
  have hb := bits_run a
  have hf := frombits_run
  go_enter Try.func24, Try.ntmps24
  go_wp2
  go_ret
  exact ⟨by rw [andNot_abs a h]; rfl, rfl⟩

set_option maxHeartbeats 400000 in
theorem trunc_any (a : Nat) (w : World) (x : Int) (h : FI a x) :
    Calls Try.prog 25 #[.float .f64 a] w fun e w' => e = .returned (.float .f64 (Ieee.double.write ((Ieee.double.read a).integral .zero))) ∧ w' = w := by
  have hb := fun w => arch_run a w x h
  go_enter Try.func25, Try.ntmps25
  go_wp2
  go_ret
  exact ⟨rfl, rfl⟩

/-- A part that is -0 as 0. -/
def pz (x : Int) (a : Nat) : Nat := if x = 0 then 0 else a
theorem FI_pz {a : Nat} {x : Int} (h : FI a x) : FI (pz x a) x := by
  unfold pz; split
  · rename_i e; rw [e]; exact FI_zero
  · exact h
theorem pz_zero (a : Nat) : pz 0 a = 0 := rfl
theorem pz_zero' {x : Int} (h : x = 0) (a : Nat) : pz x a = 0 := if_pos h
theorem pz_other {x : Int} (h : ¬ x = 0) (a : Nat) : pz x a = a := if_neg h

set_option maxHeartbeats 400000 in
theorem plainZero_any (a : Nat) (w : World) (x : Int) (h : FI a x) :
    Calls Try.prog 23 #[.float .f64 a] w fun e w' => e = .returned (.float .f64 (pz x a)) ∧ w' = w := by
  have h0 := ord_eq h FI_zero
  by_cases hx : x = 0
  · rw [pz_zero' hx]
    rw [decide_eq_true hx] at h0
    go_enter Try.func23, Try.ntmps23
    go_wp2
    go_ret
    exact ⟨rfl, rfl⟩
  · rw [pz_other hx]
    rw [decide_eq_false hx] at h0
    go_enter Try.func23, Try.ntmps23
    go_wp2
    go_ret
    exact ⟨rfl, rfl⟩

set_option maxHeartbeats 400000 in
theorem upTo_any (a m : Nat) (w : World) (x k : Int) (h : FI a x) (hm : FI m k) (hx : x.natAbs < 9007199254740992) :
    Calls Try.prog 22 #[.float .f64 a, .float .f64 m] w fun e w' => e = .returned (.bool (decide ((x.natAbs : Int) ≤ k))) ∧ w' = w := by
  have h1 := ord_le (FI_abs h) hm
  have h2 := ord_eq (FI_trunc h hx) h
  have hlt := h.1
  simp only [decide_true] at h2
  by_cases hc : (x.natAbs : Int) ≤ k
  · rw [decide_eq_true hc] at h1 ⊢
    clear hc
    go_enter Try.func22, Try.ntmps22
    go_wp2_with (first | (go_at_call 24; refine (abs_any _ _ hlt).mono ?_; rintro e w' ⟨rfl, rfl⟩) | (go_at_call 25; refine (trunc_any _ _ x h).mono ?_; rintro e w' ⟨rfl, rfl⟩))
    go_ret
    exact ⟨rfl, rfl⟩
  · rw [decide_eq_false hc] at h1 ⊢
    clear hc
    go_enter Try.func22, Try.ntmps22
    go_wp2_with (first | (go_at_call 24; refine (abs_any _ _ hlt).mono ?_; rintro e w' ⟨rfl, rfl⟩) | (go_at_call 25; refine (trunc_any _ _ x h).mono ?_; rintro e w' ⟨rfl, rfl⟩))
    go_ret
    exact ⟨rfl, rfl⟩

theorem upTo_true (a m : Nat) (w : World) (x k : Int) (h : FI a x) (hm : FI m k) (hx : x.natAbs < 9007199254740992) (hle : (x.natAbs : Int) ≤ k) :
    Calls Try.prog 22 #[.float .f64 a, .float .f64 m] w fun e w' => e = .returned (.bool true) ∧ w' = w := by
  have := upTo_any a m w x k h hm hx
  rwa [decide_eq_true hle] at this

end Go.Proofs.Ytcejdeafdlbheaa
