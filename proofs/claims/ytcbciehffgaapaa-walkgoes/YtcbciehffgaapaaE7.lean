/- desc: the document's Check. -/
import Derived.Test.YtcbciehffgaapaaE6
namespace Go.Proofs.Ytcbciehffgaapaa
open Go.RowKit

section
variable {s l k : Int} {a : Nat} {r q x : Bool} {f : Int}
theorem chk1 (h : ¬ (isPl s l = true ∧ isKd k = true ∧ 0 ≤ f ∧ f ≤ 15)) : dchk s l k a r q x f = 1 := by unfold dchk; rw [if_pos h]
theorem chk4 (h : isPl s l = true ∧ isKd k = true ∧ 0 ≤ f ∧ f ≤ 15) (h1 : fm l k a r q x f = false) : dchk s l k a r q x f = 4 := by unfold dchk; rw [if_neg (fun c => c h), if_pos h1]
theorem chk2 (h : isPl s l = true ∧ isKd k = true ∧ 0 ≤ f ∧ f ≤ 15) (h1 : fm l k a r q x f = true) (h2 : topS s ≤ a) : dchk s l k a r q x f = 2 := by unfold dchk; rw [if_neg (fun c => c h), if_neg (by rw [h1]; decide), if_pos h2]
theorem chk3 (h : isPl s l = true ∧ isKd k = true ∧ 0 ≤ f ∧ f ≤ 15) (h1 : fm l k a r q x f = true) (h2 : ¬ topS s ≤ a) (h3 : a % unitN l k ≠ 0) : dchk s l k a r q x f = 3 := by unfold dchk; rw [if_neg (fun c => c h), if_neg (by rw [h1]; decide), if_neg h2, if_pos h3]
theorem chk0 (h : isPl s l = true ∧ isKd k = true ∧ 0 ≤ f ∧ f ≤ 15) (h1 : fm l k a r q x f = true) (h2 : ¬ topS s ≤ a) (h3 : a % unitN l k = 0) : dchk s l k a r q x f = 0 := by unfold dchk; rw [if_neg (fun c => c h), if_neg (by rw [h1]; decide), if_neg h2, if_neg (fun c => c h3)]
theorem isKd_iff : isKd k = true ↔ 0 ≤ k ∧ k ≤ 3 := by unfold isKd; exact decide_eq_true_iff
end

set_option maxHeartbeats 4000000 in
theorem rcheck_arg (s l k : Int) (a : Nat) (r q x : Bool) (f : Int) (w : World) (h : ¬ (isPl s l = true ∧ isKd k = true ∧ 0 ≤ f ∧ f ≤ 15)) : Calls Try.prog 35 #[.int .i64 s, .int .i64 l, .agg #[.int .i64 k, .int .u64 (a : Int), .bool r, .bool q, .bool x, .int .i64 f]] w fun e w' => e = .returned (.int .i64 1) ∧ Kp w w' := by
  rw [isPl_iff, isKd_iff] at h
  by_cases c1 : s < 1
  · clear h
    go_enter Try.func35, Try.ntmps35
    go_wp2
    go_ret
    exact ⟨rfl, (Kp.refl _).alloc _⟩
  by_cases c2 : 2 < s
  · clear h
    go_enter Try.func35, Try.ntmps35
    go_wp2
    go_ret
    exact ⟨rfl, (Kp.refl _).alloc _⟩
  by_cases c3 : l < 0
  · clear h
    go_enter Try.func35, Try.ntmps35
    go_wp2
    go_ret
    exact ⟨rfl, (Kp.refl _).alloc _⟩
  by_cases c4 : 3 < l
  · clear h
    go_enter Try.func35, Try.ntmps35
    go_wp2
    go_ret
    exact ⟨rfl, (Kp.refl _).alloc _⟩
  by_cases c5 : k < 0
  · clear h
    go_enter Try.func35, Try.ntmps35
    go_wp2
    go_ret
    exact ⟨rfl, (Kp.refl _).alloc _⟩
  by_cases c6 : 3 < k
  · clear h
    go_enter Try.func35, Try.ntmps35
    go_wp2
    go_ret
    exact ⟨rfl, (Kp.refl _).alloc _⟩
  by_cases c7 : f < 0
  · clear h
    go_enter Try.func35, Try.ntmps35
    go_wp2
    go_ret
    exact ⟨rfl, (Kp.refl _).alloc _⟩
  have c8 : 15 < f := by omega
  clear h
  go_enter Try.func35, Try.ntmps35
  go_wp2
  go_ret
  exact ⟨rfl, (Kp.refl _).alloc _⟩

set_option maxHeartbeats 4000000 in
theorem rform_13 (s l : Int) (a : Nat) (r q x : Bool) (f : Int) (w : World) (h1 : 1 ≤ s) (h2 : s ≤ 2) (h3 : 0 ≤ l) (h4 : l ≤ 3) (h5 : 0 ≤ f) (h6 : f ≤ 15) (h : l = 3) : Calls Try.prog 35 #[.int .i64 s, .int .i64 l, .agg #[.int .i64 1, .int .u64 (a : Int), .bool r, .bool q, .bool x, .int .i64 f]] w fun e w' => e = .returned (.int .i64 4) ∧ Kp w w' := by
  subst h
  have b1 : decide (s < 1) = false := decide_eq_false (by omega)
  have b2 : decide (2 < s) = false := decide_eq_false (by omega)
  have b5 : decide (f < 0) = false := decide_eq_false (by omega)
  have b6 : decide (15 < f) = false := decide_eq_false (by omega)
  clear h1 h2 h3 h4 h5 h6
  go_enter Try.func35, Try.ntmps35
  go_wp2
  go_ret
  exact ⟨rfl, (Kp.refl _).alloc _⟩
set_option maxHeartbeats 4000000 in
theorem rform_20 (s l : Int) (a : Nat) (r q x : Bool) (f : Int) (w : World) (h1 : 1 ≤ s) (h2 : s ≤ 2) (h3 : 0 ≤ l) (h4 : l ≤ 3) (h5 : 0 ≤ f) (h6 : f ≤ 15) (h : l = 0) : Calls Try.prog 35 #[.int .i64 s, .int .i64 l, .agg #[.int .i64 2, .int .u64 (a : Int), .bool r, .bool q, .bool x, .int .i64 f]] w fun e w' => e = .returned (.int .i64 4) ∧ Kp w w' := by
  subst h
  have b1 : decide (s < 1) = false := decide_eq_false (by omega)
  have b2 : decide (2 < s) = false := decide_eq_false (by omega)
  have b5 : decide (f < 0) = false := decide_eq_false (by omega)
  have b6 : decide (15 < f) = false := decide_eq_false (by omega)
  clear h1 h2 h3 h4 h5 h6
  go_enter Try.func35, Try.ntmps35
  go_wp2
  go_ret
  exact ⟨rfl, (Kp.refl _).alloc _⟩
set_option maxHeartbeats 4000000 in
theorem rform_23 (s l : Int) (a : Nat) (r q x : Bool) (f : Int) (w : World) (h1 : 1 ≤ s) (h2 : s ≤ 2) (h3 : 0 ≤ l) (h4 : l ≤ 3) (h5 : 0 ≤ f) (h6 : f ≤ 15) (h : l = 3) : Calls Try.prog 35 #[.int .i64 s, .int .i64 l, .agg #[.int .i64 2, .int .u64 (a : Int), .bool r, .bool q, .bool x, .int .i64 f]] w fun e w' => e = .returned (.int .i64 4) ∧ Kp w w' := by
  subst h
  have b1 : decide (s < 1) = false := decide_eq_false (by omega)
  have b2 : decide (2 < s) = false := decide_eq_false (by omega)
  have b5 : decide (f < 0) = false := decide_eq_false (by omega)
  have b6 : decide (15 < f) = false := decide_eq_false (by omega)
  clear h1 h2 h3 h4 h5 h6
  go_enter Try.func35, Try.ntmps35
  go_wp2
  go_ret
  exact ⟨rfl, (Kp.refl _).alloc _⟩
set_option maxHeartbeats 4000000 in
theorem rform_3 (s l : Int) (a : Nat) (r q x : Bool) (f : Int) (w : World) (h1 : 1 ≤ s) (h2 : s ≤ 2) (h3 : 0 ≤ l) (h4 : l ≤ 3) (h5 : 0 ≤ f) (h6 : f ≤ 15) (h : l ≠ 3) : Calls Try.prog 35 #[.int .i64 s, .int .i64 l, .agg #[.int .i64 3, .int .u64 (a : Int), .bool r, .bool q, .bool x, .int .i64 f]] w fun e w' => e = .returned (.int .i64 4) ∧ Kp w w' := by
  have b1 : decide (s < 1) = false := decide_eq_false (by omega)
  have b2 : decide (2 < s) = false := decide_eq_false (by omega)
  have b3 : decide (l < 0) = false := decide_eq_false (by omega)
  have b4 : decide (3 < l) = false := decide_eq_false (by omega)
  have b5 : decide (f < 0) = false := decide_eq_false (by omega)
  have b6 : decide (15 < f) = false := decide_eq_false (by omega)
  have b7 : (l == 3) = false := by rw [beq_eq_false_iff_ne]; omega
  have b8 : (l != 3) = true := by rw [bne_iff_ne]; omega
  clear h1 h2 h3 h4 h5 h6
  go_enter Try.func35, Try.ntmps35
  go_wp2
  go_ret
  exact ⟨rfl, (Kp.refl _).alloc _⟩
set_option maxHeartbeats 4000000 in
theorem rform_0r (s l : Int) (a : Nat) (q x : Bool) (f : Int) (w : World) (h1 : 1 ≤ s) (h2 : s ≤ 2) (h3 : 0 ≤ l) (h4 : l ≤ 3) (h5 : 0 ≤ f) (h6 : f ≤ 15) : Calls Try.prog 35 #[.int .i64 s, .int .i64 l, .agg #[.int .i64 0, .int .u64 (a : Int), .bool true, .bool q, .bool x, .int .i64 f]] w fun e w' => e = .returned (.int .i64 4) ∧ Kp w w' := by
  have b1 : decide (s < 1) = false := decide_eq_false (by omega)
  have b2 : decide (2 < s) = false := decide_eq_false (by omega)
  have b3 : decide (l < 0) = false := decide_eq_false (by omega)
  have b4 : decide (3 < l) = false := decide_eq_false (by omega)
  have b5 : decide (f < 0) = false := decide_eq_false (by omega)
  have b6 : decide (15 < f) = false := decide_eq_false (by omega)
  clear h1 h2 h3 h4 h5 h6
  go_enter Try.func35, Try.ntmps35
  go_wp2
  go_ret
  exact ⟨rfl, (Kp.refl _).alloc _⟩
set_option maxHeartbeats 4000000 in
theorem rform_0q (s l : Int) (a : Nat) (x : Bool) (f : Int) (w : World) (h1 : 1 ≤ s) (h2 : s ≤ 2) (h3 : 0 ≤ l) (h4 : l ≤ 3) (h5 : 0 ≤ f) (h6 : f ≤ 15) : Calls Try.prog 35 #[.int .i64 s, .int .i64 l, .agg #[.int .i64 0, .int .u64 (a : Int), .bool false, .bool true, .bool x, .int .i64 f]] w fun e w' => e = .returned (.int .i64 4) ∧ Kp w w' := by
  have b1 : decide (s < 1) = false := decide_eq_false (by omega)
  have b2 : decide (2 < s) = false := decide_eq_false (by omega)
  have b3 : decide (l < 0) = false := decide_eq_false (by omega)
  have b4 : decide (3 < l) = false := decide_eq_false (by omega)
  have b5 : decide (f < 0) = false := decide_eq_false (by omega)
  have b6 : decide (15 < f) = false := decide_eq_false (by omega)
  clear h1 h2 h3 h4 h5 h6
  go_enter Try.func35, Try.ntmps35
  go_wp2
  go_ret
  exact ⟨rfl, (Kp.refl _).alloc _⟩
set_option maxHeartbeats 4000000 in
theorem rform_0x (s l : Int) (a : Nat) (f : Int) (w : World) (h1 : 1 ≤ s) (h2 : s ≤ 2) (h3 : 0 ≤ l) (h4 : l ≤ 3) (h5 : 0 ≤ f) (h6 : f ≤ 15) : Calls Try.prog 35 #[.int .i64 s, .int .i64 l, .agg #[.int .i64 0, .int .u64 (a : Int), .bool false, .bool false, .bool true, .int .i64 f]] w fun e w' => e = .returned (.int .i64 4) ∧ Kp w w' := by
  have b1 : decide (s < 1) = false := decide_eq_false (by omega)
  have b2 : decide (2 < s) = false := decide_eq_false (by omega)
  have b3 : decide (l < 0) = false := decide_eq_false (by omega)
  have b4 : decide (3 < l) = false := decide_eq_false (by omega)
  have b5 : decide (f < 0) = false := decide_eq_false (by omega)
  have b6 : decide (15 < f) = false := decide_eq_false (by omega)
  clear h1 h2 h3 h4 h5 h6
  go_enter Try.func35, Try.ntmps35
  go_wp2
  go_ret
  exact ⟨rfl, (Kp.refl _).alloc _⟩
set_option maxHeartbeats 4000000 in
theorem rform_1r (s l : Int) (a : Nat) (q x : Bool) (f : Int) (w : World) (h1 : 1 ≤ s) (h2 : s ≤ 2) (h3 : 0 ≤ l) (h4 : l ≤ 3) (h5 : 0 ≤ f) (h6 : f ≤ 15) (h : l ≠ 3) : Calls Try.prog 35 #[.int .i64 s, .int .i64 l, .agg #[.int .i64 1, .int .u64 (a : Int), .bool true, .bool q, .bool x, .int .i64 f]] w fun e w' => e = .returned (.int .i64 4) ∧ Kp w w' := by
  have b1 : decide (s < 1) = false := decide_eq_false (by omega)
  have b2 : decide (2 < s) = false := decide_eq_false (by omega)
  have b3 : decide (l < 0) = false := decide_eq_false (by omega)
  have b4 : decide (3 < l) = false := decide_eq_false (by omega)
  have b5 : decide (f < 0) = false := decide_eq_false (by omega)
  have b6 : decide (15 < f) = false := decide_eq_false (by omega)
  have b7 : (l == 3) = false := by rw [beq_eq_false_iff_ne]; omega
  have b8 : (l != 3) = true := by rw [bne_iff_ne]; omega
  clear h1 h2 h3 h4 h5 h6
  go_enter Try.func35, Try.ntmps35
  go_wp2
  go_ret
  exact ⟨rfl, (Kp.refl _).alloc _⟩
set_option maxHeartbeats 4000000 in
theorem rform_1q (s l : Int) (a : Nat) (x : Bool) (f : Int) (w : World) (h1 : 1 ≤ s) (h2 : s ≤ 2) (h3 : 0 ≤ l) (h4 : l ≤ 3) (h5 : 0 ≤ f) (h6 : f ≤ 15) (h : l ≠ 3) : Calls Try.prog 35 #[.int .i64 s, .int .i64 l, .agg #[.int .i64 1, .int .u64 (a : Int), .bool false, .bool true, .bool x, .int .i64 f]] w fun e w' => e = .returned (.int .i64 4) ∧ Kp w w' := by
  have b1 : decide (s < 1) = false := decide_eq_false (by omega)
  have b2 : decide (2 < s) = false := decide_eq_false (by omega)
  have b3 : decide (l < 0) = false := decide_eq_false (by omega)
  have b4 : decide (3 < l) = false := decide_eq_false (by omega)
  have b5 : decide (f < 0) = false := decide_eq_false (by omega)
  have b6 : decide (15 < f) = false := decide_eq_false (by omega)
  have b7 : (l == 3) = false := by rw [beq_eq_false_iff_ne]; omega
  have b8 : (l != 3) = true := by rw [bne_iff_ne]; omega
  clear h1 h2 h3 h4 h5 h6
  go_enter Try.func35, Try.ntmps35
  go_wp2
  go_ret
  exact ⟨rfl, (Kp.refl _).alloc _⟩
set_option maxHeartbeats 4000000 in
theorem rform_1x (s l : Int) (a : Nat) (f : Int) (w : World) (h1 : 1 ≤ s) (h2 : s ≤ 2) (h3 : 0 ≤ l) (h4 : l ≤ 3) (h5 : 0 ≤ f) (h6 : f ≤ 15) (h : l ≠ 3) : Calls Try.prog 35 #[.int .i64 s, .int .i64 l, .agg #[.int .i64 1, .int .u64 (a : Int), .bool false, .bool false, .bool true, .int .i64 f]] w fun e w' => e = .returned (.int .i64 4) ∧ Kp w w' := by
  have b1 : decide (s < 1) = false := decide_eq_false (by omega)
  have b2 : decide (2 < s) = false := decide_eq_false (by omega)
  have b3 : decide (l < 0) = false := decide_eq_false (by omega)
  have b4 : decide (3 < l) = false := decide_eq_false (by omega)
  have b5 : decide (f < 0) = false := decide_eq_false (by omega)
  have b6 : decide (15 < f) = false := decide_eq_false (by omega)
  have b7 : (l == 3) = false := by rw [beq_eq_false_iff_ne]; omega
  have b8 : (l != 3) = true := by rw [bne_iff_ne]; omega
  clear h1 h2 h3 h4 h5 h6
  go_enter Try.func35, Try.ntmps35
  go_wp2
  go_ret
  exact ⟨rfl, (Kp.refl _).alloc _⟩
set_option maxHeartbeats 4000000 in
theorem rform_0a (s l : Int) (a : Nat) (f : Int) (w : World) (h1 : 1 ≤ s) (h2 : s ≤ 2) (h3 : 0 ≤ l) (h4 : l ≤ 3) (h5 : 0 ≤ f) (h6 : f ≤ 15) (h : a ≠ 0) : Calls Try.prog 35 #[.int .i64 s, .int .i64 l, .agg #[.int .i64 0, .int .u64 (a : Int), .bool false, .bool false, .bool false, .int .i64 f]] w fun e w' => e = .returned (.int .i64 4) ∧ Kp w w' := by
  have h' : ((a : Nat) : Int) ≠ 0 := by omega
  have h8 : (((a : Nat) : Int) != 0) = true := by rw [bne_iff_ne]; exact h'
  have b1 : decide (s < 1) = false := decide_eq_false (by omega)
  have b2 : decide (2 < s) = false := decide_eq_false (by omega)
  have b3 : decide (l < 0) = false := decide_eq_false (by omega)
  have b4 : decide (3 < l) = false := decide_eq_false (by omega)
  have b5 : decide (f < 0) = false := decide_eq_false (by omega)
  have b6 : decide (15 < f) = false := decide_eq_false (by omega)
  clear h1 h2 h3 h4 h5 h6
  go_enter Try.func35, Try.ntmps35
  go_wp2
  go_ret
  exact ⟨rfl, (Kp.refl _).alloc _⟩
set_option maxHeartbeats 4000000 in
theorem rform_0f (s l : Int) (f : Int) (w : World) (h1 : 1 ≤ s) (h2 : s ≤ 2) (h3 : 0 ≤ l) (h4 : l ≤ 3) (h5 : 0 ≤ f) (h6 : f ≤ 15) (h : f ≠ 0) : Calls Try.prog 35 #[.int .i64 s, .int .i64 l, .agg #[.int .i64 0, .int .u64 0, .bool false, .bool false, .bool false, .int .i64 f]] w fun e w' => e = .returned (.int .i64 4) ∧ Kp w w' := by
  have h8 : (f != 0) = true := by rw [bne_iff_ne]; exact h
  have b1 : decide (s < 1) = false := decide_eq_false (by omega)
  have b2 : decide (2 < s) = false := decide_eq_false (by omega)
  have b3 : decide (l < 0) = false := decide_eq_false (by omega)
  have b4 : decide (3 < l) = false := decide_eq_false (by omega)
  have b5 : decide (f < 0) = false := decide_eq_false (by omega)
  have b6 : decide (15 < f) = false := decide_eq_false (by omega)
  clear h1 h2 h3 h4 h5 h6
  go_enter Try.func35, Try.ntmps35
  go_wp2
  go_ret
  exact ⟨rfl, (Kp.refl _).alloc _⟩
set_option maxHeartbeats 4000000 in
theorem rform_2q (s l : Int) (a : Nat) (x : Bool) (f : Int) (w : World) (h1 : 1 ≤ s) (h2 : s ≤ 2) (h3 : 0 ≤ l) (h4 : l ≤ 3) (h5 : 0 ≤ f) (h6 : f ≤ 15) (h : l ≠ 0) (h' : l ≠ 3) : Calls Try.prog 35 #[.int .i64 s, .int .i64 l, .agg #[.int .i64 2, .int .u64 (a : Int), .bool false, .bool true, .bool x, .int .i64 f]] w fun e w' => e = .returned (.int .i64 4) ∧ Kp w w' := by
  have b1 : decide (s < 1) = false := decide_eq_false (by omega)
  have b2 : decide (2 < s) = false := decide_eq_false (by omega)
  have b3 : decide (l < 0) = false := decide_eq_false (by omega)
  have b4 : decide (3 < l) = false := decide_eq_false (by omega)
  have b5 : decide (f < 0) = false := decide_eq_false (by omega)
  have b6 : decide (15 < f) = false := decide_eq_false (by omega)
  have b7 : (l == 3) = false := by rw [beq_eq_false_iff_ne]; omega
  have b8 : (l != 3) = true := by rw [bne_iff_ne]; omega
  have b9 : (l == 0) = false := by rw [beq_eq_false_iff_ne]; omega
  clear h1 h2 h3 h4 h5 h6
  go_enter Try.func35, Try.ntmps35
  go_wp2
  go_ret
  exact ⟨rfl, (Kp.refl _).alloc _⟩
set_option maxHeartbeats 4000000 in
theorem rform_3q (s l : Int) (a : Nat) (x : Bool) (f : Int) (w : World) (h1 : 1 ≤ s) (h2 : s ≤ 2) (h3 : 0 ≤ l) (h4 : l ≤ 3) (h5 : 0 ≤ f) (h6 : f ≤ 15) (h : l = 3) : Calls Try.prog 35 #[.int .i64 s, .int .i64 l, .agg #[.int .i64 3, .int .u64 (a : Int), .bool false, .bool true, .bool x, .int .i64 f]] w fun e w' => e = .returned (.int .i64 4) ∧ Kp w w' := by
  subst h
  have b1 : decide (s < 1) = false := decide_eq_false (by omega)
  have b2 : decide (2 < s) = false := decide_eq_false (by omega)
  have b5 : decide (f < 0) = false := decide_eq_false (by omega)
  have b6 : decide (15 < f) = false := decide_eq_false (by omega)
  clear h1 h2 h3 h4 h5 h6
  go_enter Try.func35, Try.ntmps35
  go_wp2
  go_ret
  exact ⟨rfl, (Kp.refl _).alloc _⟩
end Go.Proofs.Ytcbciehffgaapaa
