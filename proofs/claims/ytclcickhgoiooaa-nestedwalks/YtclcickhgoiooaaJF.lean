/- Joined: E7, E8, E9, EA, EB, EC, EG. -/
import Derived.Test.YtclcickhgoiooaaJE
/- desc: the document's Check. -/
namespace Go.Proofs.Ytclcickhgoiooaa
open Go.RowKit

section
variable {s l k : Int} {a : Nat} {r q x : Bool} {f : Int}
theorem chk1 (h : ¬ (isPl s l = true ∧ isKd k = true ∧ 0 ≤ f ∧ f ≤ 15)) : dchk s l k a r q x f = 1 := by unfold dchk; rw [if_pos h]
theorem chk4 (h : isPl s l = true ∧ isKd k = true ∧ 0 ≤ f ∧ f ≤ 15) (h1 : fm l k a r q x f = false) : dchk s l k a r q x f = 4 := by unfold dchk; rw [if_neg (fun c => c h), if_pos h1]
theorem chk2 (h : isPl s l = true ∧ isKd k = true ∧ 0 ≤ f ∧ f ≤ 15) (h1 : fm l k a r q x f = true) (h2 : topS s ≤ a) : dchk s l k a r q x f = 2 := by unfold dchk; rw [if_neg (fun c => c h), if_neg (by rw [h1]; decide), if_pos h2]
theorem chk3 (h : isPl s l = true ∧ isKd k = true ∧ 0 ≤ f ∧ f ≤ 15) (h1 : fm l k a r q x f = true) (h2 : ¬ topS s ≤ a) (h3 : a % unitN l k ≠ 0) : dchk s l k a r q x f = 3 := by unfold dchk; rw [if_neg (fun c => c h), if_neg (by rw [h1]; decide), if_neg h2, if_pos h3]
theorem chk0 (h : isPl s l = true ∧ isKd k = true ∧ 0 ≤ f ∧ f ≤ 15) (h1 : fm l k a r q x f = true) (h2 : ¬ topS s ≤ a) (h3 : a % unitN l k = 0) : dchk s l k a r q x f = 0 := by unfold dchk; rw [if_neg (fun c => c h), if_neg (by rw [h1]; decide), if_neg h2, if_neg (fun c => c h3)]
theorem isKd_iff : isKd k = true ↔ 0 ≤ k ∧ k ≤ 3 := by unfold isKd; exact decide_eq_true_iff
end

set_option maxHeartbeats 4000000 in
theorem rcheck_arg (s l k : Int) (a : Nat) (r q x : Bool) (f : Int) (w : World) (h : ¬ (isPl s l = true ∧ isKd k = true ∧ 0 ≤ f ∧ f ≤ 15)) : Calls Try.prog 72 #[.int .i64 s, .int .i64 l, .agg #[.int .i64 k, .int .u64 (a : Int), .bool r, .bool q, .bool x, .int .i64 f]] w fun e w' => e = .returned (.int .i64 1) ∧ Kp w w' := by
  rw [isPl_iff, isKd_iff] at h
  by_cases c1 : s < 1
  · clear h
    go_enter Try.func72, Try.ntmps72
    go_wp2
    go_ret
    exact ⟨rfl, (Kp.refl _).alloc _⟩
  by_cases c2 : 2 < s
  · clear h
    go_enter Try.func72, Try.ntmps72
    go_wp2
    go_ret
    exact ⟨rfl, (Kp.refl _).alloc _⟩
  by_cases c3 : l < 0
  · clear h
    go_enter Try.func72, Try.ntmps72
    go_wp2
    go_ret
    exact ⟨rfl, (Kp.refl _).alloc _⟩
  by_cases c4 : 3 < l
  · clear h
    go_enter Try.func72, Try.ntmps72
    go_wp2
    go_ret
    exact ⟨rfl, (Kp.refl _).alloc _⟩
  by_cases c5 : k < 0
  · clear h
    go_enter Try.func72, Try.ntmps72
    go_wp2
    go_ret
    exact ⟨rfl, (Kp.refl _).alloc _⟩
  by_cases c6 : 3 < k
  · clear h
    go_enter Try.func72, Try.ntmps72
    go_wp2
    go_ret
    exact ⟨rfl, (Kp.refl _).alloc _⟩
  by_cases c7 : f < 0
  · clear h
    go_enter Try.func72, Try.ntmps72
    go_wp2
    go_ret
    exact ⟨rfl, (Kp.refl _).alloc _⟩
  have c8 : 15 < f := by omega
  clear h
  go_enter Try.func72, Try.ntmps72
  go_wp2
  go_ret
  exact ⟨rfl, (Kp.refl _).alloc _⟩

set_option maxHeartbeats 4000000 in
theorem rform_13 (s l : Int) (a : Nat) (r q x : Bool) (f : Int) (w : World) (h1 : 1 ≤ s) (h2 : s ≤ 2) (h3 : 0 ≤ l) (h4 : l ≤ 3) (h5 : 0 ≤ f) (h6 : f ≤ 15) (h : l = 3) : Calls Try.prog 72 #[.int .i64 s, .int .i64 l, .agg #[.int .i64 1, .int .u64 (a : Int), .bool r, .bool q, .bool x, .int .i64 f]] w fun e w' => e = .returned (.int .i64 4) ∧ Kp w w' := by
  subst h
  have b1 : decide (s < 1) = false := decide_eq_false (by omega)
  have b2 : decide (2 < s) = false := decide_eq_false (by omega)
  have b5 : decide (f < 0) = false := decide_eq_false (by omega)
  have b6 : decide (15 < f) = false := decide_eq_false (by omega)
  clear h1 h2 h3 h4 h5 h6
  go_enter Try.func72, Try.ntmps72
  go_wp2
  go_ret
  exact ⟨rfl, (Kp.refl _).alloc _⟩
set_option maxHeartbeats 4000000 in
theorem rform_20 (s l : Int) (a : Nat) (r q x : Bool) (f : Int) (w : World) (h1 : 1 ≤ s) (h2 : s ≤ 2) (h3 : 0 ≤ l) (h4 : l ≤ 3) (h5 : 0 ≤ f) (h6 : f ≤ 15) (h : l = 0) : Calls Try.prog 72 #[.int .i64 s, .int .i64 l, .agg #[.int .i64 2, .int .u64 (a : Int), .bool r, .bool q, .bool x, .int .i64 f]] w fun e w' => e = .returned (.int .i64 4) ∧ Kp w w' := by
  subst h
  have b1 : decide (s < 1) = false := decide_eq_false (by omega)
  have b2 : decide (2 < s) = false := decide_eq_false (by omega)
  have b5 : decide (f < 0) = false := decide_eq_false (by omega)
  have b6 : decide (15 < f) = false := decide_eq_false (by omega)
  clear h1 h2 h3 h4 h5 h6
  go_enter Try.func72, Try.ntmps72
  go_wp2
  go_ret
  exact ⟨rfl, (Kp.refl _).alloc _⟩
set_option maxHeartbeats 4000000 in
theorem rform_23 (s l : Int) (a : Nat) (r q x : Bool) (f : Int) (w : World) (h1 : 1 ≤ s) (h2 : s ≤ 2) (h3 : 0 ≤ l) (h4 : l ≤ 3) (h5 : 0 ≤ f) (h6 : f ≤ 15) (h : l = 3) : Calls Try.prog 72 #[.int .i64 s, .int .i64 l, .agg #[.int .i64 2, .int .u64 (a : Int), .bool r, .bool q, .bool x, .int .i64 f]] w fun e w' => e = .returned (.int .i64 4) ∧ Kp w w' := by
  subst h
  have b1 : decide (s < 1) = false := decide_eq_false (by omega)
  have b2 : decide (2 < s) = false := decide_eq_false (by omega)
  have b5 : decide (f < 0) = false := decide_eq_false (by omega)
  have b6 : decide (15 < f) = false := decide_eq_false (by omega)
  clear h1 h2 h3 h4 h5 h6
  go_enter Try.func72, Try.ntmps72
  go_wp2
  go_ret
  exact ⟨rfl, (Kp.refl _).alloc _⟩
set_option maxHeartbeats 4000000 in
theorem rform_3 (s l : Int) (a : Nat) (r q x : Bool) (f : Int) (w : World) (h1 : 1 ≤ s) (h2 : s ≤ 2) (h3 : 0 ≤ l) (h4 : l ≤ 3) (h5 : 0 ≤ f) (h6 : f ≤ 15) (h : l ≠ 3) : Calls Try.prog 72 #[.int .i64 s, .int .i64 l, .agg #[.int .i64 3, .int .u64 (a : Int), .bool r, .bool q, .bool x, .int .i64 f]] w fun e w' => e = .returned (.int .i64 4) ∧ Kp w w' := by
  have b1 : decide (s < 1) = false := decide_eq_false (by omega)
  have b2 : decide (2 < s) = false := decide_eq_false (by omega)
  have b3 : decide (l < 0) = false := decide_eq_false (by omega)
  have b4 : decide (3 < l) = false := decide_eq_false (by omega)
  have b5 : decide (f < 0) = false := decide_eq_false (by omega)
  have b6 : decide (15 < f) = false := decide_eq_false (by omega)
  have b7 : (l == 3) = false := by rw [beq_eq_false_iff_ne]; omega
  have b8 : (l != 3) = true := by rw [bne_iff_ne]; omega
  clear h1 h2 h3 h4 h5 h6
  go_enter Try.func72, Try.ntmps72
  go_wp2
  go_ret
  exact ⟨rfl, (Kp.refl _).alloc _⟩
set_option maxHeartbeats 4000000 in
theorem rform_0r (s l : Int) (a : Nat) (q x : Bool) (f : Int) (w : World) (h1 : 1 ≤ s) (h2 : s ≤ 2) (h3 : 0 ≤ l) (h4 : l ≤ 3) (h5 : 0 ≤ f) (h6 : f ≤ 15) : Calls Try.prog 72 #[.int .i64 s, .int .i64 l, .agg #[.int .i64 0, .int .u64 (a : Int), .bool true, .bool q, .bool x, .int .i64 f]] w fun e w' => e = .returned (.int .i64 4) ∧ Kp w w' := by
  have b1 : decide (s < 1) = false := decide_eq_false (by omega)
  have b2 : decide (2 < s) = false := decide_eq_false (by omega)
  have b3 : decide (l < 0) = false := decide_eq_false (by omega)
  have b4 : decide (3 < l) = false := decide_eq_false (by omega)
  have b5 : decide (f < 0) = false := decide_eq_false (by omega)
  have b6 : decide (15 < f) = false := decide_eq_false (by omega)
  clear h1 h2 h3 h4 h5 h6
  go_enter Try.func72, Try.ntmps72
  go_wp2
  go_ret
  exact ⟨rfl, (Kp.refl _).alloc _⟩
set_option maxHeartbeats 4000000 in
theorem rform_0q (s l : Int) (a : Nat) (x : Bool) (f : Int) (w : World) (h1 : 1 ≤ s) (h2 : s ≤ 2) (h3 : 0 ≤ l) (h4 : l ≤ 3) (h5 : 0 ≤ f) (h6 : f ≤ 15) : Calls Try.prog 72 #[.int .i64 s, .int .i64 l, .agg #[.int .i64 0, .int .u64 (a : Int), .bool false, .bool true, .bool x, .int .i64 f]] w fun e w' => e = .returned (.int .i64 4) ∧ Kp w w' := by
  have b1 : decide (s < 1) = false := decide_eq_false (by omega)
  have b2 : decide (2 < s) = false := decide_eq_false (by omega)
  have b3 : decide (l < 0) = false := decide_eq_false (by omega)
  have b4 : decide (3 < l) = false := decide_eq_false (by omega)
  have b5 : decide (f < 0) = false := decide_eq_false (by omega)
  have b6 : decide (15 < f) = false := decide_eq_false (by omega)
  clear h1 h2 h3 h4 h5 h6
  go_enter Try.func72, Try.ntmps72
  go_wp2
  go_ret
  exact ⟨rfl, (Kp.refl _).alloc _⟩
set_option maxHeartbeats 4000000 in
theorem rform_0x (s l : Int) (a : Nat) (f : Int) (w : World) (h1 : 1 ≤ s) (h2 : s ≤ 2) (h3 : 0 ≤ l) (h4 : l ≤ 3) (h5 : 0 ≤ f) (h6 : f ≤ 15) : Calls Try.prog 72 #[.int .i64 s, .int .i64 l, .agg #[.int .i64 0, .int .u64 (a : Int), .bool false, .bool false, .bool true, .int .i64 f]] w fun e w' => e = .returned (.int .i64 4) ∧ Kp w w' := by
  have b1 : decide (s < 1) = false := decide_eq_false (by omega)
  have b2 : decide (2 < s) = false := decide_eq_false (by omega)
  have b3 : decide (l < 0) = false := decide_eq_false (by omega)
  have b4 : decide (3 < l) = false := decide_eq_false (by omega)
  have b5 : decide (f < 0) = false := decide_eq_false (by omega)
  have b6 : decide (15 < f) = false := decide_eq_false (by omega)
  clear h1 h2 h3 h4 h5 h6
  go_enter Try.func72, Try.ntmps72
  go_wp2
  go_ret
  exact ⟨rfl, (Kp.refl _).alloc _⟩
set_option maxHeartbeats 4000000 in
theorem rform_1r (s l : Int) (a : Nat) (q x : Bool) (f : Int) (w : World) (h1 : 1 ≤ s) (h2 : s ≤ 2) (h3 : 0 ≤ l) (h4 : l ≤ 3) (h5 : 0 ≤ f) (h6 : f ≤ 15) (h : l ≠ 3) : Calls Try.prog 72 #[.int .i64 s, .int .i64 l, .agg #[.int .i64 1, .int .u64 (a : Int), .bool true, .bool q, .bool x, .int .i64 f]] w fun e w' => e = .returned (.int .i64 4) ∧ Kp w w' := by
  have b1 : decide (s < 1) = false := decide_eq_false (by omega)
  have b2 : decide (2 < s) = false := decide_eq_false (by omega)
  have b3 : decide (l < 0) = false := decide_eq_false (by omega)
  have b4 : decide (3 < l) = false := decide_eq_false (by omega)
  have b5 : decide (f < 0) = false := decide_eq_false (by omega)
  have b6 : decide (15 < f) = false := decide_eq_false (by omega)
  have b7 : (l == 3) = false := by rw [beq_eq_false_iff_ne]; omega
  have b8 : (l != 3) = true := by rw [bne_iff_ne]; omega
  clear h1 h2 h3 h4 h5 h6
  go_enter Try.func72, Try.ntmps72
  go_wp2
  go_ret
  exact ⟨rfl, (Kp.refl _).alloc _⟩
set_option maxHeartbeats 4000000 in
theorem rform_1q (s l : Int) (a : Nat) (x : Bool) (f : Int) (w : World) (h1 : 1 ≤ s) (h2 : s ≤ 2) (h3 : 0 ≤ l) (h4 : l ≤ 3) (h5 : 0 ≤ f) (h6 : f ≤ 15) (h : l ≠ 3) : Calls Try.prog 72 #[.int .i64 s, .int .i64 l, .agg #[.int .i64 1, .int .u64 (a : Int), .bool false, .bool true, .bool x, .int .i64 f]] w fun e w' => e = .returned (.int .i64 4) ∧ Kp w w' := by
  have b1 : decide (s < 1) = false := decide_eq_false (by omega)
  have b2 : decide (2 < s) = false := decide_eq_false (by omega)
  have b3 : decide (l < 0) = false := decide_eq_false (by omega)
  have b4 : decide (3 < l) = false := decide_eq_false (by omega)
  have b5 : decide (f < 0) = false := decide_eq_false (by omega)
  have b6 : decide (15 < f) = false := decide_eq_false (by omega)
  have b7 : (l == 3) = false := by rw [beq_eq_false_iff_ne]; omega
  have b8 : (l != 3) = true := by rw [bne_iff_ne]; omega
  clear h1 h2 h3 h4 h5 h6
  go_enter Try.func72, Try.ntmps72
  go_wp2
  go_ret
  exact ⟨rfl, (Kp.refl _).alloc _⟩
set_option maxHeartbeats 4000000 in
theorem rform_1x (s l : Int) (a : Nat) (f : Int) (w : World) (h1 : 1 ≤ s) (h2 : s ≤ 2) (h3 : 0 ≤ l) (h4 : l ≤ 3) (h5 : 0 ≤ f) (h6 : f ≤ 15) (h : l ≠ 3) : Calls Try.prog 72 #[.int .i64 s, .int .i64 l, .agg #[.int .i64 1, .int .u64 (a : Int), .bool false, .bool false, .bool true, .int .i64 f]] w fun e w' => e = .returned (.int .i64 4) ∧ Kp w w' := by
  have b1 : decide (s < 1) = false := decide_eq_false (by omega)
  have b2 : decide (2 < s) = false := decide_eq_false (by omega)
  have b3 : decide (l < 0) = false := decide_eq_false (by omega)
  have b4 : decide (3 < l) = false := decide_eq_false (by omega)
  have b5 : decide (f < 0) = false := decide_eq_false (by omega)
  have b6 : decide (15 < f) = false := decide_eq_false (by omega)
  have b7 : (l == 3) = false := by rw [beq_eq_false_iff_ne]; omega
  have b8 : (l != 3) = true := by rw [bne_iff_ne]; omega
  clear h1 h2 h3 h4 h5 h6
  go_enter Try.func72, Try.ntmps72
  go_wp2
  go_ret
  exact ⟨rfl, (Kp.refl _).alloc _⟩
set_option maxHeartbeats 4000000 in
theorem rform_0a (s l : Int) (a : Nat) (f : Int) (w : World) (h1 : 1 ≤ s) (h2 : s ≤ 2) (h3 : 0 ≤ l) (h4 : l ≤ 3) (h5 : 0 ≤ f) (h6 : f ≤ 15) (h : a ≠ 0) : Calls Try.prog 72 #[.int .i64 s, .int .i64 l, .agg #[.int .i64 0, .int .u64 (a : Int), .bool false, .bool false, .bool false, .int .i64 f]] w fun e w' => e = .returned (.int .i64 4) ∧ Kp w w' := by
  have h' : ((a : Nat) : Int) ≠ 0 := by omega
  have h8 : (((a : Nat) : Int) != 0) = true := by rw [bne_iff_ne]; exact h'
  have b1 : decide (s < 1) = false := decide_eq_false (by omega)
  have b2 : decide (2 < s) = false := decide_eq_false (by omega)
  have b3 : decide (l < 0) = false := decide_eq_false (by omega)
  have b4 : decide (3 < l) = false := decide_eq_false (by omega)
  have b5 : decide (f < 0) = false := decide_eq_false (by omega)
  have b6 : decide (15 < f) = false := decide_eq_false (by omega)
  clear h1 h2 h3 h4 h5 h6
  go_enter Try.func72, Try.ntmps72
  go_wp2
  go_ret
  exact ⟨rfl, (Kp.refl _).alloc _⟩
set_option maxHeartbeats 4000000 in
theorem rform_0f (s l : Int) (f : Int) (w : World) (h1 : 1 ≤ s) (h2 : s ≤ 2) (h3 : 0 ≤ l) (h4 : l ≤ 3) (h5 : 0 ≤ f) (h6 : f ≤ 15) (h : f ≠ 0) : Calls Try.prog 72 #[.int .i64 s, .int .i64 l, .agg #[.int .i64 0, .int .u64 0, .bool false, .bool false, .bool false, .int .i64 f]] w fun e w' => e = .returned (.int .i64 4) ∧ Kp w w' := by
  have h8 : (f != 0) = true := by rw [bne_iff_ne]; exact h
  have b1 : decide (s < 1) = false := decide_eq_false (by omega)
  have b2 : decide (2 < s) = false := decide_eq_false (by omega)
  have b3 : decide (l < 0) = false := decide_eq_false (by omega)
  have b4 : decide (3 < l) = false := decide_eq_false (by omega)
  have b5 : decide (f < 0) = false := decide_eq_false (by omega)
  have b6 : decide (15 < f) = false := decide_eq_false (by omega)
  clear h1 h2 h3 h4 h5 h6
  go_enter Try.func72, Try.ntmps72
  go_wp2
  go_ret
  exact ⟨rfl, (Kp.refl _).alloc _⟩
set_option maxHeartbeats 4000000 in
theorem rform_2q (s l : Int) (a : Nat) (x : Bool) (f : Int) (w : World) (h1 : 1 ≤ s) (h2 : s ≤ 2) (h3 : 0 ≤ l) (h4 : l ≤ 3) (h5 : 0 ≤ f) (h6 : f ≤ 15) (h : l ≠ 0) (h' : l ≠ 3) : Calls Try.prog 72 #[.int .i64 s, .int .i64 l, .agg #[.int .i64 2, .int .u64 (a : Int), .bool false, .bool true, .bool x, .int .i64 f]] w fun e w' => e = .returned (.int .i64 4) ∧ Kp w w' := by
  have b1 : decide (s < 1) = false := decide_eq_false (by omega)
  have b2 : decide (2 < s) = false := decide_eq_false (by omega)
  have b3 : decide (l < 0) = false := decide_eq_false (by omega)
  have b4 : decide (3 < l) = false := decide_eq_false (by omega)
  have b5 : decide (f < 0) = false := decide_eq_false (by omega)
  have b6 : decide (15 < f) = false := decide_eq_false (by omega)
  have b7 : (l == 3) = false := by rw [beq_eq_false_iff_ne]; omega
  have b8 : (l != 3) = true := by rw [bne_iff_ne]; omega
  have b9 : (l == 0) = false := by rw [beq_eq_false_iff_ne]; omega
  clear h1 h2 h3 h4 h5 h6
  go_enter Try.func72, Try.ntmps72
  go_wp2
  go_ret
  exact ⟨rfl, (Kp.refl _).alloc _⟩
set_option maxHeartbeats 4000000 in
theorem rform_3q (s l : Int) (a : Nat) (x : Bool) (f : Int) (w : World) (h1 : 1 ≤ s) (h2 : s ≤ 2) (h3 : 0 ≤ l) (h4 : l ≤ 3) (h5 : 0 ≤ f) (h6 : f ≤ 15) (h : l = 3) : Calls Try.prog 72 #[.int .i64 s, .int .i64 l, .agg #[.int .i64 3, .int .u64 (a : Int), .bool false, .bool true, .bool x, .int .i64 f]] w fun e w' => e = .returned (.int .i64 4) ∧ Kp w w' := by
  subst h
  have b1 : decide (s < 1) = false := decide_eq_false (by omega)
  have b2 : decide (2 < s) = false := decide_eq_false (by omega)
  have b5 : decide (f < 0) = false := decide_eq_false (by omega)
  have b6 : decide (15 < f) = false := decide_eq_false (by omega)
  clear h1 h2 h3 h4 h5 h6
  go_enter Try.func72, Try.ntmps72
  go_wp2
  go_ret
  exact ⟨rfl, (Kp.refl _).alloc _⟩
end Go.Proofs.Ytclcickhgoiooaa

/- desc: the document's Check, of what is well formed; all of it. -/
namespace Go.Proofs.Ytclcickhgoiooaa
open Go.RowKit

set_option maxHeartbeats 4000000 in
theorem rgo_1 (s l : Int) (a : Nat)  (f : Int) (w : World) (h1 : 1 ≤ s) (h2 : s ≤ 2) (h3 : 0 ≤ l) (h4 : l ≤ 3) (h5 : 0 ≤ f) (h6 : f ≤ 15) (h : l ≠ 3) : Calls Try.prog 72 #[.int .i64 s, .int .i64 l, .agg #[.int .i64 1, .int .u64 (a : Int), .bool false, .bool false, .bool false, .int .i64 f]] w fun e w' => e = .returned (.int .i64 (if topS s ≤ a then 2 else if a % unitN l 1 ≠ 0 then 3 else 0)) ∧ Kp w w' := by
  have b1 : decide (s < 1) = false := decide_eq_false (by omega)
  have b2 : decide (2 < s) = false := decide_eq_false (by omega)
  have b3 : decide (l < 0) = false := decide_eq_false (by omega)
  have b4 : decide (3 < l) = false := decide_eq_false (by omega)
  have b5 : decide (f < 0) = false := decide_eq_false (by omega)
  have b6 : decide (15 < f) = false := decide_eq_false (by omega)
  have b7 : (l == 3) = false := by rw [beq_eq_false_iff_ne]; omega
  have b8 : (l != 3) = true := by rw [bne_iff_ne]; omega
  have c4 := rtop_any s
  rw [show unitN l 1 = 4096 from rfl]
  generalize topS s = tp at *
  clear h1 h2 h3 h4 h5 h6
  by_cases t : tp ≤ a
  · rw [if_pos t]
    have t1 : ((tp : Nat) : Int) ≤ a := by omega
    go_enter Try.func72, Try.ntmps72
    go_wp2_with fail
    go_quiet (first | (go_at_call 58; refine Calls.quiet_of_same (c4 _)))
    obtain ⟨w1, hw1⟩ : ∃ w1, w1 = (w.alloc (.cells #[.int .i64 1, .int .u64 (a : Int), .bool false, .bool false, .bool false, .int .i64 f] 73)).drewN nq := ⟨_, rfl⟩
    have B : BX w1 w.heap.size 1 a false false false f := by rw [hw1]; exact BX.made w 1 a false false false f
    have HK : Hid (Kp w w1) := by rw [hw1]; exact ((Kp.refl w).alloc _).drewN nq
    have x0 := B.c0
    have x1 := B.c1
    rw [← hw1]
    clear hw1 B
    go_wp2
    go_ret
    exact ⟨rfl, HK.out⟩
  · rw [if_neg t]
    obtain ⟨v, hv⟩ : ∃ v : Int, (if a % 4096 ≠ 0 then 3 else 0) = v := ⟨_, rfl⟩
    rw [hv]
    have HV : Hid _ := hv
    clear hv
    have t1 : ¬ ((tp : Nat) : Int) ≤ a := by omega
    go_enter Try.func72, Try.ntmps72
    go_wp2_with fail
    go_quiet (first | (go_at_call 58; refine Calls.quiet_of_same (c4 _)))
    obtain ⟨w1, hw1⟩ : ∃ w1, w1 = (w.alloc (.cells #[.int .i64 1, .int .u64 (a : Int), .bool false, .bool false, .bool false, .int .i64 f] 73)).drewN nq := ⟨_, rfl⟩
    have B : BX w1 w.heap.size 1 a false false false f := by rw [hw1]; exact BX.made w 1 a false false false f
    have HK : Hid (Kp w w1) := by rw [hw1]; exact ((Kp.refl w).alloc _).drewN nq
    have x0 := B.c0
    have x1 := B.c1
    rw [← hw1]
    clear hw1 B
    by_cases g : a % 4096 = 0
    · have HG : Hid _ := g
      have z3 : (a : Int).tmod 4096 = 0 := by rw [Int.tmod_eq_emod_of_nonneg (by omega)]; omega
      have z2 : (a : Int) % 4096 = 0 := by omega
      clear g
      go_wp2_with fail
      go_ret
      exact ⟨by rw [← HV.out, if_neg (fun c => c HG.out)] <;> rfl, HK.out⟩
    · have HG : Hid _ := g
      obtain ⟨m, hm⟩ : ∃ m : Nat, a % 4096 = m := ⟨_, rfl⟩
      have z2 : (a : Int) % 4096 = (m : Int) := by omega
      have z3 : (a : Int).tmod 4096 = (m : Int) := by rw [Int.tmod_eq_emod_of_nonneg (by omega)]; exact z2
      have z4 : (m : Int) ≠ 0 := by omega
      have z5 : ((m : Int) != 0) = true := by rw [bne_iff_ne]; exact z4
      clear hm g
      go_wp2_with fail
      go_ret
      exact ⟨by rw [← HV.out, if_pos HG.out] <;> rfl, HK.out⟩

set_option maxHeartbeats 4000000 in
theorem rgo_20 (s l : Int) (a : Nat) (x : Bool) (f : Int) (w : World) (h1 : 1 ≤ s) (h2 : s ≤ 2) (h3 : 0 ≤ l) (h4 : l ≤ 3) (h5 : 0 ≤ f) (h6 : f ≤ 15) (h : l ≠ 0) (h' : l ≠ 3) : Calls Try.prog 72 #[.int .i64 s, .int .i64 l, .agg #[.int .i64 2, .int .u64 (a : Int), .bool false, .bool false, .bool x, .int .i64 f]] w fun e w' => e = .returned (.int .i64 (if topS s ≤ a then 2 else if a % unitN l 2 ≠ 0 then 3 else 0)) ∧ Kp w w' := by
  have b1 : decide (s < 1) = false := decide_eq_false (by omega)
  have b2 : decide (2 < s) = false := decide_eq_false (by omega)
  have b3 : decide (l < 0) = false := decide_eq_false (by omega)
  have b4 : decide (3 < l) = false := decide_eq_false (by omega)
  have b5 : decide (f < 0) = false := decide_eq_false (by omega)
  have b6 : decide (15 < f) = false := decide_eq_false (by omega)
  have b7 : (l == 3) = false := by rw [beq_eq_false_iff_ne]; omega
  have b8 : (l != 3) = true := by rw [bne_iff_ne]; omega
  have b9 : (l == 0) = false := by rw [beq_eq_false_iff_ne]; omega
  have c4 := rtop_any s
  have c5 := rspan_any l
  rw [show unitN l 2 = spn l from rfl]
  have up : 0 < spn l := unit_pos (s := 1) (k := 2) (isPl_iff.2 ⟨by omega, by omega, h3, h4⟩)
  generalize topS s = tp at *
  generalize spn l = un at *
  clear h1 h2 h3 h4 h5 h6
  by_cases t : tp ≤ a
  · rw [if_pos t]
    have t1 : ((tp : Nat) : Int) ≤ a := by omega
    go_enter Try.func72, Try.ntmps72
    go_wp2_with fail
    go_quiet (first | (go_at_call 58; refine Calls.quiet_of_same (c4 _)))
    obtain ⟨w1, hw1⟩ : ∃ w1, w1 = (w.alloc (.cells #[.int .i64 2, .int .u64 (a : Int), .bool false, .bool false, .bool x, .int .i64 f] 73)).drewN nq := ⟨_, rfl⟩
    have B : BX w1 w.heap.size 2 a false false x f := by rw [hw1]; exact BX.made w 2 a false false x f
    have HK : Hid (Kp w w1) := by rw [hw1]; exact ((Kp.refl w).alloc _).drewN nq
    have x0 := B.c0
    have x1 := B.c1
    rw [← hw1]
    clear hw1 B
    go_wp2
    go_ret
    exact ⟨rfl, HK.out⟩
  · rw [if_neg t]
    obtain ⟨v, hv⟩ : ∃ v : Int, (if a % un ≠ 0 then 3 else 0) = v := ⟨_, rfl⟩
    rw [hv]
    have HV : Hid _ := hv
    clear hv
    have t1 : ¬ ((tp : Nat) : Int) ≤ a := by omega
    go_enter Try.func72, Try.ntmps72
    go_wp2_with fail
    go_quiet (first | (go_at_call 58; refine Calls.quiet_of_same (c4 _)))
    obtain ⟨w1, hw1⟩ : ∃ w1, w1 = (w.alloc (.cells #[.int .i64 2, .int .u64 (a : Int), .bool false, .bool false, .bool x, .int .i64 f] 73)).drewN nq := ⟨_, rfl⟩
    have B : BX w1 w.heap.size 2 a false false x f := by rw [hw1]; exact BX.made w 2 a false false x f
    have HK : Hid (Kp w w1) := by rw [hw1]; exact ((Kp.refl w).alloc _).drewN nq
    have x0 := B.c0
    have x1 := B.c1
    rw [← hw1]
    clear hw1 B
    by_cases g : a % un = 0
    · have HG : Hid _ := g
      have z3 : (a : Int).tmod (un : Nat) = 0 := by rw [Int.tmod_eq_emod_of_nonneg (by omega)]; omega
      have z2 : (a : Int) % (un : Nat) = 0 := by omega
      clear g
      have z0 : ¬ ((un : Nat) : Int) = 0 := by omega
      go_wp2_with (go_at_call 59; with_reducible refine (c5 _).mono ?_; rintro e w' ⟨rfl, rfl⟩)
      go_ret
      exact ⟨by rw [← HV.out, if_neg (fun c => c HG.out)] <;> rfl, HK.out⟩
    · have HG : Hid _ := g
      obtain ⟨m, hm⟩ : ∃ m : Nat, a % un = m := ⟨_, rfl⟩
      have z2 : (a : Int) % (un : Nat) = (m : Int) := by omega
      have z3 : (a : Int).tmod (un : Nat) = (m : Int) := by rw [Int.tmod_eq_emod_of_nonneg (by omega)]; exact z2
      have z4 : (m : Int) ≠ 0 := by omega
      have z5 : ((m : Int) != 0) = true := by rw [bne_iff_ne]; exact z4
      have z0 : ¬ ((un : Nat) : Int) = 0 := by omega
      clear hm g
      go_wp2_with (go_at_call 59; with_reducible refine (c5 _).mono ?_; rintro e w' ⟨rfl, rfl⟩)
      go_ret
      exact ⟨by rw [← HV.out, if_pos HG.out] <;> rfl, HK.out⟩

set_option maxHeartbeats 4000000 in
theorem rgo_30 (s l : Int) (a : Nat) (x : Bool) (f : Int) (w : World) (h1 : 1 ≤ s) (h2 : s ≤ 2) (h3 : 0 ≤ l) (h4 : l ≤ 3) (h5 : 0 ≤ f) (h6 : f ≤ 15) (h : l = 3) : Calls Try.prog 72 #[.int .i64 s, .int .i64 l, .agg #[.int .i64 3, .int .u64 (a : Int), .bool false, .bool false, .bool x, .int .i64 f]] w fun e w' => e = .returned (.int .i64 (if topS s ≤ a then 2 else if a % unitN l 3 ≠ 0 then 3 else 0)) ∧ Kp w w' := by
  subst h
  have b1 : decide (s < 1) = false := decide_eq_false (by omega)
  have b2 : decide (2 < s) = false := decide_eq_false (by omega)
  have b5 : decide (f < 0) = false := decide_eq_false (by omega)
  have b6 : decide (15 < f) = false := decide_eq_false (by omega)
  have c4 := rtop_any s
  rw [show unitN 3 3 = 4096 from rfl]
  generalize topS s = tp at *
  clear h1 h2 h3 h4 h5 h6
  by_cases t : tp ≤ a
  · rw [if_pos t]
    have t1 : ((tp : Nat) : Int) ≤ a := by omega
    go_enter Try.func72, Try.ntmps72
    go_wp2_with fail
    go_quiet (first | (go_at_call 58; refine Calls.quiet_of_same (c4 _)))
    obtain ⟨w1, hw1⟩ : ∃ w1, w1 = (w.alloc (.cells #[.int .i64 3, .int .u64 (a : Int), .bool false, .bool false, .bool x, .int .i64 f] 73)).drewN nq := ⟨_, rfl⟩
    have B : BX w1 w.heap.size 3 a false false x f := by rw [hw1]; exact BX.made w 3 a false false x f
    have HK : Hid (Kp w w1) := by rw [hw1]; exact ((Kp.refl w).alloc _).drewN nq
    have x0 := B.c0
    have x1 := B.c1
    rw [← hw1]
    clear hw1 B
    go_wp2
    go_ret
    exact ⟨rfl, HK.out⟩
  · rw [if_neg t]
    obtain ⟨v, hv⟩ : ∃ v : Int, (if a % 4096 ≠ 0 then 3 else 0) = v := ⟨_, rfl⟩
    rw [hv]
    have HV : Hid _ := hv
    clear hv
    have t1 : ¬ ((tp : Nat) : Int) ≤ a := by omega
    go_enter Try.func72, Try.ntmps72
    go_wp2_with fail
    go_quiet (first | (go_at_call 58; refine Calls.quiet_of_same (c4 _)))
    obtain ⟨w1, hw1⟩ : ∃ w1, w1 = (w.alloc (.cells #[.int .i64 3, .int .u64 (a : Int), .bool false, .bool false, .bool x, .int .i64 f] 73)).drewN nq := ⟨_, rfl⟩
    have B : BX w1 w.heap.size 3 a false false x f := by rw [hw1]; exact BX.made w 3 a false false x f
    have HK : Hid (Kp w w1) := by rw [hw1]; exact ((Kp.refl w).alloc _).drewN nq
    have x0 := B.c0
    have x1 := B.c1
    rw [← hw1]
    clear hw1 B
    by_cases g : a % 4096 = 0
    · have HG : Hid _ := g
      have z3 : (a : Int).tmod 4096 = 0 := by rw [Int.tmod_eq_emod_of_nonneg (by omega)]; omega
      have z2 : (a : Int) % 4096 = 0 := by omega
      clear g
      go_wp2_with fail
      go_ret
      exact ⟨by rw [← HV.out, if_neg (fun c => c HG.out)] <;> rfl, HK.out⟩
    · have HG : Hid _ := g
      obtain ⟨m, hm⟩ : ∃ m : Nat, a % 4096 = m := ⟨_, rfl⟩
      have z2 : (a : Int) % 4096 = (m : Int) := by omega
      have z3 : (a : Int).tmod 4096 = (m : Int) := by rw [Int.tmod_eq_emod_of_nonneg (by omega)]; exact z2
      have z4 : (m : Int) ≠ 0 := by omega
      have z5 : ((m : Int) != 0) = true := by rw [bne_iff_ne]; exact z4
      clear hm g
      go_wp2_with fail
      go_ret
      exact ⟨by rw [← HV.out, if_pos HG.out] <;> rfl, HK.out⟩

set_option maxHeartbeats 4000000 in
theorem rgo_21 (s l : Int) (a : Nat) (x : Bool) (f : Int) (w : World) (h1 : 1 ≤ s) (h2 : s ≤ 2) (h3 : 0 ≤ l) (h4 : l ≤ 3) (h5 : 0 ≤ f) (h6 : f ≤ 15) (h : l ≠ 0) (h' : l ≠ 3) : Calls Try.prog 72 #[.int .i64 s, .int .i64 l, .agg #[.int .i64 2, .int .u64 (a : Int), .bool true, .bool false, .bool x, .int .i64 f]] w fun e w' => e = .returned (.int .i64 (if topS s ≤ a then 2 else if a % unitN l 2 ≠ 0 then 3 else 0)) ∧ Kp w w' := by
  have b1 : decide (s < 1) = false := decide_eq_false (by omega)
  have b2 : decide (2 < s) = false := decide_eq_false (by omega)
  have b3 : decide (l < 0) = false := decide_eq_false (by omega)
  have b4 : decide (3 < l) = false := decide_eq_false (by omega)
  have b5 : decide (f < 0) = false := decide_eq_false (by omega)
  have b6 : decide (15 < f) = false := decide_eq_false (by omega)
  have b7 : (l == 3) = false := by rw [beq_eq_false_iff_ne]; omega
  have b8 : (l != 3) = true := by rw [bne_iff_ne]; omega
  have b9 : (l == 0) = false := by rw [beq_eq_false_iff_ne]; omega
  have c4 := rtop_any s
  have c5 := rspan_any l
  rw [show unitN l 2 = spn l from rfl]
  have up : 0 < spn l := unit_pos (s := 1) (k := 2) (isPl_iff.2 ⟨by omega, by omega, h3, h4⟩)
  generalize topS s = tp at *
  generalize spn l = un at *
  clear h1 h2 h3 h4 h5 h6
  by_cases t : tp ≤ a
  · rw [if_pos t]
    have t1 : ((tp : Nat) : Int) ≤ a := by omega
    go_enter Try.func72, Try.ntmps72
    go_wp2_with fail
    go_quiet (first | (go_at_call 58; refine Calls.quiet_of_same (c4 _)))
    obtain ⟨w1, hw1⟩ : ∃ w1, w1 = (w.alloc (.cells #[.int .i64 2, .int .u64 (a : Int), .bool true, .bool false, .bool x, .int .i64 f] 73)).drewN nq := ⟨_, rfl⟩
    have B : BX w1 w.heap.size 2 a true false x f := by rw [hw1]; exact BX.made w 2 a true false x f
    have HK : Hid (Kp w w1) := by rw [hw1]; exact ((Kp.refl w).alloc _).drewN nq
    have x0 := B.c0
    have x1 := B.c1
    rw [← hw1]
    clear hw1 B
    go_wp2
    go_ret
    exact ⟨rfl, HK.out⟩
  · rw [if_neg t]
    obtain ⟨v, hv⟩ : ∃ v : Int, (if a % un ≠ 0 then 3 else 0) = v := ⟨_, rfl⟩
    rw [hv]
    have HV : Hid _ := hv
    clear hv
    have t1 : ¬ ((tp : Nat) : Int) ≤ a := by omega
    go_enter Try.func72, Try.ntmps72
    go_wp2_with fail
    go_quiet (first | (go_at_call 58; refine Calls.quiet_of_same (c4 _)))
    obtain ⟨w1, hw1⟩ : ∃ w1, w1 = (w.alloc (.cells #[.int .i64 2, .int .u64 (a : Int), .bool true, .bool false, .bool x, .int .i64 f] 73)).drewN nq := ⟨_, rfl⟩
    have B : BX w1 w.heap.size 2 a true false x f := by rw [hw1]; exact BX.made w 2 a true false x f
    have HK : Hid (Kp w w1) := by rw [hw1]; exact ((Kp.refl w).alloc _).drewN nq
    have x0 := B.c0
    have x1 := B.c1
    rw [← hw1]
    clear hw1 B
    by_cases g : a % un = 0
    · have HG : Hid _ := g
      have z3 : (a : Int).tmod (un : Nat) = 0 := by rw [Int.tmod_eq_emod_of_nonneg (by omega)]; omega
      have z2 : (a : Int) % (un : Nat) = 0 := by omega
      clear g
      have z0 : ¬ ((un : Nat) : Int) = 0 := by omega
      go_wp2_with (go_at_call 59; with_reducible refine (c5 _).mono ?_; rintro e w' ⟨rfl, rfl⟩)
      go_ret
      exact ⟨by rw [← HV.out, if_neg (fun c => c HG.out)] <;> rfl, HK.out⟩
    · have HG : Hid _ := g
      obtain ⟨m, hm⟩ : ∃ m : Nat, a % un = m := ⟨_, rfl⟩
      have z2 : (a : Int) % (un : Nat) = (m : Int) := by omega
      have z3 : (a : Int).tmod (un : Nat) = (m : Int) := by rw [Int.tmod_eq_emod_of_nonneg (by omega)]; exact z2
      have z4 : (m : Int) ≠ 0 := by omega
      have z5 : ((m : Int) != 0) = true := by rw [bne_iff_ne]; exact z4
      have z0 : ¬ ((un : Nat) : Int) = 0 := by omega
      clear hm g
      go_wp2_with (go_at_call 59; with_reducible refine (c5 _).mono ?_; rintro e w' ⟨rfl, rfl⟩)
      go_ret
      exact ⟨by rw [← HV.out, if_pos HG.out] <;> rfl, HK.out⟩

set_option maxHeartbeats 4000000 in
theorem rgo_31 (s l : Int) (a : Nat) (x : Bool) (f : Int) (w : World) (h1 : 1 ≤ s) (h2 : s ≤ 2) (h3 : 0 ≤ l) (h4 : l ≤ 3) (h5 : 0 ≤ f) (h6 : f ≤ 15) (h : l = 3) : Calls Try.prog 72 #[.int .i64 s, .int .i64 l, .agg #[.int .i64 3, .int .u64 (a : Int), .bool true, .bool false, .bool x, .int .i64 f]] w fun e w' => e = .returned (.int .i64 (if topS s ≤ a then 2 else if a % unitN l 3 ≠ 0 then 3 else 0)) ∧ Kp w w' := by
  subst h
  have b1 : decide (s < 1) = false := decide_eq_false (by omega)
  have b2 : decide (2 < s) = false := decide_eq_false (by omega)
  have b5 : decide (f < 0) = false := decide_eq_false (by omega)
  have b6 : decide (15 < f) = false := decide_eq_false (by omega)
  have c4 := rtop_any s
  rw [show unitN 3 3 = 4096 from rfl]
  generalize topS s = tp at *
  clear h1 h2 h3 h4 h5 h6
  by_cases t : tp ≤ a
  · rw [if_pos t]
    have t1 : ((tp : Nat) : Int) ≤ a := by omega
    go_enter Try.func72, Try.ntmps72
    go_wp2_with fail
    go_quiet (first | (go_at_call 58; refine Calls.quiet_of_same (c4 _)))
    obtain ⟨w1, hw1⟩ : ∃ w1, w1 = (w.alloc (.cells #[.int .i64 3, .int .u64 (a : Int), .bool true, .bool false, .bool x, .int .i64 f] 73)).drewN nq := ⟨_, rfl⟩
    have B : BX w1 w.heap.size 3 a true false x f := by rw [hw1]; exact BX.made w 3 a true false x f
    have HK : Hid (Kp w w1) := by rw [hw1]; exact ((Kp.refl w).alloc _).drewN nq
    have x0 := B.c0
    have x1 := B.c1
    rw [← hw1]
    clear hw1 B
    go_wp2
    go_ret
    exact ⟨rfl, HK.out⟩
  · rw [if_neg t]
    obtain ⟨v, hv⟩ : ∃ v : Int, (if a % 4096 ≠ 0 then 3 else 0) = v := ⟨_, rfl⟩
    rw [hv]
    have HV : Hid _ := hv
    clear hv
    have t1 : ¬ ((tp : Nat) : Int) ≤ a := by omega
    go_enter Try.func72, Try.ntmps72
    go_wp2_with fail
    go_quiet (first | (go_at_call 58; refine Calls.quiet_of_same (c4 _)))
    obtain ⟨w1, hw1⟩ : ∃ w1, w1 = (w.alloc (.cells #[.int .i64 3, .int .u64 (a : Int), .bool true, .bool false, .bool x, .int .i64 f] 73)).drewN nq := ⟨_, rfl⟩
    have B : BX w1 w.heap.size 3 a true false x f := by rw [hw1]; exact BX.made w 3 a true false x f
    have HK : Hid (Kp w w1) := by rw [hw1]; exact ((Kp.refl w).alloc _).drewN nq
    have x0 := B.c0
    have x1 := B.c1
    rw [← hw1]
    clear hw1 B
    by_cases g : a % 4096 = 0
    · have HG : Hid _ := g
      have z3 : (a : Int).tmod 4096 = 0 := by rw [Int.tmod_eq_emod_of_nonneg (by omega)]; omega
      have z2 : (a : Int) % 4096 = 0 := by omega
      clear g
      go_wp2_with fail
      go_ret
      exact ⟨by rw [← HV.out, if_neg (fun c => c HG.out)] <;> rfl, HK.out⟩
    · have HG : Hid _ := g
      obtain ⟨m, hm⟩ : ∃ m : Nat, a % 4096 = m := ⟨_, rfl⟩
      have z2 : (a : Int) % 4096 = (m : Int) := by omega
      have z3 : (a : Int).tmod 4096 = (m : Int) := by rw [Int.tmod_eq_emod_of_nonneg (by omega)]; exact z2
      have z4 : (m : Int) ≠ 0 := by omega
      have z5 : ((m : Int) != 0) = true := by rw [bne_iff_ne]; exact z4
      clear hm g
      go_wp2_with fail
      go_ret
      exact ⟨by rw [← HV.out, if_pos HG.out] <;> rfl, HK.out⟩

set_option maxHeartbeats 4000000 in
theorem rgo_22 (s l : Int) (a : Nat) (x : Bool) (f : Int) (w : World) (h1 : 1 ≤ s) (h2 : s ≤ 2) (h3 : 0 ≤ l) (h4 : l ≤ 3) (h5 : 0 ≤ f) (h6 : f ≤ 15) (h : l ≠ 0) (h' : l ≠ 3) : Calls Try.prog 72 #[.int .i64 s, .int .i64 l, .agg #[.int .i64 2, .int .u64 (a : Int), .bool true, .bool true, .bool x, .int .i64 f]] w fun e w' => e = .returned (.int .i64 (if topS s ≤ a then 2 else if a % unitN l 2 ≠ 0 then 3 else 0)) ∧ Kp w w' := by
  have b1 : decide (s < 1) = false := decide_eq_false (by omega)
  have b2 : decide (2 < s) = false := decide_eq_false (by omega)
  have b3 : decide (l < 0) = false := decide_eq_false (by omega)
  have b4 : decide (3 < l) = false := decide_eq_false (by omega)
  have b5 : decide (f < 0) = false := decide_eq_false (by omega)
  have b6 : decide (15 < f) = false := decide_eq_false (by omega)
  have b7 : (l == 3) = false := by rw [beq_eq_false_iff_ne]; omega
  have b8 : (l != 3) = true := by rw [bne_iff_ne]; omega
  have b9 : (l == 0) = false := by rw [beq_eq_false_iff_ne]; omega
  have c4 := rtop_any s
  have c5 := rspan_any l
  rw [show unitN l 2 = spn l from rfl]
  have up : 0 < spn l := unit_pos (s := 1) (k := 2) (isPl_iff.2 ⟨by omega, by omega, h3, h4⟩)
  generalize topS s = tp at *
  generalize spn l = un at *
  clear h1 h2 h3 h4 h5 h6
  by_cases t : tp ≤ a
  · rw [if_pos t]
    have t1 : ((tp : Nat) : Int) ≤ a := by omega
    go_enter Try.func72, Try.ntmps72
    go_wp2_with fail
    go_quiet (first | (go_at_call 58; refine Calls.quiet_of_same (c4 _)))
    obtain ⟨w1, hw1⟩ : ∃ w1, w1 = (w.alloc (.cells #[.int .i64 2, .int .u64 (a : Int), .bool true, .bool true, .bool x, .int .i64 f] 73)).drewN nq := ⟨_, rfl⟩
    have B : BX w1 w.heap.size 2 a true true x f := by rw [hw1]; exact BX.made w 2 a true true x f
    have HK : Hid (Kp w w1) := by rw [hw1]; exact ((Kp.refl w).alloc _).drewN nq
    have x0 := B.c0
    have x1 := B.c1
    rw [← hw1]
    clear hw1 B
    go_wp2
    go_ret
    exact ⟨rfl, HK.out⟩
  · rw [if_neg t]
    obtain ⟨v, hv⟩ : ∃ v : Int, (if a % un ≠ 0 then 3 else 0) = v := ⟨_, rfl⟩
    rw [hv]
    have HV : Hid _ := hv
    clear hv
    have t1 : ¬ ((tp : Nat) : Int) ≤ a := by omega
    go_enter Try.func72, Try.ntmps72
    go_wp2_with fail
    go_quiet (first | (go_at_call 58; refine Calls.quiet_of_same (c4 _)))
    obtain ⟨w1, hw1⟩ : ∃ w1, w1 = (w.alloc (.cells #[.int .i64 2, .int .u64 (a : Int), .bool true, .bool true, .bool x, .int .i64 f] 73)).drewN nq := ⟨_, rfl⟩
    have B : BX w1 w.heap.size 2 a true true x f := by rw [hw1]; exact BX.made w 2 a true true x f
    have HK : Hid (Kp w w1) := by rw [hw1]; exact ((Kp.refl w).alloc _).drewN nq
    have x0 := B.c0
    have x1 := B.c1
    rw [← hw1]
    clear hw1 B
    by_cases g : a % un = 0
    · have HG : Hid _ := g
      have z3 : (a : Int).tmod (un : Nat) = 0 := by rw [Int.tmod_eq_emod_of_nonneg (by omega)]; omega
      have z2 : (a : Int) % (un : Nat) = 0 := by omega
      clear g
      have z0 : ¬ ((un : Nat) : Int) = 0 := by omega
      go_wp2_with (go_at_call 59; with_reducible refine (c5 _).mono ?_; rintro e w' ⟨rfl, rfl⟩)
      go_ret
      exact ⟨by rw [← HV.out, if_neg (fun c => c HG.out)] <;> rfl, HK.out⟩
    · have HG : Hid _ := g
      obtain ⟨m, hm⟩ : ∃ m : Nat, a % un = m := ⟨_, rfl⟩
      have z2 : (a : Int) % (un : Nat) = (m : Int) := by omega
      have z3 : (a : Int).tmod (un : Nat) = (m : Int) := by rw [Int.tmod_eq_emod_of_nonneg (by omega)]; exact z2
      have z4 : (m : Int) ≠ 0 := by omega
      have z5 : ((m : Int) != 0) = true := by rw [bne_iff_ne]; exact z4
      have z0 : ¬ ((un : Nat) : Int) = 0 := by omega
      clear hm g
      go_wp2_with (go_at_call 59; with_reducible refine (c5 _).mono ?_; rintro e w' ⟨rfl, rfl⟩)
      go_ret
      exact ⟨by rw [← HV.out, if_pos HG.out] <;> rfl, HK.out⟩

set_option maxHeartbeats 4000000 in
theorem rgo_32 (s l : Int) (a : Nat) (x : Bool) (f : Int) (w : World) (h1 : 1 ≤ s) (h2 : s ≤ 2) (h3 : 0 ≤ l) (h4 : l ≤ 3) (h5 : 0 ≤ f) (h6 : f ≤ 15) (h : l = 3) : Calls Try.prog 72 #[.int .i64 s, .int .i64 l, .agg #[.int .i64 3, .int .u64 (a : Int), .bool true, .bool true, .bool x, .int .i64 f]] w fun e w' => e = .returned (.int .i64 (if topS s ≤ a then 2 else if a % unitN l 3 ≠ 0 then 3 else 0)) ∧ Kp w w' := by
  subst h
  have b1 : decide (s < 1) = false := decide_eq_false (by omega)
  have b2 : decide (2 < s) = false := decide_eq_false (by omega)
  have b5 : decide (f < 0) = false := decide_eq_false (by omega)
  have b6 : decide (15 < f) = false := decide_eq_false (by omega)
  have c4 := rtop_any s
  rw [show unitN 3 3 = 4096 from rfl]
  generalize topS s = tp at *
  clear h1 h2 h3 h4 h5 h6
  by_cases t : tp ≤ a
  · rw [if_pos t]
    have t1 : ((tp : Nat) : Int) ≤ a := by omega
    go_enter Try.func72, Try.ntmps72
    go_wp2_with fail
    go_quiet (first | (go_at_call 58; refine Calls.quiet_of_same (c4 _)))
    obtain ⟨w1, hw1⟩ : ∃ w1, w1 = (w.alloc (.cells #[.int .i64 3, .int .u64 (a : Int), .bool true, .bool true, .bool x, .int .i64 f] 73)).drewN nq := ⟨_, rfl⟩
    have B : BX w1 w.heap.size 3 a true true x f := by rw [hw1]; exact BX.made w 3 a true true x f
    have HK : Hid (Kp w w1) := by rw [hw1]; exact ((Kp.refl w).alloc _).drewN nq
    have x0 := B.c0
    have x1 := B.c1
    rw [← hw1]
    clear hw1 B
    go_wp2
    go_ret
    exact ⟨rfl, HK.out⟩
  · rw [if_neg t]
    obtain ⟨v, hv⟩ : ∃ v : Int, (if a % 4096 ≠ 0 then 3 else 0) = v := ⟨_, rfl⟩
    rw [hv]
    have HV : Hid _ := hv
    clear hv
    have t1 : ¬ ((tp : Nat) : Int) ≤ a := by omega
    go_enter Try.func72, Try.ntmps72
    go_wp2_with fail
    go_quiet (first | (go_at_call 58; refine Calls.quiet_of_same (c4 _)))
    obtain ⟨w1, hw1⟩ : ∃ w1, w1 = (w.alloc (.cells #[.int .i64 3, .int .u64 (a : Int), .bool true, .bool true, .bool x, .int .i64 f] 73)).drewN nq := ⟨_, rfl⟩
    have B : BX w1 w.heap.size 3 a true true x f := by rw [hw1]; exact BX.made w 3 a true true x f
    have HK : Hid (Kp w w1) := by rw [hw1]; exact ((Kp.refl w).alloc _).drewN nq
    have x0 := B.c0
    have x1 := B.c1
    rw [← hw1]
    clear hw1 B
    by_cases g : a % 4096 = 0
    · have HG : Hid _ := g
      have z3 : (a : Int).tmod 4096 = 0 := by rw [Int.tmod_eq_emod_of_nonneg (by omega)]; omega
      have z2 : (a : Int) % 4096 = 0 := by omega
      clear g
      go_wp2_with fail
      go_ret
      exact ⟨by rw [← HV.out, if_neg (fun c => c HG.out)] <;> rfl, HK.out⟩
    · have HG : Hid _ := g
      obtain ⟨m, hm⟩ : ∃ m : Nat, a % 4096 = m := ⟨_, rfl⟩
      have z2 : (a : Int) % 4096 = (m : Int) := by omega
      have z3 : (a : Int).tmod 4096 = (m : Int) := by rw [Int.tmod_eq_emod_of_nonneg (by omega)]; exact z2
      have z4 : (m : Int) ≠ 0 := by omega
      have z5 : ((m : Int) != 0) = true := by rw [bne_iff_ne]; exact z4
      clear hm g
      go_wp2_with fail
      go_ret
      exact ⟨by rw [← HV.out, if_pos HG.out] <;> rfl, HK.out⟩

set_option maxHeartbeats 4000000 in
theorem rgo_0 (s l : Int) (w : World) (h1 : 1 ≤ s) (h2 : s ≤ 2) (h3 : 0 ≤ l) (h4 : l ≤ 3) : Calls Try.prog 72 #[.int .i64 s, .int .i64 l, .agg #[.int .i64 0, .int .u64 0, .bool false, .bool false, .bool false, .int .i64 0]] w fun e w' => e = .returned (.int .i64 0) ∧ Kp w w' := by
  have b1 : decide (s < 1) = false := decide_eq_false (by omega)
  have b2 : decide (2 < s) = false := decide_eq_false (by omega)
  have b3 : decide (l < 0) = false := decide_eq_false (by omega)
  have b4 : decide (3 < l) = false := decide_eq_false (by omega)
  have c4 := rtop_any s
  have t1 : ¬ ((topS s : Nat) : Int) ≤ 0 := by
    rcases (by omega : s = 1 ∨ s = 2) with rfl | rfl <;> decide
  generalize topS s = tp at *
  clear h1 h2 h3 h4
  go_enter Try.func72, Try.ntmps72
  go_wp2_with fail
  go_quiet (first | (go_at_call 58; refine Calls.quiet_of_same (c4 _)))
  obtain ⟨w1, hw1⟩ : ∃ w1, w1 = (w.alloc (.cells #[.int .i64 0, .int .u64 0, .bool false, .bool false, .bool false, .int .i64 0] 73)).drewN nq := ⟨_, rfl⟩
  have B : BX w1 w.heap.size 0 0 false false false 0 := by rw [hw1]; exact BX.made w 0 0 false false false 0
  have HK : Hid (Kp w w1) := by rw [hw1]; exact ((Kp.refl w).alloc _).drewN nq
  have x0 := B.c0
  have x1 := B.c1
  rw [← hw1]
  clear hw1 B
  go_wp2
  go_ret
  exact ⟨rfl, HK.out⟩

theorem rcheck_any (s l k : Int) (a : Nat) (r q x : Bool) (f : Int) (w : World) : Calls Try.prog 72 #[.int .i64 s, .int .i64 l, .agg #[.int .i64 k, .int .u64 (a : Int), .bool r, .bool q, .bool x, .int .i64 f]] w fun e w' => e = .returned (.int .i64 (dchk s l k a r q x f)) ∧ Kp w w' := by
  by_cases h : isPl s l = true ∧ isKd k = true ∧ 0 ≤ f ∧ f ≤ 15
  rotate_left
  · rw [chk1 h]; exact rcheck_arg s l k a r q x f w h
  obtain ⟨hp, hk, h5, h6⟩ := id h
  obtain ⟨h1, h2, h3, h4⟩ := isPl_iff.1 hp
  have hk' := isKd_iff.1 hk
  have hg : fm l k a r q x f = true → dchk s l k a r q x f = (if topS s ≤ a then 2 else if a % unitN l k ≠ 0 then 3 else 0) := fun c => by
    unfold dchk; rw [if_neg (fun c => c h), if_neg (by rw [c]; decide)]
  rcases (by omega : k = 0 ∨ k = 1 ∨ k = 2 ∨ k = 3) with rfl | rfl | rfl | rfl
  · cases r
    · cases q
      · cases x
        · by_cases ha : a = 0
          · subst ha
            by_cases hf : f = 0
            · subst hf
              have t : ¬ topS s ≤ 0 := by rcases (by omega : s = 1 ∨ s = 2) with rfl | rfl <;> decide
              rw [chk0 h (by simp [fm]) t (Nat.zero_mod _)]
              exact rgo_0 s l w h1 h2 h3 h4
            · rw [chk4 h (by simp [fm, hf])]
              exact rform_0f s l f w h1 h2 h3 h4 h5 h6 hf
          · rw [chk4 h (by simp [fm]; intro c; omega)]
            exact rform_0a s l a f w h1 h2 h3 h4 h5 h6 ha
        · rw [chk4 h (by simp [fm])]
          exact rform_0x s l a f w h1 h2 h3 h4 h5 h6
      · rw [chk4 h (by simp [fm])]
        exact rform_0q s l a x f w h1 h2 h3 h4 h5 h6
    · rw [chk4 h (by cases q <;> simp [fm])]
      exact rform_0r s l a q x f w h1 h2 h3 h4 h5 h6
  · by_cases hl : l = 3
    · rw [chk4 h (by cases q <;> cases r <;> simp [fm, hl])]
      exact rform_13 s l a r q x f w h1 h2 h3 h4 h5 h6 hl
    cases r
    · cases q
      · cases x
        · rw [hg (by simp [fm, hl])]
          exact rgo_1 s l a f w h1 h2 h3 h4 h5 h6 hl
        · rw [chk4 h (by simp [fm])]
          exact rform_1x s l a f w h1 h2 h3 h4 h5 h6 hl
      · rw [chk4 h (by simp [fm])]
        exact rform_1q s l a x f w h1 h2 h3 h4 h5 h6 hl
    · rw [chk4 h (by cases q <;> simp [fm])]
      exact rform_1r s l a q x f w h1 h2 h3 h4 h5 h6 hl
  · by_cases hl : l = 3
    · rw [chk4 h (by cases q <;> cases r <;> simp [fm, hl])]
      exact rform_23 s l a r q x f w h1 h2 h3 h4 h5 h6 hl
    by_cases hz : l = 0
    · rw [chk4 h (by cases q <;> cases r <;> simp [fm, hz])]
      exact rform_20 s l a r q x f w h1 h2 h3 h4 h5 h6 hz
    cases r
    · cases q
      · rw [hg (by simp [fm, hl, hz])]
        exact rgo_20 s l a x f w h1 h2 h3 h4 h5 h6 hz hl
      · rw [chk4 h (by simp [fm])]
        exact rform_2q s l a x f w h1 h2 h3 h4 h5 h6 hz hl
    · cases q
      · rw [hg (by simp [fm, hl, hz])]
        exact rgo_21 s l a x f w h1 h2 h3 h4 h5 h6 hz hl
      · rw [hg (by simp [fm, hl, hz])]
        exact rgo_22 s l a x f w h1 h2 h3 h4 h5 h6 hz hl
  · by_cases hl : l = 3
    rotate_left
    · rw [chk4 h (by cases q <;> cases r <;> simp [fm, hl])]
      exact rform_3 s l a r q x f w h1 h2 h3 h4 h5 h6 hl
    cases r
    · cases q
      · rw [hg (by simp [fm, hl])]
        exact rgo_30 s l a x f w h1 h2 h3 h4 h5 h6 hl
      · rw [chk4 h (by simp [fm])]
        exact rform_3q s l a x f w h1 h2 h3 h4 h5 h6 hl
    · cases q
      · rw [hg (by simp [fm, hl])]
        exact rgo_31 s l a x f w h1 h2 h3 h4 h5 h6 hl
      · rw [hg (by simp [fm, hl])]
        exact rgo_32 s l a x f w h1 h2 h3 h4 h5 h6 hl

end Go.Proofs.Ytclcickhgoiooaa

/- desc: the document's Encode. -/
namespace Go.Proofs.Ytclcickhgoiooaa
open Go.RowKit

theorem rbit_1 (b : Bool) (w : World) : Calls Try.prog 73 #[.bool b, .int .i64 1] w fun e w' => e = .returned (.int .u64 (2 * oneN b : Nat)) ∧ w' = w := by
  cases b
  all_goals
    go_enter Try.func73, Try.ntmps73
    go_wp2
    go_ret
    exact ⟨rfl, rfl⟩
theorem rbit_6 (b : Bool) (w : World) : Calls Try.prog 73 #[.bool b, .int .i64 6] w fun e w' => e = .returned (.int .u64 (64 * oneN b : Nat)) ∧ w' = w := by
  cases b
  all_goals
    go_enter Try.func73, Try.ntmps73
    go_wp2
    go_ret
    exact ⟨rfl, rfl⟩
theorem rbit_7 (b : Bool) (w : World) : Calls Try.prog 73 #[.bool b, .int .i64 7] w fun e w' => e = .returned (.int .u64 (128 * oneN b : Nat)) ∧ w' = w := by
  cases b
  all_goals
    go_enter Try.func73, Try.ntmps73
    go_wp2
    go_ret
    exact ⟨rfl, rfl⟩
theorem rbit_8 (b : Bool) (w : World) : Calls Try.prog 73 #[.bool b, .int .i64 8] w fun e w' => e = .returned (.int .u64 (256 * oneN b : Nat)) ∧ w' = w := by
  cases b
  all_goals
    go_enter Try.func73, Try.ntmps73
    go_wp2
    go_ret
    exact ⟨rfl, rfl⟩

theorem u64_id {z : Int} (h : 0 ≤ z) (h' : z < 18446744073709551616) : IntKind.u64.wrap z = z := by
  simp [IntKind.wrap, IntKind.bits, IntKind.signed]; omega
theorem sum_wrap {m1 m2 m3 m4 a g : Nat} (h1 : (m1 : Int) ≤ 2) (h2 : (m2 : Int) ≤ 64) (h3 : (m3 : Int) ≤ 128) (h4 : (m4 : Int) ≤ 256) (h5 : a < topS 1) (h6 : (g : Int) ≤ 15) :
    IntKind.u64.wrap (IntKind.u64.wrap (IntKind.u64.wrap (IntKind.u64.wrap (IntKind.u64.wrap (IntKind.u64.wrap (1 + (m1 : Int)) + m2) + m3) + m4) + a) + (g : Int) * 36028797018963968) = ((1 + m1 + m2 + m3 + m4 + a + g * 36028797018963968 : Nat) : Int) := by
  have h5' : a < 1099511627776 := h5
  rw [u64_id (z := 1 + (m1 : Int)) (by omega) (by omega)]
  rw [u64_id (z := 1 + (m1 : Int) + m2) (by omega) (by omega)]
  rw [u64_id (z := 1 + (m1 : Int) + m2 + m3) (by omega) (by omega)]
  rw [u64_id (z := 1 + (m1 : Int) + m2 + m3 + m4) (by omega) (by omega)]
  rw [u64_id (z := 1 + (m1 : Int) + m2 + m3 + m4 + a) (by omega) (by omega)]
  rw [u64_id (by omega) (by omega)]
  omega

set_option maxHeartbeats 4000000 in
set_option maxRecDepth 10000 in
theorem rencode_any (s l k : Int) (a : Nat) (r q x : Bool) (f : Int) (w : World) :
    Calls Try.prog 57 #[.int .i64 s, .int .i64 l, .agg #[.int .i64 k, .int .u64 (a : Int), .bool r, .bool q, .bool x, .int .i64 f]] w fun e w' => e = .returned (.tuple #[.int .u64 (dencN s l k a r q x f : Nat), .int .i64 (dchk s l k a r q x f)]) ∧ Kp w w' := by
  have c1 := rcheck_any s l k a r q x f
  by_cases h : dchk s l k a r q x f = 0
  · rw [dencN, if_pos h, h]
    rw [h] at c1
    by_cases hk : k = 0
    · subst hk
      rw [wrd, if_pos rfl]
      clear h
      go_enter Try.func57, Try.ntmps57
      go_wp2_with fail
      with_reducible refine (c1 _).mono ?_
      rintro e w1 ⟨rfl, K⟩
      have B := (BX.made w 0 a r q x f).kp K
      have HK : Hid (Kp w w1) := ((Kp.refl _).alloc _).trans K
      have x0 := B.c0
      clear K B
      go_wp2
      go_ret2
      exact ⟨rfl, HK.out⟩
    · rw [wrd, if_neg hk]
      obtain ⟨c, ha, hc⟩ := chk_addr h
      obtain ⟨_, _, ⟨hf0, hf1⟩, _⟩ := chk_ok h
      obtain ⟨g, rfl⟩ : ∃ g : Nat, f = g := ⟨f.toNat, by omega⟩
      obtain ⟨bb, hbb⟩ : ∃ bb, (k != 2) = bb := ⟨_, rfl⟩
      rw [hbb, Int.toNat_natCast]
      have o1 := one_lt bb
      have o2 := one_lt r
      have o3 := one_lt q
      have o4 := one_lt x
      have s1 := rbit_1 bb
      have s2 := rbit_6 r
      have s3 := rbit_7 q
      have s4 := rbit_8 x
      obtain ⟨m1, e1⟩ : ∃ n, n = 2 * oneN bb := ⟨_, rfl⟩
      obtain ⟨m2, e2⟩ : ∃ n, n = 64 * oneN r := ⟨_, rfl⟩
      obtain ⟨m3, e3⟩ : ∃ n, n = 128 * oneN q := ⟨_, rfl⟩
      obtain ⟨m4, e4⟩ : ∃ n, n = 256 * oneN x := ⟨_, rfl⟩
      rw [← e1, ← e2, ← e3, ← e4]
      rw [← e1] at s1
      have t1 : Aside _ := s1
      clear s1
      rw [← e2] at s2
      have t2 : Aside _ := s2
      clear s2
      rw [← e3] at s3
      have t3 : Aside _ := s3
      clear s3
      rw [← e4] at s4
      have t4 : Aside _ := s4
      clear s4
      have i1 : Hid ((m1 : Int) ≤ 2) := by show (m1 : Int) ≤ 2; omega
      have i2 : Hid ((m2 : Int) ≤ 64) := by show (m2 : Int) ≤ 64; omega
      have i3 : Hid ((m3 : Int) ≤ 128) := by show (m3 : Int) ≤ 128; omega
      have i4 : Hid ((m4 : Int) ≤ 256) := by show (m4 : Int) ≤ 256; omega
      have i5 : Hid (a < topS 1) := by show a < 1099511627776; omega
      have g1 : (g : Int) ≤ 15 := by omega
      clear e1 e2 e3 e4 o1 o2 o3 o4 h ha hc hf0 hf1
      go_enter Try.func57, Try.ntmps57
      go_wp2_with fail
      with_reducible refine (c1 _).mono ?_
      rintro e w1 ⟨rfl, K⟩
      have B := (BX.made w k a r q x g).kp K
      have HK : Hid (Kp w w1) := ((Kp.refl _).alloc _).trans K
      have x0 := B.c0
      have x1 := B.c1
      have x2 := B.c2
      have x3 := B.c3
      have x4 := B.c4
      have x5 := B.c5
      clear K B c1
      go_wp2_with fail
      go_quiet (first | (go_at_call 73; go_must (first | (with_reducible refine Calls.quiet_of_same (t1.out _)) | (with_reducible refine Calls.quiet_of_same (t2.out _)) | (with_reducible refine Calls.quiet_of_same (t3.out _)) | (with_reducible refine Calls.quiet_of_same (t4.out _)))))
      go_wp2_with fail
      go_ret2
      exact ⟨congrArg (fun z : Int => Ending.returned (.tuple #[.int .u64 z, .int .i64 0])) (sum_wrap i1.out i2.out i3.out i4.out i5.out g1), HK.out.drewN _⟩
  · rw [dencN, if_neg h]
    generalize dchk s l k a r q x f = e at *
    have h1 : (e != 0) = true := by rw [bne_iff_ne]; exact h
    go_enter Try.func57, Try.ntmps57
    go_wp2_with fail
    with_reducible refine (c1 _).mono ?_
    rintro e w1 ⟨rfl, K⟩
    have HK : Hid (Kp w w1) := ((Kp.refl _).alloc _).trans K
    clear K
    go_wp2
    go_ret2
    exact ⟨rfl, HK.out⟩

end Go.Proofs.Ytclcickhgoiooaa

/- desc: the document's split of a word. -/
namespace Go.Proofs.Ytclcickhgoiooaa
open Go.RowKit

theorem and_addr (u : Nat) : u &&& 281474976706560 = adN u := by
  have e1 : (u &&& 281474976706560) % 2 ^ 12 = 0 := by
    rw [Nat.and_mod_two_pow, show (281474976706560 : Nat) % 2 ^ 12 = 0 from by decide +kernel, Nat.and_zero]
  have e2 : (u &&& 281474976706560) / 2 ^ 12 = u / 2 ^ 12 % 2 ^ 36 := by
    rw [← Nat.shiftRight_eq_div_pow, Nat.shiftRight_and_distrib, show (281474976706560 : Nat) >>> 12 = 2 ^ 36 - 1 from by decide +kernel, Nat.and_two_pow_sub_one_eq_mod, Nat.shiftRight_eq_div_pow]
  unfold adN fieldN
  rw [← e2]
  omega
/-- A word without its address. -/
def lowW (u : Nat) : Nat := u - adN u
theorem and_low_word (u : Nat) (hu : u < 18446744073709551616) : u &&& (18446744073709551615 - 281474976706560) = lowW u := by
  rw [show (18446744073709551615 - 281474976706560 : Nat) = 18446462598732845055 from by decide +kernel]
  have e1 : (u &&& 18446462598732845055) % 2 ^ 12 = u % 2 ^ 12 := by
    rw [Nat.and_mod_two_pow, show (18446462598732845055 : Nat) % 2 ^ 12 = 2 ^ 12 - 1 from by decide +kernel, Nat.and_two_pow_sub_one_eq_mod, Nat.mod_mod]
  have e2 : (u &&& 18446462598732845055) / 2 ^ 12 % 2 ^ 36 = 0 := by
    rw [← Nat.shiftRight_eq_div_pow, Nat.shiftRight_and_distrib, Nat.and_mod_two_pow, show (18446462598732845055 : Nat) >>> 12 % 2 ^ 36 = 0 from by decide +kernel, Nat.and_zero]
  have e3 : (u &&& 18446462598732845055) / 2 ^ 48 = u / 2 ^ 48 := by
    rw [← Nat.shiftRight_eq_div_pow, Nat.shiftRight_and_distrib, show (18446462598732845055 : Nat) >>> 48 = 2 ^ 16 - 1 from by decide +kernel, Nat.and_two_pow_sub_one_eq_mod, Nat.shiftRight_eq_div_pow]
    omega
  unfold lowW adN fieldN
  generalize u &&& 18446462598732845055 = y at *
  omega

theorem bt_cast (u i : Nat) : ((fieldN u i 1 : Nat) : Int) = ((oneN (btN u i) : Nat) : Int) := by
  have := field_lt u i 1
  unfold btN oneN
  by_cases c : fieldN u i 1 = 1
  · rw [c]; rfl
  · rw [if_neg (by simpa using c)]; omega
theorem one_eq (b : Bool) : (((oneN b : Nat) : Int) == 1) = b := by cases b <;> rfl
theorem one_two (b : Bool) : (((2 * oneN b : Nat) : Int) != 0) = b := by cases b <;> rfl
theorem one_zero (b : Bool) : (((oneN b : Nat) : Int) == 0) = !b := by cases b <;> rfl

/-- A word's low bits, asked by and. -/
theorem ask_at (u i : Nat) (z : Int) (hz : z = (u : Int) / 2 ^ i) (hu : u < 18446744073709551616) : bits .and .u64 z 1 = ((oneN (btN u i) : Nat) : Int) := by
  rw [hz, ← bt_cast]
  exact field_and u i 1 hu (by decide)
theorem ask_0 (u : Nat) (hu : u < 18446744073709551616) : bits .and .u64 (u : Int) 1 = ((oneN (btN u 0) : Nat) : Int) := ask_at u 0 _ (by simp) hu
theorem ask_1 (u : Nat) (hu : u < 18446744073709551616) : bits .and .u64 (u : Int) 2 = ((2 * oneN (btN u 1) : Nat) : Int) := by
  have h := u64_and_nat u 2 hu (by decide)
  refine h.trans ?_
  have e1 : (u &&& 2) % 2 ^ 1 = 0 := by rw [Nat.and_mod_two_pow, show (2 : Nat) % 2 ^ 1 = 0 from rfl, Nat.and_zero]
  have e2 : (u &&& 2) / 2 ^ 1 = u / 2 ^ 1 % 2 ^ 1 := by
    rw [← Nat.shiftRight_eq_div_pow, Nat.shiftRight_and_distrib, show (2 : Nat) >>> 1 = 2 ^ 1 - 1 from rfl, Nat.and_two_pow_sub_one_eq_mod, Nat.shiftRight_eq_div_pow]
  have b := bt_cast u 1
  unfold fieldN at b
  omega

set_option maxHeartbeats 4000000 in
theorem rsplit_any (l : Int) (u : Nat) (w : World) (hu : u < 18446744073709551616) :
    Calls Try.prog 79 #[.int .i64 l, .int .u64 (u : Int)] w fun e w' => e = .returned (.agg #[.int .i64 (kdN l u), .int .u64 (adN u : Nat), .bool (btN u 6), .bool (btN u 7), .bool (btN u 8), .int .i64 (fieldN u 55 4 : Nat)]) ∧ Kp w w' := by
  have p1 : bits .and .u64 (u : Int) 281474976706560 = ((adN u : Nat) : Int) := by rw [← and_addr]; exact u64_and_nat u 281474976706560 hu (by decide)
  have p2 : bits .and .u64 ((u : Int) / 36028797018963968) 15 = ((fieldN u 55 4 : Nat) : Int) := field_and u 55 4 hu (by decide)
  have p3 : bits .and .u64 ((u : Int) / 64) 1 = ((oneN (btN u 6) : Nat) : Int) := ask_at u 6 _ (by rfl) hu
  have p4 : bits .and .u64 ((u : Int) / 128) 1 = ((oneN (btN u 7) : Nat) : Int) := ask_at u 7 _ (by rfl) hu
  have p5 : bits .and .u64 ((u : Int) / 256) 1 = ((oneN (btN u 8) : Nat) : Int) := ask_at u 8 _ (by rfl) hu
  have p6 := ask_1 u hu
  have q3 := one_eq (btN u 6)
  have q4 := one_eq (btN u 7)
  have q5 := one_eq (btN u 8)
  have q6 := one_two (btN u 1)
  have f1 : (fieldN u 55 4 : Nat) < 16 := field_lt u 55 4
  have f2 : ((fieldN u 55 4 : Nat) : Int) < 16 := by omega
  unfold kdN
  clear f1 hu
  generalize fieldN u 55 4 = f at *
  generalize adN u = a at *
  generalize btN u 6 = r at *
  generalize btN u 7 = q at *
  generalize btN u 8 = x at *
  generalize btN u 1 = b at *
  generalize ((oneN r : Nat) : Int) = rr at *
  generalize ((oneN q : Nat) : Int) = qq at *
  generalize ((oneN x : Nat) : Int) = xx at *
  generalize ((2 * oneN b : Nat) : Int) = bb at *
  cases b
  · rw [if_pos rfl]
    go_enter Try.func79, Try.ntmps79
    go_wp2
    refine bodyPost_ret (res_d rfl rfl ((BX.made w 2 a r q x f).kp ((Kp.refl _).alloc _))) rfl ⟨rfl, ((Kp.refl _).alloc _).alloc _⟩
  · rw [if_neg (by decide)]
    by_cases c : l = 3
    · subst c
      rw [if_pos rfl]
      go_enter Try.func79, Try.ntmps79
      go_wp2
      refine bodyPost_ret (res_d rfl rfl ((BX.made w 3 a r q x f).kp ((Kp.refl _).alloc _))) rfl ⟨rfl, ((Kp.refl _).alloc _).alloc _⟩
    · have c1 : (l == 3) = false := by rw [beq_eq_false_iff_ne]; exact c
      rw [if_neg c]
      go_enter Try.func79, Try.ntmps79
      go_wp2
      refine bodyPost_ret (res_d rfl rfl ((BX.made w 1 a r q x f).kp ((Kp.refl _).alloc _))) rfl ⟨rfl, ((Kp.refl _).alloc _).alloc _⟩

end Go.Proofs.Ytclcickhgoiooaa

/- desc: a word and its parts, by reckoning. -/
namespace Go.Proofs.Ytclcickhgoiooaa
open Go.RowKit

theorem bt_one (u i : Nat) : oneN (btN u i) = u / 2 ^ i % 2 := by
  have := bt_cast u i
  unfold fieldN at this
  omega
theorem bt_iff (u i : Nat) : btN u i = true ↔ u / 2 ^ i % 2 = 1 := by
  have := bt_one u i
  cases h : btN u i
  · rw [h] at this; simp [oneN] at this; simp; omega
  · rw [h] at this; simp [oneN] at this; simp; omega
theorem kd_ne (l : Int) (u : Nat) : kdN l u = 1 ∨ kdN l u = 2 ∨ kdN l u = 3 := by unfold kdN; split; exact .inr (.inl rfl); split; exact .inr (.inr rfl); exact .inl rfl
theorem kd_two (l : Int) (u : Nat) : (kdN l u != 2) = btN u 1 := by
  unfold kdN
  cases btN u 1
  · rfl
  · rw [if_neg (by decide)]; split <;> rfl

/-- The word of the parts, and what may not be, is the word. -/
theorem wrd_parts (l : Int) (u : Nat) (hu : u < 18446744073709551616) (h0 : btN u 0 = true) :
    wrd (kdN l u) (adN u) (btN u 6) (btN u 7) (btN u 8) (fieldN u 55 4 : Nat) + 4 * fieldN u 2 4 + 512 * fieldN u 9 3 + 281474976710656 * fieldN u 48 7 + 576460752303423488 * fieldN u 59 5 = u := by
  have k0 : kdN l u ≠ 0 := by rcases kd_ne l u with h | h | h <;> rw [h] <;> decide
  unfold wrd
  rw [if_neg k0, kd_two, bt_one, bt_one, bt_one, bt_one, Int.toNat_natCast]
  have e0 := (bt_iff u 0).1 h0
  unfold adN fieldN
  omega
theorem rsv_iff (u : Nat) : rsv u = false ↔ fieldN u 2 4 = 0 ∧ fieldN u 9 3 = 0 ∧ fieldN u 48 7 = 0 ∧ fieldN u 59 5 = 0 := by
  unfold rsv bsN
  simp [Bool.or_eq_false_iff, and_assoc]
theorem wrd_iff (l : Int) (u : Nat) (hu : u < 18446744073709551616) (h0 : btN u 0 = true) :
    wrd (kdN l u) (adN u) (btN u 6) (btN u 7) (btN u 8) (fieldN u 55 4 : Nat) = u ↔ rsv u = false := by
  have := wrd_parts l u hu h0
  rw [rsv_iff]
  generalize wrd (kdN l u) (adN u) (btN u 6) (btN u 7) (btN u 8) (fieldN u 55 4 : Nat) = z at *
  omega

theorem low_lt (u : Nat) (hu : u < 18446744073709551616) : lowW u < 18446744073709551616 := by unfold lowW; omega
theorem low_ad (u : Nat) : adN (lowW u) = 0 := by unfold lowW adN fieldN; omega
theorem low_at (u i n : Nat) (h : i + n ≤ 12 ∨ 48 ≤ i) : fieldN (lowW u) i n = fieldN u i n := by
  have e : lowW u = u % 4096 + u / 281474976710656 * 281474976710656 := by unfold lowW adN fieldN; omega
  rw [e]
  unfold fieldN
  rcases h with h | h
  · have d : ∃ z, 281474976710656 = 2 ^ i * (2 ^ n * z) := ⟨2 ^ (48 - i - n), by rw [← Nat.pow_add, ← Nat.pow_add, show i + (n + (48 - i - n)) = 48 by omega]⟩
    have d2 : ∃ z, 4096 = 2 ^ i * (2 ^ n * z) := ⟨2 ^ (12 - i - n), by rw [← Nat.pow_add, ← Nat.pow_add, show i + (n + (12 - i - n)) = 12 by omega]⟩
    obtain ⟨z, hz⟩ := d
    obtain ⟨y, hy⟩ := d2
    have a1 : ∀ v t : Nat, (v + 2 ^ i * (2 ^ n * t)) / 2 ^ i % 2 ^ n = v / 2 ^ i % 2 ^ n := fun v t => by
      rw [Nat.add_mul_div_left _ _ (Nat.two_pow_pos i), Nat.add_mul_mod_self_left]
    have b1 : u / 281474976710656 * 281474976710656 = 2 ^ i * (2 ^ n * (z * (u / 281474976710656))) := by
      rw [Nat.mul_comm, hz]
      generalize u / (2 ^ i * (2 ^ n * z)) = t
      rw [Nat.mul_assoc, Nat.mul_assoc]
    rw [b1, a1]
    have b2 : u = u % 4096 + 2 ^ i * (2 ^ n * (y * (u / 4096))) := by
      have : 4096 * (u / 4096) = 2 ^ i * (2 ^ n * (y * (u / 4096))) := by
        rw [← Nat.mul_assoc (2 ^ n), ← Nat.mul_assoc (2 ^ i), ← hy]
      omega
    have b3 := a1 (u % 4096) (y * (u / 4096))
    rw [← b2] at b3
    exact b3.symm
  · obtain ⟨j, rfl⟩ : ∃ j, i = 48 + j := ⟨i - 48, by omega⟩
    rw [Nat.pow_add, ← Nat.div_div_eq_div_mul, ← Nat.div_div_eq_div_mul]
    congr 2
    omega
theorem low_bt (u i : Nat) (h : i < 12) : btN (lowW u) i = btN u i := by unfold btN; rw [low_at u i 1 (by omega)]
theorem low_kd (l : Int) (u : Nat) : kdN l (lowW u) = kdN l u := by unfold kdN; rw [low_bt u 1 (by decide)]
theorem low_rsv (u : Nat) : rsv (lowW u) = rsv u := by
  unfold rsv bsN
  rw [low_at u 2 4 (by decide), low_at u 9 3 (by decide), low_at u 48 7 (by decide), low_at u 59 5 (by decide)]
theorem fm_addr {l k : Int} (hk : k = 1 ∨ k = 2 ∨ k = 3) (a a' : Int) (r q x : Bool) (f : Int) : fm l k a r q x f = fm l k a' r q x f := by
  unfold fm
  rcases hk with rfl | rfl | rfl <;> simp
theorem low_fm (l : Int) (u : Nat) : fmW l (lowW u) = fmW l u := by
  unfold fmW
  rw [low_kd, low_bt u 6 (by decide), low_bt u 7 (by decide), low_bt u 8 (by decide), low_at u 55 4 (by decide)]
  exact fm_addr (kd_ne l u) _ _ _ _ _ _

/-- What refuses the parts of a word. -/
theorem chk_parts (s l : Int) (u : Nat) (hp : isPl s l = true) :
    dchk s l (kdN l u) (adN u) (btN u 6) (btN u 7) (btN u 8) (fieldN u 55 4 : Nat) = 0 ↔ fmW l u = true ∧ ¬ topS s ≤ adN u ∧ adN u % unitN l (kdN l u) = 0 := by
  have f1 := field_lt u 55 4
  have hh : isPl s l = true ∧ isKd (kdN l u) = true ∧ 0 ≤ ((fieldN u 55 4 : Nat) : Int) ∧ ((fieldN u 55 4 : Nat) : Int) ≤ 15 :=
    ⟨hp, by rcases kd_ne l u with h | h | h <;> rw [h] <;> rfl, by omega, by omega⟩
  unfold dchk fmW
  rw [if_neg (fun c => c hh)]
  generalize fm l (kdN l u) (adN u : Nat) (btN u 6) (btN u 7) (btN u 8) (fieldN u 55 4 : Nat) = fo
  cases fo
  · simp
  · rw [if_neg (by decide)]
    by_cases c : topS s ≤ adN u
    · rw [if_pos c]; simp [c]
    · rw [if_neg c]
      by_cases d : adN u % unitN l (kdN l u) = 0
      · rw [if_neg (fun k => k d)]; simp [c, d]
      · rw [if_pos d]; simp [d]
def encW (s l : Int) (u : Nat) : Nat := dencN s l (kdN l u) (adN u) (btN u 6) (btN u 7) (btN u 8) (fieldN u 55 4 : Nat)
def chkW (s l : Int) (u : Nat) : Int := dchk s l (kdN l u) (adN u) (btN u 6) (btN u 7) (btN u 8) (fieldN u 55 4 : Nat)
/-- A word that is there: its parts are a descriptor, and its word. -/
theorem dec_iff (s l : Int) (u : Nat) (hu : u < 18446744073709551616) (hp : isPl s l = true) (h0 : btN u 0 = true) :
    (chkW s l u = 0 ∧ encW s l u = u) ↔ decG s l u = true := by
  unfold decG outG
  rw [hp, h0]
  have h1 : chkW s l u = 0 ↔ _ := chk_parts s l u hp
  have h2 := wrd_iff l u hu h0
  constructor
  · rintro ⟨a, b⟩
    have c := h1.1 a
    unfold encW dencN at b
    rw [if_pos (show dchk s l (kdN l u) (adN u) (btN u 6) (btN u 7) (btN u 8) (fieldN u 55 4 : Nat) = 0 from a)] at b
    have d := h2.1 b
    rw [d, c.1, decide_eq_false c.2.1, decide_eq_false (fun k => k c.2.2)]
    rfl
  · intro a
    simp only [Bool.true_and, Bool.and_eq_true, Bool.not_eq_true', decide_eq_false_iff_not] at a
    obtain ⟨⟨⟨a1, a2⟩, a3⟩, a4⟩ := a
    have c := h1.2 ⟨a2, a3, Decidable.not_not.1 a4⟩
    refine ⟨c, ?_⟩
    unfold encW dencN
    rw [if_pos (show dchk s l (kdN l u) (adN u) (btN u 6) (btN u 7) (btN u 8) (fieldN u 55 4 : Nat) = 0 from c)]
    exact h2.2 a1
theorem top_pos {s l : Int} (hp : isPl s l = true) : 0 < topS s := by
  have := isPl_iff.1 hp
  rcases (by omega : s = 1 ∨ s = 2) with rfl | rfl <;> decide
theorem low_iff (s l : Int) (u : Nat) (hu : u < 18446744073709551616) (hp : isPl s l = true) (h0 : btN u 0 = true) :
    (chkW s l (lowW u) = 0 ∧ encW s l (lowW u) = lowW u) ↔ (rsv u = false ∧ fmW l u = true) := by
  have e := dec_iff s l (lowW u) (low_lt u hu) hp (by rw [low_bt u 0 (by decide)]; exact h0)
  rw [e]
  unfold decG outG
  rw [hp, low_bt u 0 (by decide), h0, low_rsv, low_fm, low_ad, Nat.zero_mod, decide_eq_false (by have := top_pos hp; omega)]
  cases rsv u <;> cases fmW l u <;> simp

end Go.Proofs.Ytclcickhgoiooaa

/- desc: the document's Decode. -/
namespace Go.Proofs.Ytclcickhgoiooaa
open Go.RowKit

theorem dec_none (s l : Int) (u : Nat) (hp : isPl s l = false) : decG s l u = false ∧ decE s l u = 1 := by
  unfold decG decE outG outE
  rw [hp]
  exact ⟨rfl, rfl⟩
theorem dec_not (s l : Int) (u : Nat) (hp : isPl s l = true) (h0 : btN u 0 = false) : decG s l u = false ∧ decE s l u = 0 := by
  unfold decG decE outG outE
  rw [hp, h0]
  exact ⟨rfl, rfl⟩
theorem dec_good (s l : Int) (u : Nat) (h : decG s l u = true) : decE s l u = 0 ∧ isPl s l = true ∧ btN u 0 = true := by
  unfold decG outG at h
  unfold decE
  simp only [Bool.and_eq_true, Bool.not_eq_true'] at h
  obtain ⟨⟨⟨⟨⟨h1, h2⟩, h3⟩, h4⟩, h5⟩, h6⟩ := h
  rw [h1, h2, h3, h4, h5, h6]
  exact ⟨rfl, rfl, rfl⟩
theorem dec_bad (s l : Int) (u : Nat) (hp : isPl s l = true) (h0 : btN u 0 = true) (h : decG s l u = false) :
    decE s l u = if (rsv u = false ∧ fmW l u = true) ∧ topS s ≤ adN u then 2 else 4 := by
  unfold decG outG at h
  unfold decE outE
  rw [hp, h0] at *
  cases h1 : rsv u
  · cases h2 : fmW l u
    · simp
    · rw [h1, h2] at h
      by_cases c : topS s ≤ adN u
      · simp [c]
      · rw [decide_eq_false c] at h ⊢
        simp at h
        simp [c, h]
  · simp

set_option maxHeartbeats 8000000 in
set_option maxRecDepth 10000 in
theorem rdecode_any (s l : Int) (u : Nat) (w : World) (hu : u < 18446744073709551616) :
    Calls Try.prog 66 #[.int .i64 s, .int .i64 l, .int .u64 (u : Int)] w fun e w' => e = .returned (.tuple #[.agg #[.int .i64 (cond (decG s l u) (kdN l u) 0), .int .u64 ((cond (decG s l u) (adN u) 0 : Nat) : Int), .bool (cond (decG s l u) (btN u 6) false), .bool (cond (decG s l u) (btN u 7) false), .bool (cond (decG s l u) (btN u 8) false), .int .i64 ((cond (decG s l u) (fieldN u 55 4) 0 : Nat) : Int)], .int .i64 (decE s l u)]) ∧ Kp w w' := by
  by_cases hp : ¬ (1 ≤ s ∧ s ≤ 2 ∧ 0 ≤ l ∧ l ≤ 3)
  · rw [(dec_none s l u (isPl_not hp)).1, (dec_none s l u (isPl_not hp)).2]
    simp only [cond_false]
    clear hu
    by_cases c0 : s < 1
    · clear hp
      go_enter Try.func66, Try.ntmps66
      go_wp2
      refine bodyPost_ret (res_d2 rfl rfl (BX.made w 0 0 false false false 0)) rfl ⟨rfl, (Kp.refl w).alloc _⟩
    by_cases c1 : 2 < s
    · clear hp
      go_enter Try.func66, Try.ntmps66
      go_wp2
      refine bodyPost_ret (res_d2 rfl rfl (BX.made w 0 0 false false false 0)) rfl ⟨rfl, (Kp.refl w).alloc _⟩
    by_cases c2 : l < 0
    · clear hp
      go_enter Try.func66, Try.ntmps66
      go_wp2
      refine bodyPost_ret (res_d2 rfl rfl (BX.made w 0 0 false false false 0)) rfl ⟨rfl, (Kp.refl w).alloc _⟩
    have c3 : 3 < l := by omega
    clear hp
    go_enter Try.func66, Try.ntmps66
    go_wp2
    refine bodyPost_ret (res_d2 rfl rfl (BX.made w 0 0 false false false 0)) rfl ⟨rfl, (Kp.refl w).alloc _⟩
  have hp := Decidable.not_not.1 hp
  have hq : isPl s l = true := isPl_iff.2 hp
  have b1 : decide (s < 1) = false := decide_eq_false (by omega)
  have b2 : decide (2 < s) = false := decide_eq_false (by omega)
  have b3 : decide (l < 0) = false := decide_eq_false (by omega)
  have b4 : decide (3 < l) = false := decide_eq_false (by omega)
  have p0 := ask_0 u hu
  have z0 := one_zero (btN u 0)
  by_cases h0 : btN u 0 = false
  · rw [(dec_not s l u hq h0).1, (dec_not s l u hq h0).2]
    simp only [cond_false]
    rw [h0] at z0 p0
    rw [Bool.not_false] at z0
    generalize ((oneN false : Nat) : Int) = zz at *
    clear hu hp hq h0
    go_enter Try.func66, Try.ntmps66
    go_wp2
    refine bodyPost_ret (res_d2 rfl rfl (BX.made w 0 0 false false false 0)) rfl ⟨rfl, (Kp.refl w).alloc _⟩
  have h0 : btN u 0 = true := by simpa using h0
  rw [h0] at z0 p0
  rw [Bool.not_true] at z0
  generalize ((oneN true : Nat) : Int) = zz at *
  have s1 : Aside (∀ w, Calls Try.prog 79 #[.int .i64 l, .int .u64 (u : Int)] w fun e w' => e = .returned (.agg #[.int .i64 (kdN l u), .int .u64 (adN u : Nat), .bool (btN u 6), .bool (btN u 7), .bool (btN u 8), .int .i64 (fieldN u 55 4 : Nat)]) ∧ Kp w w') := fun w => rsplit_any l u w hu
  have s2 : Aside (∀ w, Calls Try.prog 57 #[.int .i64 s, .int .i64 l, .agg #[.int .i64 (kdN l u), .int .u64 (adN u : Nat), .bool (btN u 6), .bool (btN u 7), .bool (btN u 8), .int .i64 (fieldN u 55 4 : Nat)]] w fun e w' => e = .returned (.tuple #[.int .u64 (encW s l u : Nat), .int .i64 (chkW s l u)]) ∧ Kp w w') := fun w => rencode_any s l _ _ _ _ _ _ w
  have s3 : Aside (∀ w, Calls Try.prog 79 #[.int .i64 l, .int .u64 (lowW u : Nat)] w fun e w' => e = .returned (.agg #[.int .i64 (kdN l (lowW u)), .int .u64 (adN (lowW u) : Nat), .bool (btN (lowW u) 6), .bool (btN (lowW u) 7), .bool (btN (lowW u) 8), .int .i64 (fieldN (lowW u) 55 4 : Nat)]) ∧ Kp w w') := fun w => rsplit_any l (lowW u) w (low_lt u hu)
  have s4 : Aside (∀ w, Calls Try.prog 57 #[.int .i64 s, .int .i64 l, .agg #[.int .i64 (kdN l (lowW u)), .int .u64 (adN (lowW u) : Nat), .bool (btN (lowW u) 6), .bool (btN (lowW u) 7), .bool (btN (lowW u) 8), .int .i64 (fieldN (lowW u) 55 4 : Nat)]] w fun e w' => e = .returned (.tuple #[.int .u64 (encW s l (lowW u) : Nat), .int .i64 (chkW s l (lowW u))]) ∧ Kp w w') := fun w => rencode_any s l _ _ _ _ _ _ w
  have c4 := rtop_any s
  have p1 : bits .andNot .u64 (u : Int) 281474976706560 = ((lowW u : Nat) : Int) := by rw [← and_low_word u hu]; exact u64_andNot_nat u 281474976706560 hu (by decide)
  have d1 := dec_iff s l u hu hq h0
  have d2 := low_iff s l u hu hq h0
  have d3 := dec_bad s l u hq h0
  have d4 := dec_good s l u
  obtain ⟨E, hE⟩ : ∃ E, decE s l u = E := ⟨_, rfl⟩
  rw [hE] at d3 d4 ⊢
  simp only [← d2] at d3
  clear hu hp hq h0 d2 hE
  generalize decG s l u = G at *
  generalize topS s = tp at *
  generalize lowW u = lo at *
  generalize encW s l u = x1 at *
  generalize chkW s l u = e1 at *
  generalize encW s l lo = x2 at *
  generalize chkW s l lo = e2 at *
  generalize kdN l u = k at *
  generalize adN u = a at *
  generalize btN u 6 = r at *
  generalize btN u 7 = q at *
  generalize btN u 8 = x at *
  generalize fieldN u 55 4 = f at *
  generalize kdN l lo = k' at *
  generalize adN lo = a' at *
  generalize btN lo 6 = r' at *
  generalize btN lo 7 = q' at *
  generalize btN lo 8 = x' at *
  generalize fieldN lo 55 4 = f' at *
  have D1 : Hid (e1 = 0 ∧ x1 = u ↔ G = true) := d1
  have D3 : Hid (G = false → E = if (e2 = 0 ∧ x2 = lo) ∧ tp ≤ a then 2 else 4) := d3
  have D4 : Hid (G = true → E = 0) := fun h => (d4 h).1
  clear d1 d3 d4
  go_enter Try.func66, Try.ntmps66
  go_wp2_with fail
  with_reducible refine (s1.out _).mono ?_
  rintro e w1 ⟨rfl, K⟩
  have HK1 : Hid (Kp w w1) := ((Kp.refl _).alloc _).trans K
  have HB1 : Hid (BX w1 w.heap.size 0 0 false false false 0) := (BX.made w 0 0 false false false 0).kp K
  clear K s1
  go_wp2_with fail
  with_reducible refine (s2.out _).mono ?_
  rintro e w2 ⟨rfl, K⟩
  have HK : Hid (Kp w w2) := (HK1.out.alloc _).trans K
  have HB : Hid (BX w2 w.heap.size 0 0 false false false 0) := (HB1.out.kp ((Kp.refl _).alloc _)).kp K
  obtain ⟨b8, hb8⟩ : ∃ b8, w1.heap.size = b8 := ⟨_, rfl⟩
  have HD : Hid (BX w2 b8 k a r q x f) := by rw [← hb8]; exact (BX.made w1 k a r q x f).kp K
  rw [hb8]
  clear K HK1 HB1 s2 hb8
  by_cases g : e1 = 0 ∧ x1 = u
  · have hG : G = true := D1.out.1 g
    have hE : E = 0 := D4.out hG
    obtain ⟨rfl, rfl⟩ := g
    subst hG
    subst hE
    have x0 := HB.out.c0
    have x1 := HB.out.c1
    have x2 := HB.out.c2
    have x3 := HB.out.c3
    have x4 := HB.out.c4
    have x5 := HB.out.c5
    have y0 := HB.out.fz 0
    have y1 := HB.out.fz 1
    have y2 := HB.out.fz 2
    have y3 := HB.out.fz 3
    have y4 := HB.out.fz 4
    have y5 := HB.out.fz 5
    have v0 := HD.out.c0
    have v1 := HD.out.c1
    have v2 := HD.out.c2
    have v3 := HD.out.c3
    have v4 := HD.out.c4
    have v5 := HD.out.c5
    clear D1 D3 D4 s3 s4
    go_wp2_with fail
    refine bodyPost_ret (res_d2 rfl rfl (BX.put HB.out k a r q x f)) rfl ⟨rfl, HK.out.putD (Nat.le_refl _)⟩
  have hG : G = false := by
    cases G
    · rfl
    · exact absurd (D1.out.2 rfl) g
  have D5 : Hid (E = if (e2 = 0 ∧ x2 = lo) ∧ tp ≤ a then 2 else 4) := D3.out hG
  subst hG
  clear D1 D3 D4
  have hg : ((e1 == 0) = false) ∨ ((e1 == 0) = true ∧ (((x1 : Nat) : Int) == u) = false) := by
    by_cases c : e1 = 0
    · refine .inr ⟨by rw [c]; rfl, ?_⟩
      rw [beq_eq_false_iff_ne]
      intro h
      exact g ⟨c, by omega⟩
    · exact .inl (by rw [beq_eq_false_iff_ne]; exact c)
  clear g
  rcases hg with g1 | ⟨g1, g2⟩
  all_goals
    go_wp2_with fail
    with_reducible refine (s3.out _).mono ?_
    rintro e w3 ⟨rfl, K⟩
    have HK' : Hid (Kp w w3) := HK.out.trans K
    have HB' : Hid (BX w3 w.heap.size 0 0 false false false 0) := HB.out.kp K
    have HD' : Hid (BX w3 b8 k a r q x f) := HD.out.kp K
    clear K HK HB HD s3
    go_wp2_with fail
    with_reducible refine (s4.out _).mono ?_
    rintro e w4 ⟨rfl, K⟩
    have HK : Hid (Kp w w4) := HK'.out.trans K
    have HB : Hid (BX w4 w.heap.size 0 0 false false false 0) := HB'.out.kp K
    have HD : Hid (BX w4 b8 k a r q x f) := HD'.out.kp K
    clear K HK' HB' HD' s4
    have v1 := HD.out.c1
    by_cases j1 : e2 = 0
    rotate_left
    · have j3 : (e2 == 0) = false := by rw [beq_eq_false_iff_ne]; exact j1
      have hE : E = 4 := by rw [D5.out, if_neg (fun c => j1 c.1.1)]
      subst hE
      clear D5 j1
      go_wp2_with fail
      go_quiet (first | (go_at_call 58; refine Calls.quiet_of_same (c4 _)))
      have HK' : Hid (Kp w (w4.drewN nq)) := HK.out.drewN nq
      have HB' : Hid (BX (w4.drewN nq) w.heap.size 0 0 false false false 0) := HB.out
      clear HK HB HD v1
      have HK := HK'
      have HB := HB'
      clear HK' HB'
      generalize w4.drewN nq = wq at *
      have x0 := HB.out.c0
      have x1 := HB.out.c1
      have x2 := HB.out.c2
      have x3 := HB.out.c3
      have x4 := HB.out.c4
      have x5 := HB.out.c5
      have y0 := HB.out.fz 0
      have y1 := HB.out.fz 1
      have y2 := HB.out.fz 2
      have y3 := HB.out.fz 3
      have y4 := HB.out.fz 4
      have y5 := HB.out.fz 5
      go_wp2_with fail
      refine bodyPost_ret (res_d2 rfl rfl (BX.put HB.out 0 0 false false false 0)) rfl ⟨rfl, HK.out.putD (Nat.le_refl _)⟩
    by_cases j2 : x2 = lo
    rotate_left
    · have j3 : (((x2 : Nat) : Int) == lo) = false := by rw [beq_eq_false_iff_ne]; omega
      have hE : E = 4 := by rw [D5.out, if_neg (fun c => j2 c.1.2)]
      subst j1
      subst hE
      clear D5 j2
      go_wp2_with fail
      go_quiet (first | (go_at_call 58; refine Calls.quiet_of_same (c4 _)))
      have HK' : Hid (Kp w (w4.drewN nq)) := HK.out.drewN nq
      have HB' : Hid (BX (w4.drewN nq) w.heap.size 0 0 false false false 0) := HB.out
      clear HK HB HD v1
      have HK := HK'
      have HB := HB'
      clear HK' HB'
      generalize w4.drewN nq = wq at *
      have x0 := HB.out.c0
      have x1 := HB.out.c1
      have x2 := HB.out.c2
      have x3 := HB.out.c3
      have x4 := HB.out.c4
      have x5 := HB.out.c5
      have y0 := HB.out.fz 0
      have y1 := HB.out.fz 1
      have y2 := HB.out.fz 2
      have y3 := HB.out.fz 3
      have y4 := HB.out.fz 4
      have y5 := HB.out.fz 5
      go_wp2_with fail
      refine bodyPost_ret (res_d2 rfl rfl (BX.put HB.out 0 0 false false false 0)) rfl ⟨rfl, HK.out.putD (Nat.le_refl _)⟩
    by_cases t : tp ≤ a
    · have t1 : ((tp : Nat) : Int) ≤ a := by omega
      have hE : E = 2 := by rw [D5.out, if_pos ⟨⟨j1, j2⟩, t⟩]
      subst j1
      subst j2
      subst hE
      clear D5 t
      go_wp2_with fail
      go_quiet (first | (go_at_call 58; refine Calls.quiet_of_same (c4 _)))
      have HK' : Hid (Kp w (w4.drewN nq)) := HK.out.drewN nq
      have HB' : Hid (BX (w4.drewN nq) w.heap.size 0 0 false false false 0) := HB.out
      clear HK HB HD v1
      have HK := HK'
      have HB := HB'
      clear HK' HB'
      generalize w4.drewN nq = wq at *
      have x0 := HB.out.c0
      have x1 := HB.out.c1
      have x2 := HB.out.c2
      have x3 := HB.out.c3
      have x4 := HB.out.c4
      have x5 := HB.out.c5
      have y0 := HB.out.fz 0
      have y1 := HB.out.fz 1
      have y2 := HB.out.fz 2
      have y3 := HB.out.fz 3
      have y4 := HB.out.fz 4
      have y5 := HB.out.fz 5
      go_wp2_with fail
      refine bodyPost_ret (res_d2 rfl rfl (BX.put HB.out 0 0 false false false 0)) rfl ⟨rfl, HK.out.putD (Nat.le_refl _)⟩
    · have t1 : ¬ ((tp : Nat) : Int) ≤ a := by omega
      have hE : E = 4 := by rw [D5.out, if_neg (fun c => t c.2)]
      subst j1
      subst j2
      subst hE
      clear D5 t
      go_wp2_with fail
      go_quiet (first | (go_at_call 58; refine Calls.quiet_of_same (c4 _)))
      have HK' : Hid (Kp w (w4.drewN nq)) := HK.out.drewN nq
      have HB' : Hid (BX (w4.drewN nq) w.heap.size 0 0 false false false 0) := HB.out
      clear HK HB HD v1
      have HK := HK'
      have HB := HB'
      clear HK' HB'
      generalize w4.drewN nq = wq at *
      have x0 := HB.out.c0
      have x1 := HB.out.c1
      have x2 := HB.out.c2
      have x3 := HB.out.c3
      have x4 := HB.out.c4
      have x5 := HB.out.c5
      have y0 := HB.out.fz 0
      have y1 := HB.out.fz 1
      have y2 := HB.out.fz 2
      have y3 := HB.out.fz 3
      have y4 := HB.out.fz 4
      have y5 := HB.out.fz 5
      go_wp2_with fail
      refine bodyPost_ret (res_d2 rfl rfl (BX.put HB.out 0 0 false false false 0)) rfl ⟨rfl, HK.out.putD (Nat.le_refl _)⟩

end Go.Proofs.Ytclcickhgoiooaa

/- desc: what was encoded is decoded; the stages. -/
namespace Go.Proofs.Ytclcickhgoiooaa
open Go.RowKit

theorem one_cases (b : Bool) : (b = false ∧ oneN b = 0) ∨ (b = true ∧ oneN b = 1) := by cases b <;> simp [oneN]
theorem bt_of {u i : Nat} {b : Bool} (h : u / 2 ^ i % 2 = oneN b) : btN u i = b := by
  have := bt_one u i
  rw [h] at this
  rcases one_cases (btN u i) with ⟨h1, h2⟩ | ⟨h1, h2⟩ <;> rcases one_cases b with ⟨h3, h4⟩ | ⟨h3, h4⟩
  · rw [h1, h3]
  · omega
  · omega
  · rw [h1, h3]

/-- The parts of the word of a descriptor that may be, but none. -/
theorem wrd_back {s l k : Int} {a : Nat} {r q x : Bool} {f : Int} (h : dchk s l k a r q x f = 0) (hk : k ≠ 0) :
    wrd k a r q x f < 18446744073709551616 ∧ btN (wrd k a r q x f) 0 = true ∧ btN (wrd k a r q x f) 1 = (k != 2) ∧ adN (wrd k a r q x f) = a ∧ btN (wrd k a r q x f) 6 = r ∧ btN (wrd k a r q x f) 7 = q ∧ btN (wrd k a r q x f) 8 = x ∧
      ((fieldN (wrd k a r q x f) 55 4 : Nat) : Int) = f := by
  obtain ⟨c, ha, hc⟩ := chk_addr h
  obtain ⟨_, _, ⟨hf0, hf1⟩, _⟩ := chk_ok h
  have o1 := one_lt (k != 2)
  have o2 := one_lt r
  have o3 := one_lt q
  have o4 := one_lt x
  obtain ⟨u, hu⟩ : ∃ u, wrd k a r q x f = u := ⟨_, rfl⟩
  have hu' := hu
  unfold wrd at hu'
  rw [if_neg hk] at hu'
  rw [hu]
  obtain ⟨g, rfl⟩ : ∃ g : Nat, f = g := ⟨f.toNat, by omega⟩
  rw [Int.toNat_natCast] at hu'
  clear h hu hk
  refine ⟨by omega, bt_of (b := true) (by show u / 2 ^ 0 % 2 = 1; omega), bt_of (by omega), ?_, bt_of (by omega), bt_of (by omega), bt_of (by omega), ?_⟩
  · unfold adN fieldN; omega
  · unfold fieldN; omega
theorem kd_back {s l k : Int} {a : Nat} {r q x : Bool} {f : Int} (h : dchk s l k a r q x f = 0) (hk : k ≠ 0) (u : Nat) (hu : btN u 1 = (k != 2)) : kdN l u = k := by
  obtain ⟨_, h2, _, h4, _⟩ := chk_ok h
  have h2 := isKd_iff.1 h2
  unfold kdN
  rw [hu]
  unfold fm at h4
  split at h4
  · cases h4
  rcases (by omega : k = 1 ∨ k = 2 ∨ k = 3) with rfl | rfl | rfl
  · rw [if_neg (by decide)]
    rw [if_pos rfl] at h4
    simp only [Bool.and_eq_true, decide_eq_true_eq] at h4
    rw [if_neg h4.1]
  · rw [if_pos (by decide)]
  · rw [if_neg (by decide)]
    rw [if_neg (by decide), if_neg (by decide), if_pos rfl] at h4
    rw [if_pos (of_decide_eq_true h4)]
/-- Of the kind None all is 0. -/
theorem none_zero {s l : Int} {a : Nat} {r q x : Bool} {f : Int} (h : dchk s l 0 a r q x f = 0) : a = 0 ∧ r = false ∧ q = false ∧ x = false ∧ f = 0 := by
  obtain ⟨_, _, _, h4, _⟩ := chk_ok h
  unfold fm at h4
  split at h4
  · cases h4
  rw [if_neg (by decide), if_neg (by decide), if_neg (by decide)] at h4
  simp only [Bool.and_eq_true, decide_eq_true_eq, Bool.not_eq_true'] at h4
  obtain ⟨⟨⟨_, h5⟩, ⟨⟨h6, h7⟩, h8⟩⟩, h9⟩ := h4
  exact ⟨by omega, h6, h7, h8, h9⟩
/-- What was encoded is decoded. -/
theorem dec_back {s l k : Int} {a : Nat} {r q x : Bool} {f : Int} (h : dchk s l k a r q x f = 0) :
    ∃ u, wrd k a r q x f = u ∧ u < 18446744073709551616 ∧ decE s l u = 0 ∧ (btN u 0 = (k != 0)) ∧ cond (decG s l u) (kdN l u) 0 = k ∧ cond (decG s l u) (adN u) 0 = a ∧ cond (decG s l u) (btN u 6) false = r ∧ cond (decG s l u) (btN u 7) false = q ∧ cond (decG s l u) (btN u 8) false = x ∧ ((cond (decG s l u) (fieldN u 55 4) 0 : Nat) : Int) = f := by
  obtain ⟨hp, _⟩ := chk_ok h
  refine ⟨_, rfl, ?_⟩
  by_cases hk : k = 0
  · subst hk
    obtain ⟨rfl, rfl, rfl, rfl, rfl⟩ := none_zero h
    rw [show wrd 0 0 false false false 0 = 0 from rfl]
    have d := dec_not s l 0 hp (by decide)
    rw [d.1, d.2]
    exact ⟨by decide, rfl, by decide, rfl, rfl, rfl, rfl, rfl, rfl⟩
  · obtain ⟨b1, b2, b3, b4, b5, b6, b7, b8⟩ := wrd_back h hk
    have b9 := kd_back h hk _ b3
    have hw : wrd k a r q x f = dencN s l k a r q x f := by unfold dencN; rw [if_pos h]
    have e1 : dchk s l (kdN l (wrd k a r q x f)) (adN (wrd k a r q x f)) (btN (wrd k a r q x f) 6) (btN (wrd k a r q x f) 7) (btN (wrd k a r q x f) 8) (fieldN (wrd k a r q x f) 55 4 : Nat) = 0 := by rw [b4, b5, b6, b7, b8, b9]; exact h
    have e2 : dencN s l (kdN l (wrd k a r q x f)) (adN (wrd k a r q x f)) (btN (wrd k a r q x f) 6) (btN (wrd k a r q x f) 7) (btN (wrd k a r q x f) 8) (fieldN (wrd k a r q x f) 55 4 : Nat) = wrd k a r q x f := by rw [b4, b5, b6, b7, b8, b9]; exact hw.symm
    have g := (dec_iff s l _ b1 hp b2).1 ⟨e1, e2⟩
    have g2 := dec_good s l _ g
    rw [g, g2.1, b2]
    refine ⟨b1, rfl, ?_, b9, b4, b5, b6, b7, b8⟩
    symm
    rw [bne_iff_ne]; exact hk
/-- Two unlike ones have unlike words. -/
theorem wrd_like {s l k a r q x f k' a' r' q' x' f'} (h : dchk s l k a r q x f = 0) (h' : dchk s l k' a' r' q' x' f' = 0) :
    (((wrd k a r q x f : Nat) : Int) == ((wrd k' a' r' q' x' f' : Nat) : Int)) = ((k == k') && ((a : Int) == (a' : Int)) && ((r == r') && (q == q') && (x == x')) && (f == f')) := by
  by_cases c : wrd k a r q x f = wrd k' a' r' q' x' f'
  · obtain ⟨u, e, _, _, _, a1, a2, a3, a4, a5, a6⟩ := dec_back h
    obtain ⟨u', e', _, _, _, b1, b2, b3, b4, b5, b6⟩ := dec_back h'
    have : u = u' := by rw [← e, ← e', c]
    subst this
    rw [← a1, ← a2, ← a3, ← a4, ← a5, ← a6, ← b1, ← b2, ← b3, ← b4, ← b5, ← b6]
    have c' : wrd (cond (decG s l u) (kdN l u) 0) (cond (decG s l u) (adN u) 0) (cond (decG s l u) (btN u 6) false) (cond (decG s l u) (btN u 7) false) (cond (decG s l u) (btN u 8) false) ((cond (decG s l u) (fieldN u 55 4) 0 : Nat) : Int) = wrd (cond (decG s l u) (kdN l u) 0) (cond (decG s l u) (adN u) 0) (cond (decG s l u) (btN u 6) false) (cond (decG s l u) (btN u 7) false) (cond (decG s l u) (btN u 8) false) ((cond (decG s l u) (fieldN u 55 4) 0 : Nat) : Int) := rfl
    simp
  · have c1 : (((wrd k a r q x f : Nat) : Int) == ((wrd k' a' r' q' x' f' : Nat) : Int)) = false := by rw [beq_eq_false_iff_ne]; omega
    rw [c1]
    symm
    rw [Bool.eq_false_iff]
    intro e
    simp only [Bool.and_eq_true, beq_iff_eq] at e
    obtain ⟨⟨⟨e1, e2⟩, ⟨⟨e3, e4⟩, e5⟩⟩, e6⟩ := e
    have e2' : a = a' := by omega
    exact c (by rw [e1, e2', e3, e4, e5, e6])

/-- A word with the lowest bit set, and without it. -/
theorem or_one (u : Nat) : btN (u ||| 1) 0 = true := by
  rw [bt_iff, Nat.pow_zero, Nat.div_one]
  have := Nat.or_mod_two_pow (a := u) (b := 1) (n := 1)
  rw [Nat.pow_one] at this
  rw [this]
  have h2 : u % 2 = 0 ∨ u % 2 = 1 := by omega
  rcases h2 with h | h <;> rw [h] <;> rfl
theorem or_one_lt (u : Nat) (hu : u < 18446744073709551616) : u ||| 1 < 18446744073709551616 := Nat.or_lt_two_pow (n := 64) hu (by decide)
theorem not_one (u : Nat) : btN (u &&& 18446744073709551614) 0 = false := by
  have h : (u &&& 18446744073709551614) % 2 ^ 1 = 0 := by
    rw [Nat.and_mod_two_pow, show (18446744073709551614 : Nat) % 2 ^ 1 = 0 from by decide, Nat.and_zero]
  have b := bt_iff (u &&& 18446744073709551614) 0
  cases hb : btN (u &&& 18446744073709551614) 0
  · rfl
  · have := b.1 hb
    rw [Nat.pow_zero, Nat.div_one] at this
    omega
/-- What Decode tells of a word with the lowest bit. -/
theorem dec_vals (s l : Int) (u : Nat) (hp : isPl s l = true) (h0 : btN u 0 = true) : (decG s l u = true ∧ decE s l u = 0) ∨ (decG s l u = false ∧ (decE s l u = 2 ∨ decE s l u = 4)) := by
  cases h : decG s l u
  · refine .inr ⟨rfl, ?_⟩
    rw [dec_bad s l u hp h0 h]
    split
    · exact .inl rfl
    · exact .inr rfl
  · exact .inl ⟨rfl, (dec_good s l u h).1⟩
theorem dec_stages (l : Int) (u : Nat) (h1 : 0 ≤ l) (h2 : l ≤ 3) (h0 : btN u 0 = true) : (decG 2 l u = true → decG 1 l u = true) ∧ (decG 1 l u = true → decG 2 l u = false → decE 2 l u = 2 ∧ topS 2 ≤ adN u) := by
  have p1 : isPl 1 l = true := isPl_iff.2 ⟨by decide, by decide, h1, h2⟩
  have p2 : isPl 2 l = true := isPl_iff.2 ⟨by decide, by decide, h1, h2⟩
  have t1 : topS 1 = 1099511627776 := rfl
  have t2 : topS 2 = 4294967296 := rfl
  refine ⟨fun g => ?_, fun g g' => ?_⟩
  · unfold decG outG at g ⊢
    rw [p2, h0] at g
    rw [p1, h0]
    simp only [Bool.and_eq_true, Bool.not_eq_true', decide_eq_false_iff_not] at g ⊢
    obtain ⟨⟨⟨⟨_, g1⟩, g2⟩, g3⟩, g4⟩ := g
    exact ⟨⟨⟨⟨⟨trivial, trivial⟩, g1⟩, g2⟩, by omega⟩, g4⟩
  · have b := dec_bad 2 l u p2 h0 g'
    unfold decG outG at g g'
    rw [p2, h0] at g'
    rw [p1, h0] at g
    simp only [Bool.and_eq_true, Bool.not_eq_true', decide_eq_false_iff_not] at g
    obtain ⟨⟨⟨⟨_, g1⟩, g2⟩, g3⟩, g4⟩ := g
    rw [g1, g2, decide_eq_false g4] at g'
    by_cases c : topS 2 ≤ adN u
    · rw [b, if_pos ⟨⟨g1, g2⟩, c⟩]; exact ⟨rfl, c⟩
    · rw [decide_eq_false c] at g'; cases g'

end Go.Proofs.Ytclcickhgoiooaa
