/- desc: the document's Check, of what is well formed; all of it. -/
import Derived.Test.YtcbciehffgaapaaE7
namespace Go.Proofs.Ytcbciehffgaapaa
open Go.RowKit

set_option maxHeartbeats 4000000 in
theorem rgo_1 (s l : Int) (a : Nat)  (f : Int) (w : World) (h1 : 1 ≤ s) (h2 : s ≤ 2) (h3 : 0 ≤ l) (h4 : l ≤ 3) (h5 : 0 ≤ f) (h6 : f ≤ 15) (h : l ≠ 3) : Calls Try.prog 35 #[.int .i64 s, .int .i64 l, .agg #[.int .i64 1, .int .u64 (a : Int), .bool false, .bool false, .bool false, .int .i64 f]] w fun e w' => e = .returned (.int .i64 (if topS s ≤ a then 2 else if a % unitN l 1 ≠ 0 then 3 else 0)) ∧ Kp w w' := by
  have b1 : decide (s < 1) = false := decide_eq_false (by omega)
  have b2 : decide (2 < s) = false := decide_eq_false (by omega)
  have b3 : decide (l < 0) = false := decide_eq_false (by omega)
  have b4 : decide (3 < l) = false := decide_eq_false (by omega)
  have b5 : decide (f < 0) = false := decide_eq_false (by omega)
  have b6 : decide (15 < f) = false := decide_eq_false (by omega)
  have b7 : (l == 3) = false := by rw [beq_eq_false_iff_ne]; omega
  have b8 : (l != 3) = true := by rw [bne_iff_ne]; omega
  have c4 := rtop_any s
  rw [show unitN l 1 = 4096 from rfl]
  generalize topS s = tp at *
  clear h1 h2 h3 h4 h5 h6
  by_cases t : tp ≤ a
  · rw [if_pos t]
    have t1 : ((tp : Nat) : Int) ≤ a := by omega
    go_enter Try.func35, Try.ntmps35
    go_wp2_with fail
    go_quiet (first | (go_at_call 32; refine Calls.quiet_of_same (c4 _)))
    obtain ⟨w1, hw1⟩ : ∃ w1, w1 = (w.alloc (.cells #[.int .i64 1, .int .u64 (a : Int), .bool false, .bool false, .bool false, .int .i64 f] 48)).drewN nq := ⟨_, rfl⟩
    have B : BX w1 w.heap.size 1 a false false false f := by rw [hw1]; exact BX.made w 1 a false false false f
    have HK : Hid (Kp w w1) := by rw [hw1]; exact ((Kp.refl w).alloc _).drewN nq
    have x0 := B.c0
    have x1 := B.c1
    rw [← hw1]
    clear hw1 B
    go_wp2
    go_ret
    exact ⟨rfl, HK.out⟩
  · rw [if_neg t]
    obtain ⟨v, hv⟩ : ∃ v : Int, (if a % 4096 ≠ 0 then 3 else 0) = v := ⟨_, rfl⟩
    rw [hv]
    have HV : Hid _ := hv
    clear hv
    have t1 : ¬ ((tp : Nat) : Int) ≤ a := by omega
    go_enter Try.func35, Try.ntmps35
    go_wp2_with fail
    go_quiet (first | (go_at_call 32; refine Calls.quiet_of_same (c4 _)))
    obtain ⟨w1, hw1⟩ : ∃ w1, w1 = (w.alloc (.cells #[.int .i64 1, .int .u64 (a : Int), .bool false, .bool false, .bool false, .int .i64 f] 48)).drewN nq := ⟨_, rfl⟩
    have B : BX w1 w.heap.size 1 a false false false f := by rw [hw1]; exact BX.made w 1 a false false false f
    have HK : Hid (Kp w w1) := by rw [hw1]; exact ((Kp.refl w).alloc _).drewN nq
    have x0 := B.c0
    have x1 := B.c1
    rw [← hw1]
    clear hw1 B
    by_cases g : a % 4096 = 0
    · have HG : Hid _ := g
      have z3 : (a : Int).tmod 4096 = 0 := by rw [Int.tmod_eq_emod_of_nonneg (by omega)]; omega
      have z2 : (a : Int) % 4096 = 0 := by omega
      clear g
      go_wp2_with fail
      go_ret
      exact ⟨by rw [← HV.out, if_neg (fun c => c HG.out)] <;> rfl, HK.out⟩
    · have HG : Hid _ := g
      obtain ⟨m, hm⟩ : ∃ m : Nat, a % 4096 = m := ⟨_, rfl⟩
      have z2 : (a : Int) % 4096 = (m : Int) := by omega
      have z3 : (a : Int).tmod 4096 = (m : Int) := by rw [Int.tmod_eq_emod_of_nonneg (by omega)]; exact z2
      have z4 : (m : Int) ≠ 0 := by omega
      have z5 : ((m : Int) != 0) = true := by rw [bne_iff_ne]; exact z4
      clear hm g
      go_wp2_with fail
      go_ret
      exact ⟨by rw [← HV.out, if_pos HG.out] <;> rfl, HK.out⟩

set_option maxHeartbeats 4000000 in
theorem rgo_20 (s l : Int) (a : Nat) (x : Bool) (f : Int) (w : World) (h1 : 1 ≤ s) (h2 : s ≤ 2) (h3 : 0 ≤ l) (h4 : l ≤ 3) (h5 : 0 ≤ f) (h6 : f ≤ 15) (h : l ≠ 0) (h' : l ≠ 3) : Calls Try.prog 35 #[.int .i64 s, .int .i64 l, .agg #[.int .i64 2, .int .u64 (a : Int), .bool false, .bool false, .bool x, .int .i64 f]] w fun e w' => e = .returned (.int .i64 (if topS s ≤ a then 2 else if a % unitN l 2 ≠ 0 then 3 else 0)) ∧ Kp w w' := by
  have b1 : decide (s < 1) = false := decide_eq_false (by omega)
  have b2 : decide (2 < s) = false := decide_eq_false (by omega)
  have b3 : decide (l < 0) = false := decide_eq_false (by omega)
  have b4 : decide (3 < l) = false := decide_eq_false (by omega)
  have b5 : decide (f < 0) = false := decide_eq_false (by omega)
  have b6 : decide (15 < f) = false := decide_eq_false (by omega)
  have b7 : (l == 3) = false := by rw [beq_eq_false_iff_ne]; omega
  have b8 : (l != 3) = true := by rw [bne_iff_ne]; omega
  have b9 : (l == 0) = false := by rw [beq_eq_false_iff_ne]; omega
  have c4 := rtop_any s
  have c5 := rspan_any l
  rw [show unitN l 2 = spn l from rfl]
  have up : 0 < spn l := unit_pos (s := 1) (k := 2) (isPl_iff.2 ⟨by omega, by omega, h3, h4⟩)
  generalize topS s = tp at *
  generalize spn l = un at *
  clear h1 h2 h3 h4 h5 h6
  by_cases t : tp ≤ a
  · rw [if_pos t]
    have t1 : ((tp : Nat) : Int) ≤ a := by omega
    go_enter Try.func35, Try.ntmps35
    go_wp2_with fail
    go_quiet (first | (go_at_call 32; refine Calls.quiet_of_same (c4 _)))
    obtain ⟨w1, hw1⟩ : ∃ w1, w1 = (w.alloc (.cells #[.int .i64 2, .int .u64 (a : Int), .bool false, .bool false, .bool x, .int .i64 f] 48)).drewN nq := ⟨_, rfl⟩
    have B : BX w1 w.heap.size 2 a false false x f := by rw [hw1]; exact BX.made w 2 a false false x f
    have HK : Hid (Kp w w1) := by rw [hw1]; exact ((Kp.refl w).alloc _).drewN nq
    have x0 := B.c0
    have x1 := B.c1
    rw [← hw1]
    clear hw1 B
    go_wp2
    go_ret
    exact ⟨rfl, HK.out⟩
  · rw [if_neg t]
    obtain ⟨v, hv⟩ : ∃ v : Int, (if a % un ≠ 0 then 3 else 0) = v := ⟨_, rfl⟩
    rw [hv]
    have HV : Hid _ := hv
    clear hv
    have t1 : ¬ ((tp : Nat) : Int) ≤ a := by omega
    go_enter Try.func35, Try.ntmps35
    go_wp2_with fail
    go_quiet (first | (go_at_call 32; refine Calls.quiet_of_same (c4 _)))
    obtain ⟨w1, hw1⟩ : ∃ w1, w1 = (w.alloc (.cells #[.int .i64 2, .int .u64 (a : Int), .bool false, .bool false, .bool x, .int .i64 f] 48)).drewN nq := ⟨_, rfl⟩
    have B : BX w1 w.heap.size 2 a false false x f := by rw [hw1]; exact BX.made w 2 a false false x f
    have HK : Hid (Kp w w1) := by rw [hw1]; exact ((Kp.refl w).alloc _).drewN nq
    have x0 := B.c0
    have x1 := B.c1
    rw [← hw1]
    clear hw1 B
    by_cases g : a % un = 0
    · have HG : Hid _ := g
      have z3 : (a : Int).tmod (un : Nat) = 0 := by rw [Int.tmod_eq_emod_of_nonneg (by omega)]; omega
      have z2 : (a : Int) % (un : Nat) = 0 := by omega
      clear g
      have z0 : ¬ ((un : Nat) : Int) = 0 := by omega
      go_wp2_with (go_at_call 33; with_reducible refine (c5 _).mono ?_; rintro e w' ⟨rfl, rfl⟩)
      go_ret
      exact ⟨by rw [← HV.out, if_neg (fun c => c HG.out)] <;> rfl, HK.out⟩
    · have HG : Hid _ := g
      obtain ⟨m, hm⟩ : ∃ m : Nat, a % un = m := ⟨_, rfl⟩
      have z2 : (a : Int) % (un : Nat) = (m : Int) := by omega
      have z3 : (a : Int).tmod (un : Nat) = (m : Int) := by rw [Int.tmod_eq_emod_of_nonneg (by omega)]; exact z2
      have z4 : (m : Int) ≠ 0 := by omega
      have z5 : ((m : Int) != 0) = true := by rw [bne_iff_ne]; exact z4
      have z0 : ¬ ((un : Nat) : Int) = 0 := by omega
      clear hm g
      go_wp2_with (go_at_call 33; with_reducible refine (c5 _).mono ?_; rintro e w' ⟨rfl, rfl⟩)
      go_ret
      exact ⟨by rw [← HV.out, if_pos HG.out] <;> rfl, HK.out⟩

set_option maxHeartbeats 4000000 in
theorem rgo_30 (s l : Int) (a : Nat) (x : Bool) (f : Int) (w : World) (h1 : 1 ≤ s) (h2 : s ≤ 2) (h3 : 0 ≤ l) (h4 : l ≤ 3) (h5 : 0 ≤ f) (h6 : f ≤ 15) (h : l = 3) : Calls Try.prog 35 #[.int .i64 s, .int .i64 l, .agg #[.int .i64 3, .int .u64 (a : Int), .bool false, .bool false, .bool x, .int .i64 f]] w fun e w' => e = .returned (.int .i64 (if topS s ≤ a then 2 else if a % unitN l 3 ≠ 0 then 3 else 0)) ∧ Kp w w' := by
  subst h
  have b1 : decide (s < 1) = false := decide_eq_false (by omega)
  have b2 : decide (2 < s) = false := decide_eq_false (by omega)
  have b5 : decide (f < 0) = false := decide_eq_false (by omega)
  have b6 : decide (15 < f) = false := decide_eq_false (by omega)
  have c4 := rtop_any s
  rw [show unitN 3 3 = 4096 from rfl]
  generalize topS s = tp at *
  clear h1 h2 h3 h4 h5 h6
  by_cases t : tp ≤ a
  · rw [if_pos t]
    have t1 : ((tp : Nat) : Int) ≤ a := by omega
    go_enter Try.func35, Try.ntmps35
    go_wp2_with fail
    go_quiet (first | (go_at_call 32; refine Calls.quiet_of_same (c4 _)))
    obtain ⟨w1, hw1⟩ : ∃ w1, w1 = (w.alloc (.cells #[.int .i64 3, .int .u64 (a : Int), .bool false, .bool false, .bool x, .int .i64 f] 48)).drewN nq := ⟨_, rfl⟩
    have B : BX w1 w.heap.size 3 a false false x f := by rw [hw1]; exact BX.made w 3 a false false x f
    have HK : Hid (Kp w w1) := by rw [hw1]; exact ((Kp.refl w).alloc _).drewN nq
    have x0 := B.c0
    have x1 := B.c1
    rw [← hw1]
    clear hw1 B
    go_wp2
    go_ret
    exact ⟨rfl, HK.out⟩
  · rw [if_neg t]
    obtain ⟨v, hv⟩ : ∃ v : Int, (if a % 4096 ≠ 0 then 3 else 0) = v := ⟨_, rfl⟩
    rw [hv]
    have HV : Hid _ := hv
    clear hv
    have t1 : ¬ ((tp : Nat) : Int) ≤ a := by omega
    go_enter Try.func35, Try.ntmps35
    go_wp2_with fail
    go_quiet (first | (go_at_call 32; refine Calls.quiet_of_same (c4 _)))
    obtain ⟨w1, hw1⟩ : ∃ w1, w1 = (w.alloc (.cells #[.int .i64 3, .int .u64 (a : Int), .bool false, .bool false, .bool x, .int .i64 f] 48)).drewN nq := ⟨_, rfl⟩
    have B : BX w1 w.heap.size 3 a false false x f := by rw [hw1]; exact BX.made w 3 a false false x f
    have HK : Hid (Kp w w1) := by rw [hw1]; exact ((Kp.refl w).alloc _).drewN nq
    have x0 := B.c0
    have x1 := B.c1
    rw [← hw1]
    clear hw1 B
    by_cases g : a % 4096 = 0
    · have HG : Hid _ := g
      have z3 : (a : Int).tmod 4096 = 0 := by rw [Int.tmod_eq_emod_of_nonneg (by omega)]; omega
      have z2 : (a : Int) % 4096 = 0 := by omega
      clear g
      go_wp2_with fail
      go_ret
      exact ⟨by rw [← HV.out, if_neg (fun c => c HG.out)] <;> rfl, HK.out⟩
    · have HG : Hid _ := g
      obtain ⟨m, hm⟩ : ∃ m : Nat, a % 4096 = m := ⟨_, rfl⟩
      have z2 : (a : Int) % 4096 = (m : Int) := by omega
      have z3 : (a : Int).tmod 4096 = (m : Int) := by rw [Int.tmod_eq_emod_of_nonneg (by omega)]; exact z2
      have z4 : (m : Int) ≠ 0 := by omega
      have z5 : ((m : Int) != 0) = true := by rw [bne_iff_ne]; exact z4
      clear hm g
      go_wp2_with fail
      go_ret
      exact ⟨by rw [← HV.out, if_pos HG.out] <;> rfl, HK.out⟩

set_option maxHeartbeats 4000000 in
theorem rgo_21 (s l : Int) (a : Nat) (x : Bool) (f : Int) (w : World) (h1 : 1 ≤ s) (h2 : s ≤ 2) (h3 : 0 ≤ l) (h4 : l ≤ 3) (h5 : 0 ≤ f) (h6 : f ≤ 15) (h : l ≠ 0) (h' : l ≠ 3) : Calls Try.prog 35 #[.int .i64 s, .int .i64 l, .agg #[.int .i64 2, .int .u64 (a : Int), .bool true, .bool false, .bool x, .int .i64 f]] w fun e w' => e = .returned (.int .i64 (if topS s ≤ a then 2 else if a % unitN l 2 ≠ 0 then 3 else 0)) ∧ Kp w w' := by
  have b1 : decide (s < 1) = false := decide_eq_false (by omega)
  have b2 : decide (2 < s) = false := decide_eq_false (by omega)
  have b3 : decide (l < 0) = false := decide_eq_false (by omega)
  have b4 : decide (3 < l) = false := decide_eq_false (by omega)
  have b5 : decide (f < 0) = false := decide_eq_false (by omega)
  have b6 : decide (15 < f) = false := decide_eq_false (by omega)
  have b7 : (l == 3) = false := by rw [beq_eq_false_iff_ne]; omega
  have b8 : (l != 3) = true := by rw [bne_iff_ne]; omega
  have b9 : (l == 0) = false := by rw [beq_eq_false_iff_ne]; omega
  have c4 := rtop_any s
  have c5 := rspan_any l
  rw [show unitN l 2 = spn l from rfl]
  have up : 0 < spn l := unit_pos (s := 1) (k := 2) (isPl_iff.2 ⟨by omega, by omega, h3, h4⟩)
  generalize topS s = tp at *
  generalize spn l = un at *
  clear h1 h2 h3 h4 h5 h6
  by_cases t : tp ≤ a
  · rw [if_pos t]
    have t1 : ((tp : Nat) : Int) ≤ a := by omega
    go_enter Try.func35, Try.ntmps35
    go_wp2_with fail
    go_quiet (first | (go_at_call 32; refine Calls.quiet_of_same (c4 _)))
    obtain ⟨w1, hw1⟩ : ∃ w1, w1 = (w.alloc (.cells #[.int .i64 2, .int .u64 (a : Int), .bool true, .bool false, .bool x, .int .i64 f] 48)).drewN nq := ⟨_, rfl⟩
    have B : BX w1 w.heap.size 2 a true false x f := by rw [hw1]; exact BX.made w 2 a true false x f
    have HK : Hid (Kp w w1) := by rw [hw1]; exact ((Kp.refl w).alloc _).drewN nq
    have x0 := B.c0
    have x1 := B.c1
    rw [← hw1]
    clear hw1 B
    go_wp2
    go_ret
    exact ⟨rfl, HK.out⟩
  · rw [if_neg t]
    obtain ⟨v, hv⟩ : ∃ v : Int, (if a % un ≠ 0 then 3 else 0) = v := ⟨_, rfl⟩
    rw [hv]
    have HV : Hid _ := hv
    clear hv
    have t1 : ¬ ((tp : Nat) : Int) ≤ a := by omega
    go_enter Try.func35, Try.ntmps35
    go_wp2_with fail
    go_quiet (first | (go_at_call 32; refine Calls.quiet_of_same (c4 _)))
    obtain ⟨w1, hw1⟩ : ∃ w1, w1 = (w.alloc (.cells #[.int .i64 2, .int .u64 (a : Int), .bool true, .bool false, .bool x, .int .i64 f] 48)).drewN nq := ⟨_, rfl⟩
    have B : BX w1 w.heap.size 2 a true false x f := by rw [hw1]; exact BX.made w 2 a true false x f
    have HK : Hid (Kp w w1) := by rw [hw1]; exact ((Kp.refl w).alloc _).drewN nq
    have x0 := B.c0
    have x1 := B.c1
    rw [← hw1]
    clear hw1 B
    by_cases g : a % un = 0
    · have HG : Hid _ := g
      have z3 : (a : Int).tmod (un : Nat) = 0 := by rw [Int.tmod_eq_emod_of_nonneg (by omega)]; omega
      have z2 : (a : Int) % (un : Nat) = 0 := by omega
      clear g
      have z0 : ¬ ((un : Nat) : Int) = 0 := by omega
      go_wp2_with (go_at_call 33; with_reducible refine (c5 _).mono ?_; rintro e w' ⟨rfl, rfl⟩)
      go_ret
      exact ⟨by rw [← HV.out, if_neg (fun c => c HG.out)] <;> rfl, HK.out⟩
    · have HG : Hid _ := g
      obtain ⟨m, hm⟩ : ∃ m : Nat, a % un = m := ⟨_, rfl⟩
      have z2 : (a : Int) % (un : Nat) = (m : Int) := by omega
      have z3 : (a : Int).tmod (un : Nat) = (m : Int) := by rw [Int.tmod_eq_emod_of_nonneg (by omega)]; exact z2
      have z4 : (m : Int) ≠ 0 := by omega
      have z5 : ((m : Int) != 0) = true := by rw [bne_iff_ne]; exact z4
      have z0 : ¬ ((un : Nat) : Int) = 0 := by omega
      clear hm g
      go_wp2_with (go_at_call 33; with_reducible refine (c5 _).mono ?_; rintro e w' ⟨rfl, rfl⟩)
      go_ret
      exact ⟨by rw [← HV.out, if_pos HG.out] <;> rfl, HK.out⟩

set_option maxHeartbeats 4000000 in
theorem rgo_31 (s l : Int) (a : Nat) (x : Bool) (f : Int) (w : World) (h1 : 1 ≤ s) (h2 : s ≤ 2) (h3 : 0 ≤ l) (h4 : l ≤ 3) (h5 : 0 ≤ f) (h6 : f ≤ 15) (h : l = 3) : Calls Try.prog 35 #[.int .i64 s, .int .i64 l, .agg #[.int .i64 3, .int .u64 (a : Int), .bool true, .bool false, .bool x, .int .i64 f]] w fun e w' => e = .returned (.int .i64 (if topS s ≤ a then 2 else if a % unitN l 3 ≠ 0 then 3 else 0)) ∧ Kp w w' := by
  subst h
  have b1 : decide (s < 1) = false := decide_eq_false (by omega)
  have b2 : decide (2 < s) = false := decide_eq_false (by omega)
  have b5 : decide (f < 0) = false := decide_eq_false (by omega)
  have b6 : decide (15 < f) = false := decide_eq_false (by omega)
  have c4 := rtop_any s
  rw [show unitN 3 3 = 4096 from rfl]
  generalize topS s = tp at *
  clear h1 h2 h3 h4 h5 h6
  by_cases t : tp ≤ a
  · rw [if_pos t]
    have t1 : ((tp : Nat) : Int) ≤ a := by omega
    go_enter Try.func35, Try.ntmps35
    go_wp2_with fail
    go_quiet (first | (go_at_call 32; refine Calls.quiet_of_same (c4 _)))
    obtain ⟨w1, hw1⟩ : ∃ w1, w1 = (w.alloc (.cells #[.int .i64 3, .int .u64 (a : Int), .bool true, .bool false, .bool x, .int .i64 f] 48)).drewN nq := ⟨_, rfl⟩
    have B : BX w1 w.heap.size 3 a true false x f := by rw [hw1]; exact BX.made w 3 a true false x f
    have HK : Hid (Kp w w1) := by rw [hw1]; exact ((Kp.refl w).alloc _).drewN nq
    have x0 := B.c0
    have x1 := B.c1
    rw [← hw1]
    clear hw1 B
    go_wp2
    go_ret
    exact ⟨rfl, HK.out⟩
  · rw [if_neg t]
    obtain ⟨v, hv⟩ : ∃ v : Int, (if a % 4096 ≠ 0 then 3 else 0) = v := ⟨_, rfl⟩
    rw [hv]
    have HV : Hid _ := hv
    clear hv
    have t1 : ¬ ((tp : Nat) : Int) ≤ a := by omega
    go_enter Try.func35, Try.ntmps35
    go_wp2_with fail
    go_quiet (first | (go_at_call 32; refine Calls.quiet_of_same (c4 _)))
    obtain ⟨w1, hw1⟩ : ∃ w1, w1 = (w.alloc (.cells #[.int .i64 3, .int .u64 (a : Int), .bool true, .bool false, .bool x, .int .i64 f] 48)).drewN nq := ⟨_, rfl⟩
    have B : BX w1 w.heap.size 3 a true false x f := by rw [hw1]; exact BX.made w 3 a true false x f
    have HK : Hid (Kp w w1) := by rw [hw1]; exact ((Kp.refl w).alloc _).drewN nq
    have x0 := B.c0
    have x1 := B.c1
    rw [← hw1]
    clear hw1 B
    by_cases g : a % 4096 = 0
    · have HG : Hid _ := g
      have z3 : (a : Int).tmod 4096 = 0 := by rw [Int.tmod_eq_emod_of_nonneg (by omega)]; omega
      have z2 : (a : Int) % 4096 = 0 := by omega
      clear g
      go_wp2_with fail
      go_ret
      exact ⟨by rw [← HV.out, if_neg (fun c => c HG.out)] <;> rfl, HK.out⟩
    · have HG : Hid _ := g
      obtain ⟨m, hm⟩ : ∃ m : Nat, a % 4096 = m := ⟨_, rfl⟩
      have z2 : (a : Int) % 4096 = (m : Int) := by omega
      have z3 : (a : Int).tmod 4096 = (m : Int) := by rw [Int.tmod_eq_emod_of_nonneg (by omega)]; exact z2
      have z4 : (m : Int) ≠ 0 := by omega
      have z5 : ((m : Int) != 0) = true := by rw [bne_iff_ne]; exact z4
      clear hm g
      go_wp2_with fail
      go_ret
      exact ⟨by rw [← HV.out, if_pos HG.out] <;> rfl, HK.out⟩

set_option maxHeartbeats 4000000 in
theorem rgo_22 (s l : Int) (a : Nat) (x : Bool) (f : Int) (w : World) (h1 : 1 ≤ s) (h2 : s ≤ 2) (h3 : 0 ≤ l) (h4 : l ≤ 3) (h5 : 0 ≤ f) (h6 : f ≤ 15) (h : l ≠ 0) (h' : l ≠ 3) : Calls Try.prog 35 #[.int .i64 s, .int .i64 l, .agg #[.int .i64 2, .int .u64 (a : Int), .bool true, .bool true, .bool x, .int .i64 f]] w fun e w' => e = .returned (.int .i64 (if topS s ≤ a then 2 else if a % unitN l 2 ≠ 0 then 3 else 0)) ∧ Kp w w' := by
  have b1 : decide (s < 1) = false := decide_eq_false (by omega)
  have b2 : decide (2 < s) = false := decide_eq_false (by omega)
  have b3 : decide (l < 0) = false := decide_eq_false (by omega)
  have b4 : decide (3 < l) = false := decide_eq_false (by omega)
  have b5 : decide (f < 0) = false := decide_eq_false (by omega)
  have b6 : decide (15 < f) = false := decide_eq_false (by omega)
  have b7 : (l == 3) = false := by rw [beq_eq_false_iff_ne]; omega
  have b8 : (l != 3) = true := by rw [bne_iff_ne]; omega
  have b9 : (l == 0) = false := by rw [beq_eq_false_iff_ne]; omega
  have c4 := rtop_any s
  have c5 := rspan_any l
  rw [show unitN l 2 = spn l from rfl]
  have up : 0 < spn l := unit_pos (s := 1) (k := 2) (isPl_iff.2 ⟨by omega, by omega, h3, h4⟩)
  generalize topS s = tp at *
  generalize spn l = un at *
  clear h1 h2 h3 h4 h5 h6
  by_cases t : tp ≤ a
  · rw [if_pos t]
    have t1 : ((tp : Nat) : Int) ≤ a := by omega
    go_enter Try.func35, Try.ntmps35
    go_wp2_with fail
    go_quiet (first | (go_at_call 32; refine Calls.quiet_of_same (c4 _)))
    obtain ⟨w1, hw1⟩ : ∃ w1, w1 = (w.alloc (.cells #[.int .i64 2, .int .u64 (a : Int), .bool true, .bool true, .bool x, .int .i64 f] 48)).drewN nq := ⟨_, rfl⟩
    have B : BX w1 w.heap.size 2 a true true x f := by rw [hw1]; exact BX.made w 2 a true true x f
    have HK : Hid (Kp w w1) := by rw [hw1]; exact ((Kp.refl w).alloc _).drewN nq
    have x0 := B.c0
    have x1 := B.c1
    rw [← hw1]
    clear hw1 B
    go_wp2
    go_ret
    exact ⟨rfl, HK.out⟩
  · rw [if_neg t]
    obtain ⟨v, hv⟩ : ∃ v : Int, (if a % un ≠ 0 then 3 else 0) = v := ⟨_, rfl⟩
    rw [hv]
    have HV : Hid _ := hv
    clear hv
    have t1 : ¬ ((tp : Nat) : Int) ≤ a := by omega
    go_enter Try.func35, Try.ntmps35
    go_wp2_with fail
    go_quiet (first | (go_at_call 32; refine Calls.quiet_of_same (c4 _)))
    obtain ⟨w1, hw1⟩ : ∃ w1, w1 = (w.alloc (.cells #[.int .i64 2, .int .u64 (a : Int), .bool true, .bool true, .bool x, .int .i64 f] 48)).drewN nq := ⟨_, rfl⟩
    have B : BX w1 w.heap.size 2 a true true x f := by rw [hw1]; exact BX.made w 2 a true true x f
    have HK : Hid (Kp w w1) := by rw [hw1]; exact ((Kp.refl w).alloc _).drewN nq
    have x0 := B.c0
    have x1 := B.c1
    rw [← hw1]
    clear hw1 B
    by_cases g : a % un = 0
    · have HG : Hid _ := g
      have z3 : (a : Int).tmod (un : Nat) = 0 := by rw [Int.tmod_eq_emod_of_nonneg (by omega)]; omega
      have z2 : (a : Int) % (un : Nat) = 0 := by omega
      clear g
      have z0 : ¬ ((un : Nat) : Int) = 0 := by omega
      go_wp2_with (go_at_call 33; with_reducible refine (c5 _).mono ?_; rintro e w' ⟨rfl, rfl⟩)
      go_ret
      exact ⟨by rw [← HV.out, if_neg (fun c => c HG.out)] <;> rfl, HK.out⟩
    · have HG : Hid _ := g
      obtain ⟨m, hm⟩ : ∃ m : Nat, a % un = m := ⟨_, rfl⟩
      have z2 : (a : Int) % (un : Nat) = (m : Int) := by omega
      have z3 : (a : Int).tmod (un : Nat) = (m : Int) := by rw [Int.tmod_eq_emod_of_nonneg (by omega)]; exact z2
      have z4 : (m : Int) ≠ 0 := by omega
      have z5 : ((m : Int) != 0) = true := by rw [bne_iff_ne]; exact z4
      have z0 : ¬ ((un : Nat) : Int) = 0 := by omega
      clear hm g
      go_wp2_with (go_at_call 33; with_reducible refine (c5 _).mono ?_; rintro e w' ⟨rfl, rfl⟩)
      go_ret
      exact ⟨by rw [← HV.out, if_pos HG.out] <;> rfl, HK.out⟩

set_option maxHeartbeats 4000000 in
theorem rgo_32 (s l : Int) (a : Nat) (x : Bool) (f : Int) (w : World) (h1 : 1 ≤ s) (h2 : s ≤ 2) (h3 : 0 ≤ l) (h4 : l ≤ 3) (h5 : 0 ≤ f) (h6 : f ≤ 15) (h : l = 3) : Calls Try.prog 35 #[.int .i64 s, .int .i64 l, .agg #[.int .i64 3, .int .u64 (a : Int), .bool true, .bool true, .bool x, .int .i64 f]] w fun e w' => e = .returned (.int .i64 (if topS s ≤ a then 2 else if a % unitN l 3 ≠ 0 then 3 else 0)) ∧ Kp w w' := by
  subst h
  have b1 : decide (s < 1) = false := decide_eq_false (by omega)
  have b2 : decide (2 < s) = false := decide_eq_false (by omega)
  have b5 : decide (f < 0) = false := decide_eq_false (by omega)
  have b6 : decide (15 < f) = false := decide_eq_false (by omega)
  have c4 := rtop_any s
  rw [show unitN 3 3 = 4096 from rfl]
  generalize topS s = tp at *
  clear h1 h2 h3 h4 h5 h6
  by_cases t : tp ≤ a
  · rw [if_pos t]
    have t1 : ((tp : Nat) : Int) ≤ a := by omega
    go_enter Try.func35, Try.ntmps35
    go_wp2_with fail
    go_quiet (first | (go_at_call 32; refine Calls.quiet_of_same (c4 _)))
    obtain ⟨w1, hw1⟩ : ∃ w1, w1 = (w.alloc (.cells #[.int .i64 3, .int .u64 (a : Int), .bool true, .bool true, .bool x, .int .i64 f] 48)).drewN nq := ⟨_, rfl⟩
    have B : BX w1 w.heap.size 3 a true true x f := by rw [hw1]; exact BX.made w 3 a true true x f
    have HK : Hid (Kp w w1) := by rw [hw1]; exact ((Kp.refl w).alloc _).drewN nq
    have x0 := B.c0
    have x1 := B.c1
    rw [← hw1]
    clear hw1 B
    go_wp2
    go_ret
    exact ⟨rfl, HK.out⟩
  · rw [if_neg t]
    obtain ⟨v, hv⟩ : ∃ v : Int, (if a % 4096 ≠ 0 then 3 else 0) = v := ⟨_, rfl⟩
    rw [hv]
    have HV : Hid _ := hv
    clear hv
    have t1 : ¬ ((tp : Nat) : Int) ≤ a := by omega
    go_enter Try.func35, Try.ntmps35
    go_wp2_with fail
    go_quiet (first | (go_at_call 32; refine Calls.quiet_of_same (c4 _)))
    obtain ⟨w1, hw1⟩ : ∃ w1, w1 = (w.alloc (.cells #[.int .i64 3, .int .u64 (a : Int), .bool true, .bool true, .bool x, .int .i64 f] 48)).drewN nq := ⟨_, rfl⟩
    have B : BX w1 w.heap.size 3 a true true x f := by rw [hw1]; exact BX.made w 3 a true true x f
    have HK : Hid (Kp w w1) := by rw [hw1]; exact ((Kp.refl w).alloc _).drewN nq
    have x0 := B.c0
    have x1 := B.c1
    rw [← hw1]
    clear hw1 B
    by_cases g : a % 4096 = 0
    · have HG : Hid _ := g
      have z3 : (a : Int).tmod 4096 = 0 := by rw [Int.tmod_eq_emod_of_nonneg (by omega)]; omega
      have z2 : (a : Int) % 4096 = 0 := by omega
      clear g
      go_wp2_with fail
      go_ret
      exact ⟨by rw [← HV.out, if_neg (fun c => c HG.out)] <;> rfl, HK.out⟩
    · have HG : Hid _ := g
      obtain ⟨m, hm⟩ : ∃ m : Nat, a % 4096 = m := ⟨_, rfl⟩
      have z2 : (a : Int) % 4096 = (m : Int) := by omega
      have z3 : (a : Int).tmod 4096 = (m : Int) := by rw [Int.tmod_eq_emod_of_nonneg (by omega)]; exact z2
      have z4 : (m : Int) ≠ 0 := by omega
      have z5 : ((m : Int) != 0) = true := by rw [bne_iff_ne]; exact z4
      clear hm g
      go_wp2_with fail
      go_ret
      exact ⟨by rw [← HV.out, if_pos HG.out] <;> rfl, HK.out⟩

set_option maxHeartbeats 4000000 in
theorem rgo_0 (s l : Int) (w : World) (h1 : 1 ≤ s) (h2 : s ≤ 2) (h3 : 0 ≤ l) (h4 : l ≤ 3) : Calls Try.prog 35 #[.int .i64 s, .int .i64 l, .agg #[.int .i64 0, .int .u64 0, .bool false, .bool false, .bool false, .int .i64 0]] w fun e w' => e = .returned (.int .i64 0) ∧ Kp w w' := by
  have b1 : decide (s < 1) = false := decide_eq_false (by omega)
  have b2 : decide (2 < s) = false := decide_eq_false (by omega)
  have b3 : decide (l < 0) = false := decide_eq_false (by omega)
  have b4 : decide (3 < l) = false := decide_eq_false (by omega)
  have c4 := rtop_any s
  have t1 : ¬ ((topS s : Nat) : Int) ≤ 0 := by
    rcases (by omega : s = 1 ∨ s = 2) with rfl | rfl <;> decide
  generalize topS s = tp at *
  clear h1 h2 h3 h4
  go_enter Try.func35, Try.ntmps35
  go_wp2_with fail
  go_quiet (first | (go_at_call 32; refine Calls.quiet_of_same (c4 _)))
  obtain ⟨w1, hw1⟩ : ∃ w1, w1 = (w.alloc (.cells #[.int .i64 0, .int .u64 0, .bool false, .bool false, .bool false, .int .i64 0] 48)).drewN nq := ⟨_, rfl⟩
  have B : BX w1 w.heap.size 0 0 false false false 0 := by rw [hw1]; exact BX.made w 0 0 false false false 0
  have HK : Hid (Kp w w1) := by rw [hw1]; exact ((Kp.refl w).alloc _).drewN nq
  have x0 := B.c0
  have x1 := B.c1
  rw [← hw1]
  clear hw1 B
  go_wp2
  go_ret
  exact ⟨rfl, HK.out⟩

theorem rcheck_any (s l k : Int) (a : Nat) (r q x : Bool) (f : Int) (w : World) : Calls Try.prog 35 #[.int .i64 s, .int .i64 l, .agg #[.int .i64 k, .int .u64 (a : Int), .bool r, .bool q, .bool x, .int .i64 f]] w fun e w' => e = .returned (.int .i64 (dchk s l k a r q x f)) ∧ Kp w w' := by
  by_cases h : isPl s l = true ∧ isKd k = true ∧ 0 ≤ f ∧ f ≤ 15
  rotate_left
  · rw [chk1 h]; exact rcheck_arg s l k a r q x f w h
  obtain ⟨hp, hk, h5, h6⟩ := id h
  obtain ⟨h1, h2, h3, h4⟩ := isPl_iff.1 hp
  have hk' := isKd_iff.1 hk
  have hg : fm l k a r q x f = true → dchk s l k a r q x f = (if topS s ≤ a then 2 else if a % unitN l k ≠ 0 then 3 else 0) := fun c => by
    unfold dchk; rw [if_neg (fun c => c h), if_neg (by rw [c]; decide)]
  rcases (by omega : k = 0 ∨ k = 1 ∨ k = 2 ∨ k = 3) with rfl | rfl | rfl | rfl
  · cases r
    · cases q
      · cases x
        · by_cases ha : a = 0
          · subst ha
            by_cases hf : f = 0
            · subst hf
              have t : ¬ topS s ≤ 0 := by rcases (by omega : s = 1 ∨ s = 2) with rfl | rfl <;> decide
              rw [chk0 h (by simp [fm]) t (Nat.zero_mod _)]
              exact rgo_0 s l w h1 h2 h3 h4
            · rw [chk4 h (by simp [fm, hf])]
              exact rform_0f s l f w h1 h2 h3 h4 h5 h6 hf
          · rw [chk4 h (by simp [fm]; intro c; omega)]
            exact rform_0a s l a f w h1 h2 h3 h4 h5 h6 ha
        · rw [chk4 h (by simp [fm])]
          exact rform_0x s l a f w h1 h2 h3 h4 h5 h6
      · rw [chk4 h (by simp [fm])]
        exact rform_0q s l a x f w h1 h2 h3 h4 h5 h6
    · rw [chk4 h (by cases q <;> simp [fm])]
      exact rform_0r s l a q x f w h1 h2 h3 h4 h5 h6
  · by_cases hl : l = 3
    · rw [chk4 h (by cases q <;> cases r <;> simp [fm, hl])]
      exact rform_13 s l a r q x f w h1 h2 h3 h4 h5 h6 hl
    cases r
    · cases q
      · cases x
        · rw [hg (by simp [fm, hl])]
          exact rgo_1 s l a f w h1 h2 h3 h4 h5 h6 hl
        · rw [chk4 h (by simp [fm])]
          exact rform_1x s l a f w h1 h2 h3 h4 h5 h6 hl
      · rw [chk4 h (by simp [fm])]
        exact rform_1q s l a x f w h1 h2 h3 h4 h5 h6 hl
    · rw [chk4 h (by cases q <;> simp [fm])]
      exact rform_1r s l a q x f w h1 h2 h3 h4 h5 h6 hl
  · by_cases hl : l = 3
    · rw [chk4 h (by cases q <;> cases r <;> simp [fm, hl])]
      exact rform_23 s l a r q x f w h1 h2 h3 h4 h5 h6 hl
    by_cases hz : l = 0
    · rw [chk4 h (by cases q <;> cases r <;> simp [fm, hz])]
      exact rform_20 s l a r q x f w h1 h2 h3 h4 h5 h6 hz
    cases r
    · cases q
      · rw [hg (by simp [fm, hl, hz])]
        exact rgo_20 s l a x f w h1 h2 h3 h4 h5 h6 hz hl
      · rw [chk4 h (by simp [fm])]
        exact rform_2q s l a x f w h1 h2 h3 h4 h5 h6 hz hl
    · cases q
      · rw [hg (by simp [fm, hl, hz])]
        exact rgo_21 s l a x f w h1 h2 h3 h4 h5 h6 hz hl
      · rw [hg (by simp [fm, hl, hz])]
        exact rgo_22 s l a x f w h1 h2 h3 h4 h5 h6 hz hl
  · by_cases hl : l = 3
    rotate_left
    · rw [chk4 h (by cases q <;> cases r <;> simp [fm, hl])]
      exact rform_3 s l a r q x f w h1 h2 h3 h4 h5 h6 hl
    cases r
    · cases q
      · rw [hg (by simp [fm, hl])]
        exact rgo_30 s l a x f w h1 h2 h3 h4 h5 h6 hl
      · rw [chk4 h (by simp [fm])]
        exact rform_3q s l a x f w h1 h2 h3 h4 h5 h6 hl
    · cases q
      · rw [hg (by simp [fm, hl])]
        exact rgo_31 s l a x f w h1 h2 h3 h4 h5 h6 hl
      · rw [hg (by simp [fm, hl])]
        exact rgo_32 s l a x f w h1 h2 h3 h4 h5 h6 hl

end Go.Proofs.Ytcbciehffgaapaa
