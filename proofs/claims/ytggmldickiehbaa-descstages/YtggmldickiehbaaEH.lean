/- DescStages: the walks. -/
import Derived.Test.YtggmldickiehbaaEF
import Derived.Test.YtggmldickiehbaaEG
namespace Go.Proofs.Ytggmldickiehbaa
open Go.RowKit

set_option maxHeartbeats 8000000 in
set_option maxRecDepth 10000 in
theorem stages_a (level : Int) (u m U V : Nat) (k : Int) (a : Nat) (r q x : Bool) (f : Nat) (w : World) (p1 : bits .and .i64 level 3 = (m : Int)) (p2 : bits .or .u64 (u : Int) 1 = (U : Int)) (p3 : bits .andNot .u64 (u : Int) 1 = (V : Int))
    (s1 : Aside (∀ w, Calls Try.prog 16 #[.int .i64 1, .int .i64 (m : Int), .int .u64 (U : Int)] w fun e w' => e = .returned (.tuple #[.agg #[.int .i64 k, .int .u64 (a : Int), .bool r, .bool q, .bool x, .int .i64 (f : Int)], .int .i64 0]) ∧ Kp w w'))
    (s2 : Aside (∀ w, Calls Try.prog 16 #[.int .i64 2, .int .i64 (m : Int), .int .u64 (U : Int)] w fun e w' => e = .returned (.tuple #[.agg #[.int .i64 k, .int .u64 (a : Int), .bool r, .bool q, .bool x, .int .i64 (f : Int)], .int .i64 0]) ∧ Kp w w'))
    (s3 : Aside (∀ w, Calls Try.prog 16 #[.int .i64 1, .int .i64 (m : Int), .int .u64 (V : Int)] w fun e w' => e = .returned (.tuple #[.agg #[.int .i64 0, .int .u64 0, .bool false, .bool false, .bool false, .int .i64 0], .int .i64 0]) ∧ Kp w w')) :
    Calls Try.prog 7 #[.int .i64 level, .int .u64 (u : Int)] w fun e w' => e = .returned (.bool true) ∧ Kp w w' := by
  have s4 : Aside (∀ w, Calls Try.prog 11 #[] w fun e w' => e = .returned (.bool true) ∧ Kp w w') := fun w => dtold_any w
  have hq := eq_like k a r q x f
  have hz := eq_like 0 0 false false false 0
  go_enter Try.func7, Try.ntmps7
  go_wp2_with fail
  with_reducible refine (s1.out _).mono ?_
  rintro e w1 ⟨rfl, K⟩
  have HK1 : Hid (Kp w w1) := (Kp.refl w).trans K
  clear K s1
  go_wp2_with fail
  with_reducible refine (s2.out _).mono ?_
  rintro e w2 ⟨rfl, K⟩
  have HK2 : Hid (Kp w w2) := (HK1.out.alloc _).trans K
  obtain ⟨b6, hb6⟩ : ∃ b6, b6 = w1.heap.size := ⟨_, rfl⟩
  have Hb62 : Hid (BX w2 b6 k (a : Int) r q x (f : Int)) := by rw [hb6]; exact ((BX.made w1 k (a : Int) r q x (f : Int)).kp (Kp.refl _)).kp K
  (try rw [← hb6])
  clear K hb6 HK1 s2
  have Bb6 : BX (w2.alloc (.cells #[.int .i64 k, .int .u64 (a : Int), .bool r, .bool q, .bool x, .int .i64 (f : Int)] 26)) b6 k (a : Int) r q x (f : Int) := Hb62.out.kp ((Kp.refl _).alloc _)
  have x0 := Bb6.c0
  have x1 := Bb6.c1
  have x2 := Bb6.c2
  have x3 := Bb6.c3
  have x4 := Bb6.c4
  have x5 := Bb6.c5
  clear Bb6
  go_wp2_with fail
  clear x0 x1 x2 x3 x4 x5
  go_quiet (fail)
  obtain ⟨w3, hw3⟩ : ∃ v, v = (w2.alloc (.cells #[.int .i64 k, .int .u64 (a : Int), .bool r, .bool q, .bool x, .int .i64 (f : Int)] 26)).drewN nq := ⟨_, rfl⟩
  have HK3 : Hid (Kp w w3) := by rw [hw3]; exact ((HK2.out.alloc _).drewN nq)
  have Hb63 : Hid (BX w3 b6 k (a : Int) r q x (f : Int)) := by rw [hw3]; exact Hb62.out.kp (((Kp.refl _).alloc _).drewN nq)
  obtain ⟨b8, hb8⟩ : ∃ b8, b8 = w2.heap.size := ⟨_, rfl⟩
  have Hb83 : Hid (BX w3 b8 k (a : Int) r q x (f : Int)) := by rw [hb8, hw3]; exact (BX.made w2 k (a : Int) r q x (f : Int)).kp ((Kp.refl _).drewN nq)
  rw [← hw3]
  (try rw [← hb8])
  clear hw3 hb8 HK2 Hb62
  go_wp2_with fail
  with_reducible refine (s3.out _).mono ?_
  rintro e w4 ⟨rfl, K⟩
  have HK4 : Hid (Kp w w4) := HK3.out.trans K
  have Hb64 : Hid (BX w4 b6 k (a : Int) r q x (f : Int)) := Hb63.out.kp K
  have Hb84 : Hid (BX w4 b8 k (a : Int) r q x (f : Int)) := Hb83.out.kp K
  clear K HK3 Hb63 Hb83 s3
  go_wp2_with fail
  with_reducible refine (s4.out _).mono ?_
  rintro e w5 ⟨rfl, K⟩
  have HK5 : Hid (Kp w w5) := (HK4.out.alloc _).trans K
  have Hb65 : Hid (BX w5 b6 k (a : Int) r q x (f : Int)) := (Hb64.out.kp ((Kp.refl _).alloc _)).kp K
  have Hb85 : Hid (BX w5 b8 k (a : Int) r q x (f : Int)) := (Hb84.out.kp ((Kp.refl _).alloc _)).kp K
  obtain ⟨b10, hb10⟩ : ∃ b10, b10 = w4.heap.size := ⟨_, rfl⟩
  have Hb105 : Hid (BX w5 b10 0 0 false false false 0) := by rw [hb10]; exact ((BX.made w4 0 0 false false false 0).kp (Kp.refl _)).kp K
  (try rw [← hb10])
  clear K hb10 HK4 Hb64 Hb84 s4
  have y0 := Hb105.out.c0
  have y1 := Hb105.out.c1
  have y2 := Hb105.out.c2
  have y3 := Hb105.out.c3
  have y4 := Hb105.out.c4
  have y5 := Hb105.out.c5
  go_wp2_with fail
  go_ret
  exact ⟨rfl, HK5.out⟩

set_option maxHeartbeats 8000000 in
set_option maxRecDepth 10000 in
theorem stages_b (level : Int) (u m U V : Nat) (k : Int) (a : Nat) (r q x : Bool) (f : Nat) (tp : Nat) (w : World) (p1 : bits .and .i64 level 3 = (m : Int)) (p2 : bits .or .u64 (u : Int) 1 = (U : Int)) (p3 : bits .andNot .u64 (u : Int) 1 = (V : Int))
    (s1 : Aside (∀ w, Calls Try.prog 16 #[.int .i64 1, .int .i64 (m : Int), .int .u64 (U : Int)] w fun e w' => e = .returned (.tuple #[.agg #[.int .i64 k, .int .u64 (a : Int), .bool r, .bool q, .bool x, .int .i64 (f : Int)], .int .i64 0]) ∧ Kp w w'))
    (s2 : Aside (∀ w, Calls Try.prog 16 #[.int .i64 2, .int .i64 (m : Int), .int .u64 (U : Int)] w fun e w' => e = .returned (.tuple #[.agg #[.int .i64 0, .int .u64 0, .bool false, .bool false, .bool false, .int .i64 0], .int .i64 2]) ∧ Kp w w'))
    (s3 : Aside (∀ w, Calls Try.prog 16 #[.int .i64 1, .int .i64 (m : Int), .int .u64 (V : Int)] w fun e w' => e = .returned (.tuple #[.agg #[.int .i64 0, .int .u64 0, .bool false, .bool false, .bool false, .int .i64 0], .int .i64 0]) ∧ Kp w w'))
    (t1 : ¬ (a : Int) < (tp : Nat)) (c4 : ∀ w, Calls Try.prog 14 #[.int .i64 2] w fun e w' => e = .returned (.int .u64 (tp : Nat)) ∧ w' = w) :
    Calls Try.prog 7 #[.int .i64 level, .int .u64 (u : Int)] w fun e w' => e = .returned (.bool true) ∧ Kp w w' := by
  have s4 : Aside (∀ w, Calls Try.prog 11 #[] w fun e w' => e = .returned (.bool true) ∧ Kp w w') := fun w => dtold_any w
  have hq := eq_like k a r q x f
  have hz := eq_like 0 0 false false false 0
  go_enter Try.func7, Try.ntmps7
  go_wp2_with fail
  with_reducible refine (s1.out _).mono ?_
  rintro e w1 ⟨rfl, K⟩
  have HK1 : Hid (Kp w w1) := (Kp.refl w).trans K
  clear K s1
  go_wp2_with fail
  with_reducible refine (s2.out _).mono ?_
  rintro e w2 ⟨rfl, K⟩
  have HK2 : Hid (Kp w w2) := (HK1.out.alloc _).trans K
  obtain ⟨b6, hb6⟩ : ∃ b6, b6 = w1.heap.size := ⟨_, rfl⟩
  have Hb62 : Hid (BX w2 b6 k (a : Int) r q x (f : Int)) := by rw [hb6]; exact ((BX.made w1 k (a : Int) r q x (f : Int)).kp (Kp.refl _)).kp K
  (try rw [← hb6])
  clear K hb6 HK1 s2
  go_wp2_with fail
  have Bb6 : BX (w2.alloc (.cells #[.int .i64 0, .int .u64 0, .bool false, .bool false, .bool false, .int .i64 0] 26)) b6 k (a : Int) r q x (f : Int) := Hb62.out.kp ((Kp.refl _).alloc _)
  have x1 := Bb6.c1
  clear Bb6
  go_quiet (first | (go_at_call 14; refine Calls.quiet_of_same (c4 _)))
  obtain ⟨w3, hw3⟩ : ∃ v, v = (w2.alloc (.cells #[.int .i64 0, .int .u64 0, .bool false, .bool false, .bool false, .int .i64 0] 26)).drewN nq := ⟨_, rfl⟩
  have HK3 : Hid (Kp w w3) := by rw [hw3]; exact ((HK2.out.alloc _).drewN nq)
  have Hb63 : Hid (BX w3 b6 k (a : Int) r q x (f : Int)) := by rw [hw3]; exact Hb62.out.kp (((Kp.refl _).alloc _).drewN nq)
  obtain ⟨b8, hb8⟩ : ∃ b8, b8 = w2.heap.size := ⟨_, rfl⟩
  have Hb83 : Hid (BX w3 b8 0 0 false false false 0) := by rw [hb8, hw3]; exact (BX.made w2 0 0 false false false 0).kp ((Kp.refl _).drewN nq)
  rw [← hw3]
  (try rw [← hb8])
  clear hw3 hb8 HK2 Hb62
  clear x1
  go_wp2_with fail
  with_reducible refine (s3.out _).mono ?_
  rintro e w4 ⟨rfl, K⟩
  have HK4 : Hid (Kp w w4) := HK3.out.trans K
  have Hb64 : Hid (BX w4 b6 k (a : Int) r q x (f : Int)) := Hb63.out.kp K
  have Hb84 : Hid (BX w4 b8 0 0 false false false 0) := Hb83.out.kp K
  clear K HK3 Hb63 Hb83 s3
  go_wp2_with fail
  with_reducible refine (s4.out _).mono ?_
  rintro e w5 ⟨rfl, K⟩
  have HK5 : Hid (Kp w w5) := (HK4.out.alloc _).trans K
  have Hb65 : Hid (BX w5 b6 k (a : Int) r q x (f : Int)) := (Hb64.out.kp ((Kp.refl _).alloc _)).kp K
  have Hb85 : Hid (BX w5 b8 0 0 false false false 0) := (Hb84.out.kp ((Kp.refl _).alloc _)).kp K
  obtain ⟨b10, hb10⟩ : ∃ b10, b10 = w4.heap.size := ⟨_, rfl⟩
  have Hb105 : Hid (BX w5 b10 0 0 false false false 0) := by rw [hb10]; exact ((BX.made w4 0 0 false false false 0).kp (Kp.refl _)).kp K
  (try rw [← hb10])
  clear K hb10 HK4 Hb64 Hb84 s4
  have y0 := Hb105.out.c0
  have y1 := Hb105.out.c1
  have y2 := Hb105.out.c2
  have y3 := Hb105.out.c3
  have y4 := Hb105.out.c4
  have y5 := Hb105.out.c5
  go_wp2_with fail
  go_ret
  exact ⟨rfl, HK5.out⟩

set_option maxHeartbeats 8000000 in
set_option maxRecDepth 10000 in
theorem stages_c00 (level : Int) (u m U V : Nat)  (w : World) (p1 : bits .and .i64 level 3 = (m : Int)) (p2 : bits .or .u64 (u : Int) 1 = (U : Int)) (p3 : bits .andNot .u64 (u : Int) 1 = (V : Int))
    (s1 : Aside (∀ w, Calls Try.prog 16 #[.int .i64 1, .int .i64 (m : Int), .int .u64 (U : Int)] w fun e w' => e = .returned (.tuple #[.agg #[.int .i64 0, .int .u64 0, .bool false, .bool false, .bool false, .int .i64 0], .int .i64 2]) ∧ Kp w w'))
    (s2 : Aside (∀ w, Calls Try.prog 16 #[.int .i64 2, .int .i64 (m : Int), .int .u64 (U : Int)] w fun e w' => e = .returned (.tuple #[.agg #[.int .i64 0, .int .u64 0, .bool false, .bool false, .bool false, .int .i64 0], .int .i64 2]) ∧ Kp w w'))
    (s3 : Aside (∀ w, Calls Try.prog 16 #[.int .i64 1, .int .i64 (m : Int), .int .u64 (V : Int)] w fun e w' => e = .returned (.tuple #[.agg #[.int .i64 0, .int .u64 0, .bool false, .bool false, .bool false, .int .i64 0], .int .i64 0]) ∧ Kp w w')) :
    Calls Try.prog 7 #[.int .i64 level, .int .u64 (u : Int)] w fun e w' => e = .returned (.bool true) ∧ Kp w w' := by
  have s4 : Aside (∀ w, Calls Try.prog 11 #[] w fun e w' => e = .returned (.bool true) ∧ Kp w w') := fun w => dtold_any w
  have hq := eq_like 0 0 false false false 0
  have hz := eq_like 0 0 false false false 0
  go_enter Try.func7, Try.ntmps7
  go_wp2_with fail
  with_reducible refine (s1.out _).mono ?_
  rintro e w1 ⟨rfl, K⟩
  have HK1 : Hid (Kp w w1) := (Kp.refl w).trans K
  clear K s1
  go_wp2_with fail
  with_reducible refine (s2.out _).mono ?_
  rintro e w2 ⟨rfl, K⟩
  have HK2 : Hid (Kp w w2) := (HK1.out.alloc _).trans K
  obtain ⟨b6, hb6⟩ : ∃ b6, b6 = w1.heap.size := ⟨_, rfl⟩
  have Hb62 : Hid (BX w2 b6 0 0 false false false 0) := by rw [hb6]; exact ((BX.made w1 0 0 false false false 0).kp (Kp.refl _)).kp K
  (try rw [← hb6])
  clear K hb6 HK1 s2
  have Bb6 : BX (w2.alloc (.cells #[.int .i64 0, .int .u64 0, .bool false, .bool false, .bool false, .int .i64 0] 26)) b6 0 0 false false false 0 := Hb62.out.kp ((Kp.refl _).alloc _)
  have x0 := Bb6.c0
  have x1 := Bb6.c1
  have x2 := Bb6.c2
  have x3 := Bb6.c3
  have x4 := Bb6.c4
  have x5 := Bb6.c5
  clear Bb6
  go_wp2_with fail
  clear x0 x1 x2 x3 x4 x5
  go_quiet (fail)
  obtain ⟨w3, hw3⟩ : ∃ v, v = (w2.alloc (.cells #[.int .i64 0, .int .u64 0, .bool false, .bool false, .bool false, .int .i64 0] 26)).drewN nq := ⟨_, rfl⟩
  have HK3 : Hid (Kp w w3) := by rw [hw3]; exact ((HK2.out.alloc _).drewN nq)
  have Hb63 : Hid (BX w3 b6 0 0 false false false 0) := by rw [hw3]; exact Hb62.out.kp (((Kp.refl _).alloc _).drewN nq)
  obtain ⟨b8, hb8⟩ : ∃ b8, b8 = w2.heap.size := ⟨_, rfl⟩
  have Hb83 : Hid (BX w3 b8 0 0 false false false 0) := by rw [hb8, hw3]; exact (BX.made w2 0 0 false false false 0).kp ((Kp.refl _).drewN nq)
  rw [← hw3]
  (try rw [← hb8])
  clear hw3 hb8 HK2 Hb62
  go_wp2_with fail
  with_reducible refine (s3.out _).mono ?_
  rintro e w4 ⟨rfl, K⟩
  have HK4 : Hid (Kp w w4) := HK3.out.trans K
  have Hb64 : Hid (BX w4 b6 0 0 false false false 0) := Hb63.out.kp K
  have Hb84 : Hid (BX w4 b8 0 0 false false false 0) := Hb83.out.kp K
  clear K HK3 Hb63 Hb83 s3
  go_wp2_with fail
  with_reducible refine (s4.out _).mono ?_
  rintro e w5 ⟨rfl, K⟩
  have HK5 : Hid (Kp w w5) := (HK4.out.alloc _).trans K
  have Hb65 : Hid (BX w5 b6 0 0 false false false 0) := (Hb64.out.kp ((Kp.refl _).alloc _)).kp K
  have Hb85 : Hid (BX w5 b8 0 0 false false false 0) := (Hb84.out.kp ((Kp.refl _).alloc _)).kp K
  obtain ⟨b10, hb10⟩ : ∃ b10, b10 = w4.heap.size := ⟨_, rfl⟩
  have Hb105 : Hid (BX w5 b10 0 0 false false false 0) := by rw [hb10]; exact ((BX.made w4 0 0 false false false 0).kp (Kp.refl _)).kp K
  (try rw [← hb10])
  clear K hb10 HK4 Hb64 Hb84 s4
  have y0 := Hb105.out.c0
  have y1 := Hb105.out.c1
  have y2 := Hb105.out.c2
  have y3 := Hb105.out.c3
  have y4 := Hb105.out.c4
  have y5 := Hb105.out.c5
  go_wp2_with fail
  go_ret
  exact ⟨rfl, HK5.out⟩

set_option maxHeartbeats 8000000 in
set_option maxRecDepth 10000 in
theorem stages_c01 (level : Int) (u m U V : Nat)  (w : World) (p1 : bits .and .i64 level 3 = (m : Int)) (p2 : bits .or .u64 (u : Int) 1 = (U : Int)) (p3 : bits .andNot .u64 (u : Int) 1 = (V : Int))
    (s1 : Aside (∀ w, Calls Try.prog 16 #[.int .i64 1, .int .i64 (m : Int), .int .u64 (U : Int)] w fun e w' => e = .returned (.tuple #[.agg #[.int .i64 0, .int .u64 0, .bool false, .bool false, .bool false, .int .i64 0], .int .i64 2]) ∧ Kp w w'))
    (s2 : Aside (∀ w, Calls Try.prog 16 #[.int .i64 2, .int .i64 (m : Int), .int .u64 (U : Int)] w fun e w' => e = .returned (.tuple #[.agg #[.int .i64 0, .int .u64 0, .bool false, .bool false, .bool false, .int .i64 0], .int .i64 4]) ∧ Kp w w'))
    (s3 : Aside (∀ w, Calls Try.prog 16 #[.int .i64 1, .int .i64 (m : Int), .int .u64 (V : Int)] w fun e w' => e = .returned (.tuple #[.agg #[.int .i64 0, .int .u64 0, .bool false, .bool false, .bool false, .int .i64 0], .int .i64 0]) ∧ Kp w w')) :
    Calls Try.prog 7 #[.int .i64 level, .int .u64 (u : Int)] w fun e w' => e = .returned (.bool true) ∧ Kp w w' := by
  have s4 : Aside (∀ w, Calls Try.prog 11 #[] w fun e w' => e = .returned (.bool true) ∧ Kp w w') := fun w => dtold_any w
  have hq := eq_like 0 0 false false false 0
  have hz := eq_like 0 0 false false false 0
  go_enter Try.func7, Try.ntmps7
  go_wp2_with fail
  with_reducible refine (s1.out _).mono ?_
  rintro e w1 ⟨rfl, K⟩
  have HK1 : Hid (Kp w w1) := (Kp.refl w).trans K
  clear K s1
  go_wp2_with fail
  with_reducible refine (s2.out _).mono ?_
  rintro e w2 ⟨rfl, K⟩
  have HK2 : Hid (Kp w w2) := (HK1.out.alloc _).trans K
  obtain ⟨b6, hb6⟩ : ∃ b6, b6 = w1.heap.size := ⟨_, rfl⟩
  have Hb62 : Hid (BX w2 b6 0 0 false false false 0) := by rw [hb6]; exact ((BX.made w1 0 0 false false false 0).kp (Kp.refl _)).kp K
  (try rw [← hb6])
  clear K hb6 HK1 s2
  have Bb6 : BX (w2.alloc (.cells #[.int .i64 0, .int .u64 0, .bool false, .bool false, .bool false, .int .i64 0] 26)) b6 0 0 false false false 0 := Hb62.out.kp ((Kp.refl _).alloc _)
  have x0 := Bb6.c0
  have x1 := Bb6.c1
  have x2 := Bb6.c2
  have x3 := Bb6.c3
  have x4 := Bb6.c4
  have x5 := Bb6.c5
  clear Bb6
  go_wp2_with fail
  clear x0 x1 x2 x3 x4 x5
  go_quiet (fail)
  obtain ⟨w3, hw3⟩ : ∃ v, v = (w2.alloc (.cells #[.int .i64 0, .int .u64 0, .bool false, .bool false, .bool false, .int .i64 0] 26)).drewN nq := ⟨_, rfl⟩
  have HK3 : Hid (Kp w w3) := by rw [hw3]; exact ((HK2.out.alloc _).drewN nq)
  have Hb63 : Hid (BX w3 b6 0 0 false false false 0) := by rw [hw3]; exact Hb62.out.kp (((Kp.refl _).alloc _).drewN nq)
  obtain ⟨b8, hb8⟩ : ∃ b8, b8 = w2.heap.size := ⟨_, rfl⟩
  have Hb83 : Hid (BX w3 b8 0 0 false false false 0) := by rw [hb8, hw3]; exact (BX.made w2 0 0 false false false 0).kp ((Kp.refl _).drewN nq)
  rw [← hw3]
  (try rw [← hb8])
  clear hw3 hb8 HK2 Hb62
  go_wp2_with fail
  with_reducible refine (s3.out _).mono ?_
  rintro e w4 ⟨rfl, K⟩
  have HK4 : Hid (Kp w w4) := HK3.out.trans K
  have Hb64 : Hid (BX w4 b6 0 0 false false false 0) := Hb63.out.kp K
  have Hb84 : Hid (BX w4 b8 0 0 false false false 0) := Hb83.out.kp K
  clear K HK3 Hb63 Hb83 s3
  go_wp2_with fail
  with_reducible refine (s4.out _).mono ?_
  rintro e w5 ⟨rfl, K⟩
  have HK5 : Hid (Kp w w5) := (HK4.out.alloc _).trans K
  have Hb65 : Hid (BX w5 b6 0 0 false false false 0) := (Hb64.out.kp ((Kp.refl _).alloc _)).kp K
  have Hb85 : Hid (BX w5 b8 0 0 false false false 0) := (Hb84.out.kp ((Kp.refl _).alloc _)).kp K
  obtain ⟨b10, hb10⟩ : ∃ b10, b10 = w4.heap.size := ⟨_, rfl⟩
  have Hb105 : Hid (BX w5 b10 0 0 false false false 0) := by rw [hb10]; exact ((BX.made w4 0 0 false false false 0).kp (Kp.refl _)).kp K
  (try rw [← hb10])
  clear K hb10 HK4 Hb64 Hb84 s4
  have y0 := Hb105.out.c0
  have y1 := Hb105.out.c1
  have y2 := Hb105.out.c2
  have y3 := Hb105.out.c3
  have y4 := Hb105.out.c4
  have y5 := Hb105.out.c5
  go_wp2_with fail
  go_ret
  exact ⟨rfl, HK5.out⟩

set_option maxHeartbeats 8000000 in
set_option maxRecDepth 10000 in
theorem stages_c10 (level : Int) (u m U V : Nat)  (w : World) (p1 : bits .and .i64 level 3 = (m : Int)) (p2 : bits .or .u64 (u : Int) 1 = (U : Int)) (p3 : bits .andNot .u64 (u : Int) 1 = (V : Int))
    (s1 : Aside (∀ w, Calls Try.prog 16 #[.int .i64 1, .int .i64 (m : Int), .int .u64 (U : Int)] w fun e w' => e = .returned (.tuple #[.agg #[.int .i64 0, .int .u64 0, .bool false, .bool false, .bool false, .int .i64 0], .int .i64 4]) ∧ Kp w w'))
    (s2 : Aside (∀ w, Calls Try.prog 16 #[.int .i64 2, .int .i64 (m : Int), .int .u64 (U : Int)] w fun e w' => e = .returned (.tuple #[.agg #[.int .i64 0, .int .u64 0, .bool false, .bool false, .bool false, .int .i64 0], .int .i64 2]) ∧ Kp w w'))
    (s3 : Aside (∀ w, Calls Try.prog 16 #[.int .i64 1, .int .i64 (m : Int), .int .u64 (V : Int)] w fun e w' => e = .returned (.tuple #[.agg #[.int .i64 0, .int .u64 0, .bool false, .bool false, .bool false, .int .i64 0], .int .i64 0]) ∧ Kp w w')) :
    Calls Try.prog 7 #[.int .i64 level, .int .u64 (u : Int)] w fun e w' => e = .returned (.bool true) ∧ Kp w w' := by
  have s4 : Aside (∀ w, Calls Try.prog 11 #[] w fun e w' => e = .returned (.bool true) ∧ Kp w w') := fun w => dtold_any w
  have hq := eq_like 0 0 false false false 0
  have hz := eq_like 0 0 false false false 0
  go_enter Try.func7, Try.ntmps7
  go_wp2_with fail
  with_reducible refine (s1.out _).mono ?_
  rintro e w1 ⟨rfl, K⟩
  have HK1 : Hid (Kp w w1) := (Kp.refl w).trans K
  clear K s1
  go_wp2_with fail
  with_reducible refine (s2.out _).mono ?_
  rintro e w2 ⟨rfl, K⟩
  have HK2 : Hid (Kp w w2) := (HK1.out.alloc _).trans K
  obtain ⟨b6, hb6⟩ : ∃ b6, b6 = w1.heap.size := ⟨_, rfl⟩
  have Hb62 : Hid (BX w2 b6 0 0 false false false 0) := by rw [hb6]; exact ((BX.made w1 0 0 false false false 0).kp (Kp.refl _)).kp K
  (try rw [← hb6])
  clear K hb6 HK1 s2
  have Bb6 : BX (w2.alloc (.cells #[.int .i64 0, .int .u64 0, .bool false, .bool false, .bool false, .int .i64 0] 26)) b6 0 0 false false false 0 := Hb62.out.kp ((Kp.refl _).alloc _)
  have x0 := Bb6.c0
  have x1 := Bb6.c1
  have x2 := Bb6.c2
  have x3 := Bb6.c3
  have x4 := Bb6.c4
  have x5 := Bb6.c5
  clear Bb6
  go_wp2_with fail
  clear x0 x1 x2 x3 x4 x5
  go_quiet (fail)
  obtain ⟨w3, hw3⟩ : ∃ v, v = (w2.alloc (.cells #[.int .i64 0, .int .u64 0, .bool false, .bool false, .bool false, .int .i64 0] 26)).drewN nq := ⟨_, rfl⟩
  have HK3 : Hid (Kp w w3) := by rw [hw3]; exact ((HK2.out.alloc _).drewN nq)
  have Hb63 : Hid (BX w3 b6 0 0 false false false 0) := by rw [hw3]; exact Hb62.out.kp (((Kp.refl _).alloc _).drewN nq)
  obtain ⟨b8, hb8⟩ : ∃ b8, b8 = w2.heap.size := ⟨_, rfl⟩
  have Hb83 : Hid (BX w3 b8 0 0 false false false 0) := by rw [hb8, hw3]; exact (BX.made w2 0 0 false false false 0).kp ((Kp.refl _).drewN nq)
  rw [← hw3]
  (try rw [← hb8])
  clear hw3 hb8 HK2 Hb62
  go_wp2_with fail
  with_reducible refine (s3.out _).mono ?_
  rintro e w4 ⟨rfl, K⟩
  have HK4 : Hid (Kp w w4) := HK3.out.trans K
  have Hb64 : Hid (BX w4 b6 0 0 false false false 0) := Hb63.out.kp K
  have Hb84 : Hid (BX w4 b8 0 0 false false false 0) := Hb83.out.kp K
  clear K HK3 Hb63 Hb83 s3
  go_wp2_with fail
  with_reducible refine (s4.out _).mono ?_
  rintro e w5 ⟨rfl, K⟩
  have HK5 : Hid (Kp w w5) := (HK4.out.alloc _).trans K
  have Hb65 : Hid (BX w5 b6 0 0 false false false 0) := (Hb64.out.kp ((Kp.refl _).alloc _)).kp K
  have Hb85 : Hid (BX w5 b8 0 0 false false false 0) := (Hb84.out.kp ((Kp.refl _).alloc _)).kp K
  obtain ⟨b10, hb10⟩ : ∃ b10, b10 = w4.heap.size := ⟨_, rfl⟩
  have Hb105 : Hid (BX w5 b10 0 0 false false false 0) := by rw [hb10]; exact ((BX.made w4 0 0 false false false 0).kp (Kp.refl _)).kp K
  (try rw [← hb10])
  clear K hb10 HK4 Hb64 Hb84 s4
  have y0 := Hb105.out.c0
  have y1 := Hb105.out.c1
  have y2 := Hb105.out.c2
  have y3 := Hb105.out.c3
  have y4 := Hb105.out.c4
  have y5 := Hb105.out.c5
  go_wp2_with fail
  go_ret
  exact ⟨rfl, HK5.out⟩

set_option maxHeartbeats 8000000 in
set_option maxRecDepth 10000 in
theorem stages_c11 (level : Int) (u m U V : Nat)  (w : World) (p1 : bits .and .i64 level 3 = (m : Int)) (p2 : bits .or .u64 (u : Int) 1 = (U : Int)) (p3 : bits .andNot .u64 (u : Int) 1 = (V : Int))
    (s1 : Aside (∀ w, Calls Try.prog 16 #[.int .i64 1, .int .i64 (m : Int), .int .u64 (U : Int)] w fun e w' => e = .returned (.tuple #[.agg #[.int .i64 0, .int .u64 0, .bool false, .bool false, .bool false, .int .i64 0], .int .i64 4]) ∧ Kp w w'))
    (s2 : Aside (∀ w, Calls Try.prog 16 #[.int .i64 2, .int .i64 (m : Int), .int .u64 (U : Int)] w fun e w' => e = .returned (.tuple #[.agg #[.int .i64 0, .int .u64 0, .bool false, .bool false, .bool false, .int .i64 0], .int .i64 4]) ∧ Kp w w'))
    (s3 : Aside (∀ w, Calls Try.prog 16 #[.int .i64 1, .int .i64 (m : Int), .int .u64 (V : Int)] w fun e w' => e = .returned (.tuple #[.agg #[.int .i64 0, .int .u64 0, .bool false, .bool false, .bool false, .int .i64 0], .int .i64 0]) ∧ Kp w w')) :
    Calls Try.prog 7 #[.int .i64 level, .int .u64 (u : Int)] w fun e w' => e = .returned (.bool true) ∧ Kp w w' := by
  have s4 : Aside (∀ w, Calls Try.prog 11 #[] w fun e w' => e = .returned (.bool true) ∧ Kp w w') := fun w => dtold_any w
  have hq := eq_like 0 0 false false false 0
  have hz := eq_like 0 0 false false false 0
  go_enter Try.func7, Try.ntmps7
  go_wp2_with fail
  with_reducible refine (s1.out _).mono ?_
  rintro e w1 ⟨rfl, K⟩
  have HK1 : Hid (Kp w w1) := (Kp.refl w).trans K
  clear K s1
  go_wp2_with fail
  with_reducible refine (s2.out _).mono ?_
  rintro e w2 ⟨rfl, K⟩
  have HK2 : Hid (Kp w w2) := (HK1.out.alloc _).trans K
  obtain ⟨b6, hb6⟩ : ∃ b6, b6 = w1.heap.size := ⟨_, rfl⟩
  have Hb62 : Hid (BX w2 b6 0 0 false false false 0) := by rw [hb6]; exact ((BX.made w1 0 0 false false false 0).kp (Kp.refl _)).kp K
  (try rw [← hb6])
  clear K hb6 HK1 s2
  have Bb6 : BX (w2.alloc (.cells #[.int .i64 0, .int .u64 0, .bool false, .bool false, .bool false, .int .i64 0] 26)) b6 0 0 false false false 0 := Hb62.out.kp ((Kp.refl _).alloc _)
  have x0 := Bb6.c0
  have x1 := Bb6.c1
  have x2 := Bb6.c2
  have x3 := Bb6.c3
  have x4 := Bb6.c4
  have x5 := Bb6.c5
  clear Bb6
  go_wp2_with fail
  clear x0 x1 x2 x3 x4 x5
  go_quiet (fail)
  obtain ⟨w3, hw3⟩ : ∃ v, v = (w2.alloc (.cells #[.int .i64 0, .int .u64 0, .bool false, .bool false, .bool false, .int .i64 0] 26)).drewN nq := ⟨_, rfl⟩
  have HK3 : Hid (Kp w w3) := by rw [hw3]; exact ((HK2.out.alloc _).drewN nq)
  have Hb63 : Hid (BX w3 b6 0 0 false false false 0) := by rw [hw3]; exact Hb62.out.kp (((Kp.refl _).alloc _).drewN nq)
  obtain ⟨b8, hb8⟩ : ∃ b8, b8 = w2.heap.size := ⟨_, rfl⟩
  have Hb83 : Hid (BX w3 b8 0 0 false false false 0) := by rw [hb8, hw3]; exact (BX.made w2 0 0 false false false 0).kp ((Kp.refl _).drewN nq)
  rw [← hw3]
  (try rw [← hb8])
  clear hw3 hb8 HK2 Hb62
  go_wp2_with fail
  with_reducible refine (s3.out _).mono ?_
  rintro e w4 ⟨rfl, K⟩
  have HK4 : Hid (Kp w w4) := HK3.out.trans K
  have Hb64 : Hid (BX w4 b6 0 0 false false false 0) := Hb63.out.kp K
  have Hb84 : Hid (BX w4 b8 0 0 false false false 0) := Hb83.out.kp K
  clear K HK3 Hb63 Hb83 s3
  go_wp2_with fail
  with_reducible refine (s4.out _).mono ?_
  rintro e w5 ⟨rfl, K⟩
  have HK5 : Hid (Kp w w5) := (HK4.out.alloc _).trans K
  have Hb65 : Hid (BX w5 b6 0 0 false false false 0) := (Hb64.out.kp ((Kp.refl _).alloc _)).kp K
  have Hb85 : Hid (BX w5 b8 0 0 false false false 0) := (Hb84.out.kp ((Kp.refl _).alloc _)).kp K
  obtain ⟨b10, hb10⟩ : ∃ b10, b10 = w4.heap.size := ⟨_, rfl⟩
  have Hb105 : Hid (BX w5 b10 0 0 false false false 0) := by rw [hb10]; exact ((BX.made w4 0 0 false false false 0).kp (Kp.refl _)).kp K
  (try rw [← hb10])
  clear K hb10 HK4 Hb64 Hb84 s4
  have y0 := Hb105.out.c0
  have y1 := Hb105.out.c1
  have y2 := Hb105.out.c2
  have y3 := Hb105.out.c3
  have y4 := Hb105.out.c4
  have y5 := Hb105.out.c5
  go_wp2_with fail
  go_ret
  exact ⟨rfl, HK5.out⟩

theorem stages_any (level : Int) (u : Nat) (w : World) (hu : u < 18446744073709551616) :
    Calls Try.prog 7 #[.int .i64 level, .int .u64 (u : Int)] w fun e w' => e = .returned (.bool true) ∧ Kp w w' := by
  obtain ⟨m, p1, hm⟩ := and_lim level 3 (by decide)
  have p2 : bits .or .u64 (u : Int) 1 = ((u ||| 1 : Nat) : Int) := u64_or_nat u 1 hu (by decide)
  have p3 : bits .andNot .u64 (u : Int) 1 = ((u &&& 18446744073709551614 : Nat) : Int) := u64_andNot_nat u 1 hu (by decide)
  have hU := or_one_lt u hu
  have h0 := or_one u
  have n0 := not_one u
  have hV : u &&& 18446744073709551614 < 18446744073709551616 := Nat.lt_of_le_of_lt Nat.and_le_left hu
  generalize u ||| 1 = U at *
  generalize u &&& 18446744073709551614 = V at *
  have l1 : (0 : Int) ≤ (m : Int) := by omega
  have l2 : (m : Int) ≤ 3 := by omega
  have q1 : isPl 1 m = true := isPl_iff.2 ⟨by decide, by decide, l1, l2⟩
  have q2 : isPl 2 m = true := isPl_iff.2 ⟨by decide, by decide, l1, l2⟩
  have d1 := fun w => decode_any 1 m U w hU
  have d2 := fun w => decode_any 2 m U w hU
  have d3 := fun w => decode_any 1 m V w hV
  rw [(dec_not 1 m V q1 n0).1, (dec_not 1 m V q1 n0).2] at d3
  simp only [cond_false] at d3
  have st := dec_stages m U l1 l2 h0
  have v1 := dec_vals 1 m U q1 h0
  have v2 := dec_vals 2 m U q2 h0
  have c4 := top_any 2
  generalize topS 2 = tp at *
  cases g2 : decG 2 m U
  · rw [g2] at v2 d2
    simp only [cond_false] at d2
    have e2 : decE 2 m U = 2 ∨ decE 2 m U = 4 := by simpa using v2
    cases g1 : decG 1 m U
    · rw [g1] at v1 d1
      simp only [cond_false] at d1
      have e1 : decE 1 m U = 2 ∨ decE 1 m U = 4 := by simpa using v1
      rcases e1 with e1 | e1 <;> rcases e2 with e2 | e2 <;> rw [e1] at d1 <;> rw [e2] at d2
      · exact stages_c00 level u m U V w p1 p2 p3 d1 d2 d3
      · exact stages_c01 level u m U V w p1 p2 p3 d1 d2 d3
      · exact stages_c10 level u m U V w p1 p2 p3 d1 d2 d3
      · exact stages_c11 level u m U V w p1 p2 p3 d1 d2 d3
    · have b := st.2 g1 g2
      rw [b.1] at d2
      rw [g1, (dec_good 1 m U g1).1] at d1
      simp only [cond_true] at d1
      exact stages_b level u m U V _ _ _ _ _ _ tp w p1 p2 p3 d1 d2 d3 (by omega) c4
  · have g1 := st.1 g2
    rw [g1, (dec_good 1 m U g1).1] at d1
    rw [g2, (dec_good 2 m U g2).1] at d2
    simp only [cond_true] at d1 d2
    exact stages_a level u m U V _ _ _ _ _ _ w p1 p2 p3 d1 d2 d3

theorem stages_law (level u : Int) (hu : (Lit.int .u64 u).wf = true) (w : World) :
    Calls Try.prog 7 #[.int .i64 level, .int .u64 u] w fun e w' => e = .returned (.bool true) ∧ Kp w w' := by
  have b := wf_word hu
  obtain ⟨n, rfl⟩ : ∃ n : Nat, u = n := ⟨u.toNat, by omega⟩
  exact stages_any level n w (by omega)

end Go.Proofs.Ytggmldickiehbaa
