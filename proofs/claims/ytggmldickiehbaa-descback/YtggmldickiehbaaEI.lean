/- DescBack: the walks. -/
import Derived.Test.YtggmldickiehbaaEE
import Derived.Test.YtggmldickiehbaaEF
import Derived.Test.YtggmldickiehbaaEG
namespace Go.Proofs.Ytggmldickiehbaa
open Go.RowKit

set_option maxHeartbeats 8000000 in
set_option maxRecDepth 10000 in
theorem back_a (stage level : Int) (k : Int) (a : Nat) (r q x : Bool) (f : Int) (u m1 l U X : Nat) (s zz : Int) (B : Bool) (k' : Int) (a' : Nat) (r' q' x' : Bool) (f' : Int) (k2 : Int) (a2 : Nat) (r2 q2 x2 : Bool) (f2 : Nat) (w : World)
    (p1 : bits .and .i64 stage 1 = (m1 : Int)) (i1 : (m1 : Int) ≤ 1) (hs : 1 + (m1 : Int) = s) (p2 : bits .and .i64 level 3 = (l : Int)) (p3 : bits .or .u64 (u : Int) 1 = (U : Int)) (p4 : bits .and .u64 (X : Int) 1 = zz) (q4 : (zz == 1) = B) (q5 : (k' != 0) = B)
    (s1 : Aside (∀ w, Calls Try.prog 8 #[.int .i64 s, .int .i64 (l : Int), .agg #[.int .i64 k, .int .u64 (a : Int), .bool r, .bool q, .bool x, .int .i64 f]] w fun e w' => e = .returned (.agg #[.int .i64 k', .int .u64 (a' : Int), .bool r', .bool q', .bool x', .int .i64 f']) ∧ Kp w w'))
    (s2 : Aside (∀ w, Calls Try.prog 9 #[.int .i64 s, .int .i64 (l : Int), .agg #[.int .i64 k', .int .u64 (a' : Int), .bool r', .bool q', .bool x', .int .i64 f']] w fun e w' => e = .returned (.tuple #[.int .u64 (X : Int), .int .i64 0]) ∧ Kp w w'))
    (s3 : Aside (∀ w, Calls Try.prog 16 #[.int .i64 s, .int .i64 (l : Int), .int .u64 (X : Int)] w fun e w' => e = .returned (.tuple #[.agg #[.int .i64 k', .int .u64 (a' : Int), .bool r', .bool q', .bool x', .int .i64 f'], .int .i64 0]) ∧ Kp w w'))
    (s4 : Aside (∀ w, Calls Try.prog 16 #[.int .i64 s, .int .i64 (l : Int), .int .u64 (U : Int)] w fun e w' => e = .returned (.tuple #[.agg #[.int .i64 k2, .int .u64 (a2 : Int), .bool r2, .bool q2, .bool x2, .int .i64 (f2 : Int)], .int .i64 0]) ∧ Kp w w'))
    (s5 : Aside (∀ w, Calls Try.prog 9 #[.int .i64 s, .int .i64 (l : Int), .agg #[.int .i64 k2, .int .u64 (a2 : Int), .bool r2, .bool q2, .bool x2, .int .i64 (f2 : Int)]] w fun e w' => e = .returned (.tuple #[.int .u64 (U : Int), .int .i64 0]) ∧ Kp w w'))
    (s6 : Aside (∀ w, Calls Try.prog 12 #[.int .i64 s, .int .i64 (l : Int), .agg #[.int .i64 k2, .int .u64 (a2 : Int), .bool r2, .bool q2, .bool x2, .int .i64 (f2 : Int)]] w fun e w' => e = .returned (.int .i64 0) ∧ Kp w w')) :
    Calls Try.prog 5 #[.int .i64 stage, .int .i64 level, .agg #[.int .i64 k, .int .u64 (a : Int), .bool r, .bool q, .bool x, .int .i64 f], .int .u64 (u : Int)] w fun e w' => e = .returned (.bool true) ∧ Kp w w' := by
  have st : Aside (∀ w, Calls Try.prog 11 #[] w fun e w' => e = .returned (.bool true) ∧ Kp w w') := fun w => dtold_any w
  have hq := eq_like k' a' r' q' x' f'
  have hz := eq_like 0 0 false false false 0
  go_enter Try.func5, Try.ntmps5
  go_wp2_with fail
  with_reducible refine (s1.out _).mono ?_
  rintro e w1 ⟨rfl, K⟩
  have HK1 : Hid (Kp w w1) := ((Kp.refl w).alloc _).trans K
  obtain ⟨b6, hb6⟩ : ∃ b6, b6 = w.heap.size := ⟨_, rfl⟩
  have Hb61 : Hid (BX w1 b6 k (a : Int) r q x f) := by rw [hb6]; exact ((BX.made w k (a : Int) r q x f).kp (Kp.refl _)).kp K
  (try rw [← hb6])
  clear K hb6 s1
  go_wp2_with fail
  with_reducible refine (s2.out _).mono ?_
  rintro e w2 ⟨rfl, K⟩
  have HK2 : Hid (Kp w w2) := (HK1.out.alloc _).trans K
  have Hb62 : Hid (BX w2 b6 k (a : Int) r q x f) := (Hb61.out.kp ((Kp.refl _).alloc _)).kp K
  obtain ⟨b11, hb11⟩ : ∃ b11, b11 = w1.heap.size := ⟨_, rfl⟩
  have Hb112 : Hid (BX w2 b11 k' (a' : Int) r' q' x' f') := by rw [hb11]; exact ((BX.made w1 k' (a' : Int) r' q' x' f').kp (Kp.refl _)).kp K
  (try rw [← hb11])
  clear K hb11 HK1 Hb61 s2
  go_wp2_with fail
  with_reducible refine (s3.out _).mono ?_
  rintro e w3 ⟨rfl, K⟩
  have HK3 : Hid (Kp w w3) := HK2.out.trans K
  have Hb63 : Hid (BX w3 b6 k (a : Int) r q x f) := Hb62.out.kp K
  have Hb113 : Hid (BX w3 b11 k' (a' : Int) r' q' x' f') := Hb112.out.kp K
  clear K HK2 Hb62 Hb112 s3
  have Bb11 : BX (w3.alloc (.cells #[.int .i64 k', .int .u64 (a' : Int), .bool r', .bool q', .bool x', .int .i64 f'] 26)) b11 k' (a' : Int) r' q' x' f' := Hb113.out.kp ((Kp.refl _).alloc _)
  have x0 := Bb11.c0
  have x1 := Bb11.c1
  have x2 := Bb11.c2
  have x3 := Bb11.c3
  have x4 := Bb11.c4
  have x5 := Bb11.c5
  clear Bb11
  go_wp2_with fail
  with_reducible refine (s4.out _).mono ?_
  rintro e w4 ⟨rfl, K⟩
  have HK4 : Hid (Kp w w4) := (HK3.out.alloc _).trans K
  have Hb64 : Hid (BX w4 b6 k (a : Int) r q x f) := (Hb63.out.kp ((Kp.refl _).alloc _)).kp K
  have Hb114 : Hid (BX w4 b11 k' (a' : Int) r' q' x' f') := (Hb113.out.kp ((Kp.refl _).alloc _)).kp K
  obtain ⟨b14, hb14⟩ : ∃ b14, b14 = w3.heap.size := ⟨_, rfl⟩
  have Hb144 : Hid (BX w4 b14 k' (a' : Int) r' q' x' f') := by rw [hb14]; exact ((BX.made w3 k' (a' : Int) r' q' x' f').kp (Kp.refl _)).kp K
  (try rw [← hb14])
  clear K hb14 HK3 Hb63 Hb113 s4 x0 x1 x2 x3 x4 x5
  go_wp2_with fail
  with_reducible refine (s5.out _).mono ?_
  rintro e w5 ⟨rfl, K⟩
  have HK5 : Hid (Kp w w5) := (HK4.out.alloc _).trans K
  have Hb65 : Hid (BX w5 b6 k (a : Int) r q x f) := (Hb64.out.kp ((Kp.refl _).alloc _)).kp K
  have Hb115 : Hid (BX w5 b11 k' (a' : Int) r' q' x' f') := (Hb114.out.kp ((Kp.refl _).alloc _)).kp K
  have Hb145 : Hid (BX w5 b14 k' (a' : Int) r' q' x' f') := (Hb144.out.kp ((Kp.refl _).alloc _)).kp K
  obtain ⟨b16, hb16⟩ : ∃ b16, b16 = w4.heap.size := ⟨_, rfl⟩
  have Hb165 : Hid (BX w5 b16 k2 (a2 : Int) r2 q2 x2 (f2 : Int)) := by rw [hb16]; exact ((BX.made w4 k2 (a2 : Int) r2 q2 x2 (f2 : Int)).kp (Kp.refl _)).kp K
  (try rw [← hb16])
  clear K hb16 HK4 Hb64 Hb114 Hb144 s5
  go_wp2_with fail
  with_reducible refine (st.out _).mono ?_
  rintro e w6 ⟨rfl, K⟩
  have HK6 : Hid (Kp w w6) := HK5.out.trans K
  have Hb66 : Hid (BX w6 b6 k (a : Int) r q x f) := Hb65.out.kp K
  have Hb116 : Hid (BX w6 b11 k' (a' : Int) r' q' x' f') := Hb115.out.kp K
  have Hb146 : Hid (BX w6 b14 k' (a' : Int) r' q' x' f') := Hb145.out.kp K
  have Hb166 : Hid (BX w6 b16 k2 (a2 : Int) r2 q2 x2 (f2 : Int)) := Hb165.out.kp K
  clear K HK5 Hb65 Hb115 Hb145 Hb165 st
  have y0 := Hb166.out.c0
  have y1 := Hb166.out.c1
  have y2 := Hb166.out.c2
  have y3 := Hb166.out.c3
  have y4 := Hb166.out.c4
  have y5 := Hb166.out.c5
  go_wp2_with fail
  with_reducible refine (s6.out _).mono ?_
  rintro e w7 ⟨rfl, K⟩
  have HK7 : Hid (Kp w w7) := HK6.out.trans K
  have Hb67 : Hid (BX w7 b6 k (a : Int) r q x f) := Hb66.out.kp K
  have Hb117 : Hid (BX w7 b11 k' (a' : Int) r' q' x' f') := Hb116.out.kp K
  have Hb147 : Hid (BX w7 b14 k' (a' : Int) r' q' x' f') := Hb146.out.kp K
  have Hb167 : Hid (BX w7 b16 k2 (a2 : Int) r2 q2 x2 (f2 : Int)) := Hb166.out.kp K
  clear K HK6 Hb66 Hb116 Hb146 Hb166 s6 y0 y1 y2 y3 y4 y5
  go_wp2_with fail
  go_ret
  exact ⟨rfl, HK7.out⟩

set_option maxHeartbeats 8000000 in
set_option maxRecDepth 10000 in
theorem back_b (stage level : Int) (k : Int) (a : Nat) (r q x : Bool) (f : Int) (u m1 l U X : Nat) (s zz : Int) (B : Bool) (k' : Int) (a' : Nat) (r' q' x' : Bool) (f' : Int)  (w : World)
    (p1 : bits .and .i64 stage 1 = (m1 : Int)) (i1 : (m1 : Int) ≤ 1) (hs : 1 + (m1 : Int) = s) (p2 : bits .and .i64 level 3 = (l : Int)) (p3 : bits .or .u64 (u : Int) 1 = (U : Int)) (p4 : bits .and .u64 (X : Int) 1 = zz) (q4 : (zz == 1) = B) (q5 : (k' != 0) = B)
    (s1 : Aside (∀ w, Calls Try.prog 8 #[.int .i64 s, .int .i64 (l : Int), .agg #[.int .i64 k, .int .u64 (a : Int), .bool r, .bool q, .bool x, .int .i64 f]] w fun e w' => e = .returned (.agg #[.int .i64 k', .int .u64 (a' : Int), .bool r', .bool q', .bool x', .int .i64 f']) ∧ Kp w w'))
    (s2 : Aside (∀ w, Calls Try.prog 9 #[.int .i64 s, .int .i64 (l : Int), .agg #[.int .i64 k', .int .u64 (a' : Int), .bool r', .bool q', .bool x', .int .i64 f']] w fun e w' => e = .returned (.tuple #[.int .u64 (X : Int), .int .i64 0]) ∧ Kp w w'))
    (s3 : Aside (∀ w, Calls Try.prog 16 #[.int .i64 s, .int .i64 (l : Int), .int .u64 (X : Int)] w fun e w' => e = .returned (.tuple #[.agg #[.int .i64 k', .int .u64 (a' : Int), .bool r', .bool q', .bool x', .int .i64 f'], .int .i64 0]) ∧ Kp w w'))
    (s4 : Aside (∀ w, Calls Try.prog 16 #[.int .i64 s, .int .i64 (l : Int), .int .u64 (U : Int)] w fun e w' => e = .returned (.tuple #[.agg #[.int .i64 0, .int .u64 0, .bool false, .bool false, .bool false, .int .i64 0], .int .i64 2]) ∧ Kp w w')) :
    Calls Try.prog 5 #[.int .i64 stage, .int .i64 level, .agg #[.int .i64 k, .int .u64 (a : Int), .bool r, .bool q, .bool x, .int .i64 f], .int .u64 (u : Int)] w fun e w' => e = .returned (.bool true) ∧ Kp w w' := by
  have st : Aside (∀ w, Calls Try.prog 11 #[] w fun e w' => e = .returned (.bool true) ∧ Kp w w') := fun w => dtold_any w
  have hq := eq_like k' a' r' q' x' f'
  have hz := eq_like 0 0 false false false 0
  go_enter Try.func5, Try.ntmps5
  go_wp2_with fail
  with_reducible refine (s1.out _).mono ?_
  rintro e w1 ⟨rfl, K⟩
  have HK1 : Hid (Kp w w1) := ((Kp.refl w).alloc _).trans K
  obtain ⟨b6, hb6⟩ : ∃ b6, b6 = w.heap.size := ⟨_, rfl⟩
  have Hb61 : Hid (BX w1 b6 k (a : Int) r q x f) := by rw [hb6]; exact ((BX.made w k (a : Int) r q x f).kp (Kp.refl _)).kp K
  (try rw [← hb6])
  clear K hb6 s1
  go_wp2_with fail
  with_reducible refine (s2.out _).mono ?_
  rintro e w2 ⟨rfl, K⟩
  have HK2 : Hid (Kp w w2) := (HK1.out.alloc _).trans K
  have Hb62 : Hid (BX w2 b6 k (a : Int) r q x f) := (Hb61.out.kp ((Kp.refl _).alloc _)).kp K
  obtain ⟨b11, hb11⟩ : ∃ b11, b11 = w1.heap.size := ⟨_, rfl⟩
  have Hb112 : Hid (BX w2 b11 k' (a' : Int) r' q' x' f') := by rw [hb11]; exact ((BX.made w1 k' (a' : Int) r' q' x' f').kp (Kp.refl _)).kp K
  (try rw [← hb11])
  clear K hb11 HK1 Hb61 s2
  go_wp2_with fail
  with_reducible refine (s3.out _).mono ?_
  rintro e w3 ⟨rfl, K⟩
  have HK3 : Hid (Kp w w3) := HK2.out.trans K
  have Hb63 : Hid (BX w3 b6 k (a : Int) r q x f) := Hb62.out.kp K
  have Hb113 : Hid (BX w3 b11 k' (a' : Int) r' q' x' f') := Hb112.out.kp K
  clear K HK2 Hb62 Hb112 s3
  have Bb11 : BX (w3.alloc (.cells #[.int .i64 k', .int .u64 (a' : Int), .bool r', .bool q', .bool x', .int .i64 f'] 26)) b11 k' (a' : Int) r' q' x' f' := Hb113.out.kp ((Kp.refl _).alloc _)
  have x0 := Bb11.c0
  have x1 := Bb11.c1
  have x2 := Bb11.c2
  have x3 := Bb11.c3
  have x4 := Bb11.c4
  have x5 := Bb11.c5
  clear Bb11
  go_wp2_with fail
  with_reducible refine (s4.out _).mono ?_
  rintro e w4 ⟨rfl, K⟩
  have HK4 : Hid (Kp w w4) := (HK3.out.alloc _).trans K
  have Hb64 : Hid (BX w4 b6 k (a : Int) r q x f) := (Hb63.out.kp ((Kp.refl _).alloc _)).kp K
  have Hb114 : Hid (BX w4 b11 k' (a' : Int) r' q' x' f') := (Hb113.out.kp ((Kp.refl _).alloc _)).kp K
  obtain ⟨b14, hb14⟩ : ∃ b14, b14 = w3.heap.size := ⟨_, rfl⟩
  have Hb144 : Hid (BX w4 b14 k' (a' : Int) r' q' x' f') := by rw [hb14]; exact ((BX.made w3 k' (a' : Int) r' q' x' f').kp (Kp.refl _)).kp K
  (try rw [← hb14])
  clear K hb14 HK3 Hb63 Hb113 s4 x0 x1 x2 x3 x4 x5
  go_wp2_with fail
  with_reducible refine (st.out _).mono ?_
  rintro e w5 ⟨rfl, K⟩
  have HK5 : Hid (Kp w w5) := (HK4.out.alloc _).trans K
  have Hb65 : Hid (BX w5 b6 k (a : Int) r q x f) := (Hb64.out.kp ((Kp.refl _).alloc _)).kp K
  have Hb115 : Hid (BX w5 b11 k' (a' : Int) r' q' x' f') := (Hb114.out.kp ((Kp.refl _).alloc _)).kp K
  have Hb145 : Hid (BX w5 b14 k' (a' : Int) r' q' x' f') := (Hb144.out.kp ((Kp.refl _).alloc _)).kp K
  obtain ⟨b16, hb16⟩ : ∃ b16, b16 = w4.heap.size := ⟨_, rfl⟩
  have Hb165 : Hid (BX w5 b16 0 0 false false false 0) := by rw [hb16]; exact ((BX.made w4 0 0 false false false 0).kp (Kp.refl _)).kp K
  (try rw [← hb16])
  clear K hb16 HK4 Hb64 Hb114 Hb144 st
  have y0 := Hb165.out.c0
  have y1 := Hb165.out.c1
  have y2 := Hb165.out.c2
  have y3 := Hb165.out.c3
  have y4 := Hb165.out.c4
  have y5 := Hb165.out.c5
  go_wp2_with fail
  go_ret
  exact ⟨rfl, HK5.out⟩

set_option maxHeartbeats 8000000 in
set_option maxRecDepth 10000 in
theorem back_c (stage level : Int) (k : Int) (a : Nat) (r q x : Bool) (f : Int) (u m1 l U X : Nat) (s zz : Int) (B : Bool) (k' : Int) (a' : Nat) (r' q' x' : Bool) (f' : Int)  (w : World)
    (p1 : bits .and .i64 stage 1 = (m1 : Int)) (i1 : (m1 : Int) ≤ 1) (hs : 1 + (m1 : Int) = s) (p2 : bits .and .i64 level 3 = (l : Int)) (p3 : bits .or .u64 (u : Int) 1 = (U : Int)) (p4 : bits .and .u64 (X : Int) 1 = zz) (q4 : (zz == 1) = B) (q5 : (k' != 0) = B)
    (s1 : Aside (∀ w, Calls Try.prog 8 #[.int .i64 s, .int .i64 (l : Int), .agg #[.int .i64 k, .int .u64 (a : Int), .bool r, .bool q, .bool x, .int .i64 f]] w fun e w' => e = .returned (.agg #[.int .i64 k', .int .u64 (a' : Int), .bool r', .bool q', .bool x', .int .i64 f']) ∧ Kp w w'))
    (s2 : Aside (∀ w, Calls Try.prog 9 #[.int .i64 s, .int .i64 (l : Int), .agg #[.int .i64 k', .int .u64 (a' : Int), .bool r', .bool q', .bool x', .int .i64 f']] w fun e w' => e = .returned (.tuple #[.int .u64 (X : Int), .int .i64 0]) ∧ Kp w w'))
    (s3 : Aside (∀ w, Calls Try.prog 16 #[.int .i64 s, .int .i64 (l : Int), .int .u64 (X : Int)] w fun e w' => e = .returned (.tuple #[.agg #[.int .i64 k', .int .u64 (a' : Int), .bool r', .bool q', .bool x', .int .i64 f'], .int .i64 0]) ∧ Kp w w'))
    (s4 : Aside (∀ w, Calls Try.prog 16 #[.int .i64 s, .int .i64 (l : Int), .int .u64 (U : Int)] w fun e w' => e = .returned (.tuple #[.agg #[.int .i64 0, .int .u64 0, .bool false, .bool false, .bool false, .int .i64 0], .int .i64 4]) ∧ Kp w w')) :
    Calls Try.prog 5 #[.int .i64 stage, .int .i64 level, .agg #[.int .i64 k, .int .u64 (a : Int), .bool r, .bool q, .bool x, .int .i64 f], .int .u64 (u : Int)] w fun e w' => e = .returned (.bool true) ∧ Kp w w' := by
  have st : Aside (∀ w, Calls Try.prog 11 #[] w fun e w' => e = .returned (.bool true) ∧ Kp w w') := fun w => dtold_any w
  have hq := eq_like k' a' r' q' x' f'
  have hz := eq_like 0 0 false false false 0
  go_enter Try.func5, Try.ntmps5
  go_wp2_with fail
  with_reducible refine (s1.out _).mono ?_
  rintro e w1 ⟨rfl, K⟩
  have HK1 : Hid (Kp w w1) := ((Kp.refl w).alloc _).trans K
  obtain ⟨b6, hb6⟩ : ∃ b6, b6 = w.heap.size := ⟨_, rfl⟩
  have Hb61 : Hid (BX w1 b6 k (a : Int) r q x f) := by rw [hb6]; exact ((BX.made w k (a : Int) r q x f).kp (Kp.refl _)).kp K
  (try rw [← hb6])
  clear K hb6 s1
  go_wp2_with fail
  with_reducible refine (s2.out _).mono ?_
  rintro e w2 ⟨rfl, K⟩
  have HK2 : Hid (Kp w w2) := (HK1.out.alloc _).trans K
  have Hb62 : Hid (BX w2 b6 k (a : Int) r q x f) := (Hb61.out.kp ((Kp.refl _).alloc _)).kp K
  obtain ⟨b11, hb11⟩ : ∃ b11, b11 = w1.heap.size := ⟨_, rfl⟩
  have Hb112 : Hid (BX w2 b11 k' (a' : Int) r' q' x' f') := by rw [hb11]; exact ((BX.made w1 k' (a' : Int) r' q' x' f').kp (Kp.refl _)).kp K
  (try rw [← hb11])
  clear K hb11 HK1 Hb61 s2
  go_wp2_with fail
  with_reducible refine (s3.out _).mono ?_
  rintro e w3 ⟨rfl, K⟩
  have HK3 : Hid (Kp w w3) := HK2.out.trans K
  have Hb63 : Hid (BX w3 b6 k (a : Int) r q x f) := Hb62.out.kp K
  have Hb113 : Hid (BX w3 b11 k' (a' : Int) r' q' x' f') := Hb112.out.kp K
  clear K HK2 Hb62 Hb112 s3
  have Bb11 : BX (w3.alloc (.cells #[.int .i64 k', .int .u64 (a' : Int), .bool r', .bool q', .bool x', .int .i64 f'] 26)) b11 k' (a' : Int) r' q' x' f' := Hb113.out.kp ((Kp.refl _).alloc _)
  have x0 := Bb11.c0
  have x1 := Bb11.c1
  have x2 := Bb11.c2
  have x3 := Bb11.c3
  have x4 := Bb11.c4
  have x5 := Bb11.c5
  clear Bb11
  go_wp2_with fail
  with_reducible refine (s4.out _).mono ?_
  rintro e w4 ⟨rfl, K⟩
  have HK4 : Hid (Kp w w4) := (HK3.out.alloc _).trans K
  have Hb64 : Hid (BX w4 b6 k (a : Int) r q x f) := (Hb63.out.kp ((Kp.refl _).alloc _)).kp K
  have Hb114 : Hid (BX w4 b11 k' (a' : Int) r' q' x' f') := (Hb113.out.kp ((Kp.refl _).alloc _)).kp K
  obtain ⟨b14, hb14⟩ : ∃ b14, b14 = w3.heap.size := ⟨_, rfl⟩
  have Hb144 : Hid (BX w4 b14 k' (a' : Int) r' q' x' f') := by rw [hb14]; exact ((BX.made w3 k' (a' : Int) r' q' x' f').kp (Kp.refl _)).kp K
  (try rw [← hb14])
  clear K hb14 HK3 Hb63 Hb113 s4 x0 x1 x2 x3 x4 x5
  go_wp2_with fail
  with_reducible refine (st.out _).mono ?_
  rintro e w5 ⟨rfl, K⟩
  have HK5 : Hid (Kp w w5) := (HK4.out.alloc _).trans K
  have Hb65 : Hid (BX w5 b6 k (a : Int) r q x f) := (Hb64.out.kp ((Kp.refl _).alloc _)).kp K
  have Hb115 : Hid (BX w5 b11 k' (a' : Int) r' q' x' f') := (Hb114.out.kp ((Kp.refl _).alloc _)).kp K
  have Hb145 : Hid (BX w5 b14 k' (a' : Int) r' q' x' f') := (Hb144.out.kp ((Kp.refl _).alloc _)).kp K
  obtain ⟨b16, hb16⟩ : ∃ b16, b16 = w4.heap.size := ⟨_, rfl⟩
  have Hb165 : Hid (BX w5 b16 0 0 false false false 0) := by rw [hb16]; exact ((BX.made w4 0 0 false false false 0).kp (Kp.refl _)).kp K
  (try rw [← hb16])
  clear K hb16 HK4 Hb64 Hb114 Hb144 st
  have y0 := Hb165.out.c0
  have y1 := Hb165.out.c1
  have y2 := Hb165.out.c2
  have y3 := Hb165.out.c3
  have y4 := Hb165.out.c4
  have y5 := Hb165.out.c5
  go_wp2_with fail
  go_ret
  exact ⟨rfl, HK5.out⟩

theorem back_any (stage level : Int) (k : Int) (a : Nat) (r q x : Bool) (f : Int) (u : Nat) (w : World) (ha : a < 18446744073709551616) (hu : u < 18446744073709551616) :
    Calls Try.prog 5 #[.int .i64 stage, .int .i64 level, .agg #[.int .i64 k, .int .u64 (a : Int), .bool r, .bool q, .bool x, .int .i64 f], .int .u64 (u : Int)] w fun e w' => e = .returned (.bool true) ∧ Kp w w' := by
  obtain ⟨m1, p1, hm1⟩ := and_lim stage 1 (by decide)
  obtain ⟨l, p2, hl⟩ := and_lim level 3 (by decide)
  have p3 : bits .or .u64 (u : Int) 1 = ((u ||| 1 : Nat) : Int) := u64_or_nat u 1 hu (by decide)
  have hU := or_one_lt u hu
  have h0 := or_one u
  generalize u ||| 1 = U at *
  obtain ⟨s, hs⟩ : ∃ s, 1 + (m1 : Int) = s := ⟨_, rfl⟩
  have hp : isPl s l = true := isPl_iff.2 ⟨by omega, by omega, by omega, by omega⟩
  obtain ⟨k', a', r', q', x', f', hc, s1⟩ := near_any s l k a r q x f hp ha
  obtain ⟨X, e1, e2, e3, e4, g1, g2, g3, g4, g5, g6⟩ := dec_back hc
  have p4 := ask_0 X e2
  rw [e4] at p4
  have s2 := fun w => encode_any s l k' a' r' q' x' f' w
  have hw : dencN s l k' a' r' q' x' f' = X := by unfold dencN; rw [if_pos hc]; exact e1
  rw [hc, hw] at s2
  have s3 := fun w => decode_any s l X w e2
  rw [g1, g2, g3, g4, g5, g6, e3] at s3
  have s4 := fun w => decode_any s l U w hU
  rcases dec_vals s l U hp h0 with ⟨g, e⟩ | ⟨g, e⟩
  · have d := (dec_iff s l U hU hp h0).2 g
    rw [g, e] at s4
    simp only [cond_true] at s4
    have s5 := fun w => encode_any s l (kdN l U) (adN U) (btN U 6) (btN U 7) (btN U 8) (fieldN U 55 4 : Nat) w
    have d1 : dchk s l (kdN l U) (adN U) (btN U 6) (btN U 7) (btN U 8) (fieldN U 55 4 : Nat) = 0 := d.1
    have d2 : dencN s l (kdN l U) (adN U) (btN U 6) (btN U 7) (btN U 8) (fieldN U 55 4 : Nat) = U := d.2
    have s6 := fun w => dcheck_any s l (kdN l U) (adN U) (btN U 6) (btN U 7) (btN U 8) (fieldN U 55 4 : Nat) w
    rw [d1, d2] at s5
    rw [d1] at s6
    exact back_a stage level k a r q x f u m1 l U X s _ _ k' a' r' q' x' f' _ _ _ _ _ _ w p1 (by omega) hs p2 p3 p4 (one_eq _) rfl s1 s2 s3 s4 s5 s6
  · rw [g] at s4
    simp only [cond_false] at s4
    rcases e with e | e <;> rw [e] at s4
    · exact back_b stage level k a r q x f u m1 l U X s _ _ k' a' r' q' x' f' w p1 (by omega) hs p2 p3 p4 (one_eq _) rfl s1 s2 s3 s4
    · exact back_c stage level k a r q x f u m1 l U X s _ _ k' a' r' q' x' f' w p1 (by omega) hs p2 p3 p4 (one_eq _) rfl s1 s2 s3 s4
theorem back_law (stage level : Int) (k : Int) (a : Nat) (r q x : Bool) (f : Int) (u : Int) (ha : a < 18446744073709551616) (hu : (Lit.int .u64 u).wf = true) (w : World) :
    Calls Try.prog 5 #[.int .i64 stage, .int .i64 level, .agg #[.int .i64 k, .int .u64 (a : Int), .bool r, .bool q, .bool x, .int .i64 f], .int .u64 u] w fun e w' => e = .returned (.bool true) ∧ Kp w w' := by
  have b := wf_word hu
  obtain ⟨n, rfl⟩ : ∃ n : Nat, u = n := ⟨u.toNat, by omega⟩
  exact back_any stage level k a r q x f n w ha (by omega)

end Go.Proofs.Ytggmldickiehbaa
