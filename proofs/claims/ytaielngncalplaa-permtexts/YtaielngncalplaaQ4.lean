/- perm: what is told. -/
import Derived.Test.YtaielngncalplaaQ3
namespace Go.Proofs.Ytaielngncalplaa
open Go.RowKit

set_option maxHeartbeats 8000000 in
set_option maxRecDepth 10000 in
theorem ptold_any (w : World) :
    Calls Try.prog 8 #[] w fun e w' => e = .returned (.bool true) ∧ Kp w w' := by
  have s1 : Aside (∀ w, Calls Try.prog 14 #[.string ⟨#[114, 45, 120]⟩] w fun e w' => e = .returned (.tuple #[.agg #[.bool true, .bool false, .bool true], .int .i64 0]) ∧ Kp w w') := fun w => parse_txt true false true w
  have s2 : Aside (∀ w, Calls Try.prog 14 #[.string ⟨#[114, 45]⟩] w fun e w' => e = .returned (.tuple #[.agg #[.bool false, .bool false, .bool false], .int .i64 4]) ∧ Kp w w') := fun w => parse_len ⟨#[114, 45]⟩ w (by decide)
  have s3 : Aside (∀ w, Calls Try.prog 15 #[.agg #[.bool true, .bool true, .bool false]] w fun e w' => e = .returned (.string ⟨#[114, 119, 45]⟩) ∧ Kp w w') := fun w => ptext_any true true false w
  have s4 : Aside (∀ w, Calls Try.prog 12 #[.agg #[.bool true, .bool false, .bool false], .agg #[.bool true, .bool true, .bool false], .int .i64 2] w fun e w' => e = .returned (.int .i64 1) ∧ Kp w w') := fun w => pjudge_any true false false true true false 2 w
  have s5 : Aside (∀ w, Calls Try.prog 12 #[.agg #[.bool true, .bool true, .bool false], .agg #[.bool true, .bool false, .bool false], .int .i64 2] w fun e w' => e = .returned (.int .i64 2) ∧ Kp w w') := fun w => pjudge_any true true false true false false 2 w
  have s6 : Aside (∀ w, Calls Try.prog 12 #[.agg #[.bool true, .bool true, .bool false], .agg #[.bool true, .bool true, .bool false], .int .i64 2] w fun e w' => e = .returned (.int .i64 0) ∧ Kp w w') := fun w => pjudge_any true true false true true false 2 w
  have s7 : Aside (∀ w, Calls Try.prog 10 #[.agg #[.bool true, .bool true, .bool false], .int .i64 1] w fun e w' => e = .returned (.bool true) ∧ Kp w w') := fun w => pallows_any true true false 1 w
  have s8 : Aside (∀ w, Calls Try.prog 10 #[.agg #[.bool true, .bool true, .bool false], .int .i64 3] w fun e w' => e = .returned (.bool false) ∧ Kp w w') := fun w => pallows_any true true false 3 w
  have hq := eq_permP
  go_enter Try.func8, Try.ntmps8
  go_wp2_with fail
  with_reducible refine (s1.out _).mono ?_
  rintro e w1 ⟨rfl, K⟩
  have HK1 : Hid (Kp w w1) := ((Kp.refl w).alloc _).trans K
  obtain ⟨b1, hb1⟩ : ∃ b1, b1 = w.heap.size := ⟨_, rfl⟩
  have Hb11 : Hid (PX w1 b1 true true false) := by rw [hb1]; exact ((PX.made w true true false).kp (Kp.refl _)).kp K
  (try rw [← hb1])
  clear K hb1 s1
  go_wp2_with fail
  with_reducible refine (s2.out _).mono ?_
  rintro e w2 ⟨rfl, K⟩
  have HK2 : Hid (Kp w w2) := (HK1.out.alloc _).trans K
  have Hb12 : Hid (PX w2 b1 true true false) := (Hb11.out.kp ((Kp.refl _).alloc _)).kp K
  obtain ⟨b2, hb2⟩ : ∃ b2, b2 = w1.heap.size := ⟨_, rfl⟩
  have Hb22 : Hid (PX w2 b2 true false true) := by rw [hb2]; exact ((PX.made w1 true false true).kp (Kp.refl _)).kp K
  (try rw [← hb2])
  clear K hb2 HK1 Hb11 s2
  have Bb1 : PX (w2.alloc (.cells #[.bool false, .bool false, .bool false] 23)) b1 true true false := Hb12.out.kp ((Kp.refl _).alloc _)
  have x0 := Bb1.c0
  have x1 := Bb1.c1
  have x2 := Bb1.c2
  clear Bb1
  go_wp2_with fail
  with_reducible refine (s3.out _).mono ?_
  rintro e w3 ⟨rfl, K⟩
  have HK3 : Hid (Kp w w3) := (HK2.out.alloc _).trans K
  have Hb13 : Hid (PX w3 b1 true true false) := (Hb12.out.kp ((Kp.refl _).alloc _)).kp K
  have Hb23 : Hid (PX w3 b2 true false true) := (Hb22.out.kp ((Kp.refl _).alloc _)).kp K
  obtain ⟨b4, hb4⟩ : ∃ b4, b4 = w2.heap.size := ⟨_, rfl⟩
  have Hb43 : Hid (PX w3 b4 false false false) := by rw [hb4]; exact ((PX.made w2 false false false).kp (Kp.refl _)).kp K
  (try rw [← hb4])
  clear K hb4 HK2 Hb12 Hb22 s3 x0 x1 x2
  have x0 := Hb13.out.c0
  have x1 := Hb13.out.c1
  have x2 := Hb13.out.c2
  have y0 := Hb23.out.c0
  have y1 := Hb23.out.c1
  have y2 := Hb23.out.c2
  go_wp2_with fail
  with_reducible refine (s4.out _).mono ?_
  rintro e w4 ⟨rfl, K⟩
  have HK4 : Hid (Kp w w4) := HK3.out.trans K
  have Hb14 : Hid (PX w4 b1 true true false) := Hb13.out.kp K
  have Hb24 : Hid (PX w4 b2 true false true) := Hb23.out.kp K
  have Hb44 : Hid (PX w4 b4 false false false) := Hb43.out.kp K
  clear K HK3 Hb13 Hb23 Hb43 s4 x0 x1 x2 y0 y1 y2
  have x0 := Hb14.out.c0
  have x1 := Hb14.out.c1
  have x2 := Hb14.out.c2
  go_wp2_with fail
  with_reducible refine (s5.out _).mono ?_
  rintro e w5 ⟨rfl, K⟩
  have HK5 : Hid (Kp w w5) := HK4.out.trans K
  have Hb15 : Hid (PX w5 b1 true true false) := Hb14.out.kp K
  have Hb25 : Hid (PX w5 b2 true false true) := Hb24.out.kp K
  have Hb45 : Hid (PX w5 b4 false false false) := Hb44.out.kp K
  clear K HK4 Hb14 Hb24 Hb44 s5 x0 x1 x2
  have x0 := Hb15.out.c0
  have x1 := Hb15.out.c1
  have x2 := Hb15.out.c2
  go_wp2_with fail
  with_reducible refine (s6.out _).mono ?_
  rintro e w6 ⟨rfl, K⟩
  have HK6 : Hid (Kp w w6) := HK5.out.trans K
  have Hb16 : Hid (PX w6 b1 true true false) := Hb15.out.kp K
  have Hb26 : Hid (PX w6 b2 true false true) := Hb25.out.kp K
  have Hb46 : Hid (PX w6 b4 false false false) := Hb45.out.kp K
  clear K HK5 Hb15 Hb25 Hb45 s6 x0 x1 x2
  have x0 := Hb16.out.c0
  have x1 := Hb16.out.c1
  have x2 := Hb16.out.c2
  go_wp2_with fail
  with_reducible refine (s7.out _).mono ?_
  rintro e w7 ⟨rfl, K⟩
  have HK7 : Hid (Kp w w7) := HK6.out.trans K
  have Hb17 : Hid (PX w7 b1 true true false) := Hb16.out.kp K
  have Hb27 : Hid (PX w7 b2 true false true) := Hb26.out.kp K
  have Hb47 : Hid (PX w7 b4 false false false) := Hb46.out.kp K
  clear K HK6 Hb16 Hb26 Hb46 s7 x0 x1 x2
  have x0 := Hb17.out.c0
  have x1 := Hb17.out.c1
  have x2 := Hb17.out.c2
  go_wp2_with fail
  with_reducible refine (s8.out _).mono ?_
  rintro e w8 ⟨rfl, K⟩
  have HK8 : Hid (Kp w w8) := HK7.out.trans K
  have Hb18 : Hid (PX w8 b1 true true false) := Hb17.out.kp K
  have Hb28 : Hid (PX w8 b2 true false true) := Hb27.out.kp K
  have Hb48 : Hid (PX w8 b4 false false false) := Hb47.out.kp K
  clear K HK7 Hb17 Hb27 Hb47 s8 x0 x1 x2
  go_wp2_with fail
  go_ret
  exact ⟨rfl, HK8.out⟩

end Go.Proofs.Ytaielngncalplaa
