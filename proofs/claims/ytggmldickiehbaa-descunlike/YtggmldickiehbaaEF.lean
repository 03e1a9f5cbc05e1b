/- desc: what the program tells of a few. -/
import Derived.Test.YtggmldickiehbaaEC
namespace Go.Proofs.Ytggmldickiehbaa
open Go.RowKit

theorem eq_like (k a : Int) (r q x : Bool) (f : Int) (w : World) : (Op.equalIn 10000 26 (.agg #[.int .i64 k, .int .u64 a, .bool r, .bool q, .bool x, .int .i64 f]) (.agg #[.int .i64 k, .int .u64 a, .bool r, .bool q, .bool x, .int .i64 f])).run Try.prog w = .ok true w := by
  rw [eq_desc]; simp

theorem t_enc1 : dchk 1 3 3 12288 true true false 0 = 0 ∧ dencN 1 3 3 12288 true true false 0 = 12483 := by decide +kernel
theorem t_enc2 : dchk 2 0 1 12288 false false false 0 = 0 ∧ dencN 2 0 1 12288 false false false 0 = 12291 := by decide +kernel
theorem t_dec1 : decG 1 3 12483 = true ∧ decE 1 3 12483 = 0 ∧ kdN 3 12483 = 3 ∧ adN 12483 = 12288 ∧ btN 12483 6 = true ∧ btN 12483 7 = true ∧ btN 12483 8 = false ∧ fieldN 12483 55 4 = 0 := by decide +kernel
theorem t_dec2 : decG 1 3 12289 = false ∧ decE 1 3 12289 = 4 := by decide +kernel
theorem t_dec3 : decG 2 3 4294967299 = false ∧ decE 2 3 4294967299 = 2 := by decide +kernel
theorem t_chk : dchk 1 4 3 12288 true true false 0 = 1 := by decide +kernel

set_option maxHeartbeats 8000000 in
set_option maxRecDepth 10000 in
theorem dtold_any (w : World) : Calls Try.prog 11 #[] w fun e w' => e = .returned (.bool true) ∧ Kp w w' := by
  have s1 : Aside (∀ w, Calls Try.prog 9 #[.int .i64 1, .int .i64 3, .agg #[.int .i64 3, .int .u64 12288, .bool true, .bool true, .bool false, .int .i64 0]] w fun e w' => e = .returned (.tuple #[.int .u64 12483, .int .i64 0]) ∧ Kp w w') := fun w => by
    have := encode_any 1 3 3 12288 true true false 0 w
    rw [t_enc1.1, t_enc1.2] at this; exact this
  have s2 : Aside (∀ w, Calls Try.prog 9 #[.int .i64 2, .int .i64 0, .agg #[.int .i64 1, .int .u64 12288, .bool false, .bool false, .bool false, .int .i64 0]] w fun e w' => e = .returned (.tuple #[.int .u64 12291, .int .i64 0]) ∧ Kp w w') := fun w => by
    have := encode_any 2 0 1 12288 false false false 0 w
    rw [t_enc2.1, t_enc2.2] at this; exact this
  have s3 : Aside (∀ w, Calls Try.prog 16 #[.int .i64 1, .int .i64 3, .int .u64 12483] w fun e w' => e = .returned (.tuple #[.agg #[.int .i64 3, .int .u64 12288, .bool true, .bool true, .bool false, .int .i64 0], .int .i64 0]) ∧ Kp w w') := fun w => by
    have := decode_any 1 3 12483 w (by decide)
    rw [t_dec1.1, t_dec1.2.1, t_dec1.2.2.1, t_dec1.2.2.2.1, t_dec1.2.2.2.2.1, t_dec1.2.2.2.2.2.1, t_dec1.2.2.2.2.2.2.1, t_dec1.2.2.2.2.2.2.2] at this; exact this
  have s4 : Aside (∀ w, Calls Try.prog 16 #[.int .i64 1, .int .i64 3, .int .u64 12289] w fun e w' => e = .returned (.tuple #[.agg #[.int .i64 0, .int .u64 0, .bool false, .bool false, .bool false, .int .i64 0], .int .i64 4]) ∧ Kp w w') := fun w => by
    have := decode_any 1 3 12289 w (by decide)
    rw [t_dec2.1, t_dec2.2] at this; exact this
  have s5 : Aside (∀ w, Calls Try.prog 16 #[.int .i64 2, .int .i64 3, .int .u64 4294967299] w fun e w' => e = .returned (.tuple #[.agg #[.int .i64 0, .int .u64 0, .bool false, .bool false, .bool false, .int .i64 0], .int .i64 2]) ∧ Kp w w') := fun w => by
    have := decode_any 2 3 4294967299 w (by decide)
    rw [t_dec3.1, t_dec3.2] at this; exact this
  have s6 : ∀ w, Calls Try.prog 14 #[.int .i64 1] w fun e w' => e = .returned (.int .u64 1099511627776) ∧ w' = w := fun w => top_any 1 w
  have s7 : ∀ w, Calls Try.prog 14 #[.int .i64 2] w fun e w' => e = .returned (.int .u64 4294967296) ∧ w' = w := fun w => top_any 2 w
  have s8 : Aside (∀ w, Calls Try.prog 12 #[.int .i64 1, .int .i64 4, .agg #[.int .i64 3, .int .u64 12288, .bool true, .bool true, .bool false, .int .i64 0]] w fun e w' => e = .returned (.int .i64 1) ∧ Kp w w') := fun w => by
    have := dcheck_any 1 4 3 12288 true true false 0 w
    rw [t_chk] at this; exact this
  have S6 : Aside _ := s6
  have S7 : Aside _ := s7
  clear s6 s7
  obtain ⟨b1, hb1⟩ : ∃ b1, b1 = w.heap.size := ⟨_, rfl⟩
  go_enter Try.func11, Try.ntmps11
  go_wp2_with fail
  with_reducible refine (s1.out _).mono ?_
  rintro e w1 ⟨rfl, K⟩
  have HK : Hid (Kp w w1) := ((Kp.refl _).alloc _).trans K
  have HB : Hid (BX w1 b1 3 12288 true true false 0) := by rw [hb1]; exact (BX.made w 3 12288 true true false 0).kp K
  rw [← hb1]
  clear K s1 hb1
  go_wp2_with fail
  with_reducible refine (s2.out _).mono ?_
  rintro e w2 ⟨rfl, K⟩
  have HK2 : Hid (Kp w w2) := HK.out.trans K
  have HB2 : Hid (BX w2 b1 3 12288 true true false 0) := HB.out.kp K
  clear K s2 HK HB
  go_wp2_with fail
  with_reducible refine (s3.out _).mono ?_
  rintro e w3 ⟨rfl, K⟩
  have HK3 : Hid (Kp w w3) := HK2.out.trans K
  have HB3 : Hid (BX w3 b1 3 12288 true true false 0) := HB2.out.kp K
  obtain ⟨b6, hb6⟩ : ∃ b6, b6 = w3.heap.size := ⟨_, rfl⟩
  clear K s3 HK2 HB2
  go_wp2_with fail
  with_reducible refine (s4.out _).mono ?_
  rintro e w4 ⟨rfl, K⟩
  have HK4 : Hid (Kp w w4) := (HK3.out.alloc _).trans K
  have HB4 : Hid (BX w4 b1 3 12288 true true false 0) := (HB3.out.kp ((Kp.refl _).alloc _)).kp K
  have HD4 : Hid (BX w4 b6 3 12288 true true false 0) := by rw [hb6]; exact (BX.made w3 3 12288 true true false 0).kp K
  rw [← hb6]
  clear K s4 HK3 HB3 hb6
  go_wp2_with fail
  with_reducible refine (s5.out _).mono ?_
  rintro e w5 ⟨rfl, K⟩
  have HK5 : Hid (Kp w w5) := (HK4.out.alloc _).trans K
  have HB5 : Hid (BX w5 b1 3 12288 true true false 0) := (HB4.out.kp ((Kp.refl _).alloc _)).kp K
  have HD5 : Hid (BX w5 b6 3 12288 true true false 0) := (HD4.out.kp ((Kp.refl _).alloc _)).kp K
  clear K s5 HK4 HB4 HD4
  have HK6 : Hid (Kp w (w5.alloc (.cells #[.int .i64 0, .int .u64 0, .bool false, .bool false, .bool false, .int .i64 0] 26))) := HK5.out.alloc _
  have B1 : BX (w5.alloc (.cells #[.int .i64 0, .int .u64 0, .bool false, .bool false, .bool false, .int .i64 0] 26)) b1 3 12288 true true false 0 := HB5.out.kp ((Kp.refl _).alloc _)
  have B6 : BX (w5.alloc (.cells #[.int .i64 0, .int .u64 0, .bool false, .bool false, .bool false, .int .i64 0] 26)) b6 3 12288 true true false 0 := HD5.out.kp ((Kp.refl _).alloc _)
  have x0 := B1.c0
  have y0 := B6.c0
  have x1 := B1.c1
  have y1 := B6.c1
  have x2 := B1.c2
  have y2 := B6.c2
  have x3 := B1.c3
  have y3 := B6.c3
  have x4 := B1.c4
  have y4 := B6.c4
  have x5 := B1.c5
  have y5 := B6.c5
  clear B1 B6 HK5 HB5 HD5
  have hq := eq_like 3 12288 true true false 0
  go_wp2_with (first | (go_at_call 14; go_must (with_reducible first | refine (S6.out _).mono ?_ | refine (S7.out _).mono ?_); rintro e w' ⟨rfl, rfl⟩))
  with_reducible refine (s8.out _).mono ?_
  rintro e w7 ⟨rfl, K⟩
  have HK7 : Hid (Kp w w7) := HK6.out.trans K
  clear K
  go_wp2_with fail
  go_ret
  exact ⟨rfl, HK7.out⟩

end Go.Proofs.Ytggmldickiehbaa
