/- desc: the document's Encode. -/
import Derived.Test.YtcbciehffgaapaaE8
namespace Go.Proofs.Ytcbciehffgaapaa
open Go.RowKit

theorem rbit_1 (b : Bool) (w : World) : Calls Try.prog 36 #[.bool b, .int .i64 1] w fun e w' => e = .returned (.int .u64 (2 * oneN b : Nat)) ∧ w' = w := by
  cases b
  all_goals
    go_enter Try.func36, Try.ntmps36
    go_wp2
    go_ret
    exact ⟨rfl, rfl⟩
theorem rbit_6 (b : Bool) (w : World) : Calls Try.prog 36 #[.bool b, .int .i64 6] w fun e w' => e = .returned (.int .u64 (64 * oneN b : Nat)) ∧ w' = w := by
  cases b
  all_goals
    go_enter Try.func36, Try.ntmps36
    go_wp2
    go_ret
    exact ⟨rfl, rfl⟩
theorem rbit_7 (b : Bool) (w : World) : Calls Try.prog 36 #[.bool b, .int .i64 7] w fun e w' => e = .returned (.int .u64 (128 * oneN b : Nat)) ∧ w' = w := by
  cases b
  all_goals
    go_enter Try.func36, Try.ntmps36
    go_wp2
    go_ret
    exact ⟨rfl, rfl⟩
theorem rbit_8 (b : Bool) (w : World) : Calls Try.prog 36 #[.bool b, .int .i64 8] w fun e w' => e = .returned (.int .u64 (256 * oneN b : Nat)) ∧ w' = w := by
  cases b
  all_goals
    go_enter Try.func36, Try.ntmps36
    go_wp2
    go_ret
    exact ⟨rfl, rfl⟩

theorem u64_id {z : Int} (h : 0 ≤ z) (h' : z < 18446744073709551616) : IntKind.u64.wrap z = z := by
  simp [IntKind.wrap, IntKind.bits, IntKind.signed]; omega
theorem sum_wrap {m1 m2 m3 m4 a g : Nat} (h1 : (m1 : Int) ≤ 2) (h2 : (m2 : Int) ≤ 64) (h3 : (m3 : Int) ≤ 128) (h4 : (m4 : Int) ≤ 256) (h5 : a < topS 1) (h6 : (g : Int) ≤ 15) :
    IntKind.u64.wrap (IntKind.u64.wrap (IntKind.u64.wrap (IntKind.u64.wrap (IntKind.u64.wrap (IntKind.u64.wrap (1 + (m1 : Int)) + m2) + m3) + m4) + a) + (g : Int) * 36028797018963968) = ((1 + m1 + m2 + m3 + m4 + a + g * 36028797018963968 : Nat) : Int) := by
  have h5' : a < 1099511627776 := h5
  rw [u64_id (z := 1 + (m1 : Int)) (by omega) (by omega)]
  rw [u64_id (z := 1 + (m1 : Int) + m2) (by omega) (by omega)]
  rw [u64_id (z := 1 + (m1 : Int) + m2 + m3) (by omega) (by omega)]
  rw [u64_id (z := 1 + (m1 : Int) + m2 + m3 + m4) (by omega) (by omega)]
  rw [u64_id (z := 1 + (m1 : Int) + m2 + m3 + m4 + a) (by omega) (by omega)]
  rw [u64_id (by omega) (by omega)]
  omega

set_option maxHeartbeats 4000000 in
set_option maxRecDepth 10000 in
theorem rencode_any (s l k : Int) (a : Nat) (r q x : Bool) (f : Int) (w : World) :
    Calls Try.prog 23 #[.int .i64 s, .int .i64 l, .agg #[.int .i64 k, .int .u64 (a : Int), .bool r, .bool q, .bool x, .int .i64 f]] w fun e w' => e = .returned (.tuple #[.int .u64 (dencN s l k a r q x f : Nat), .int .i64 (dchk s l k a r q x f)]) ∧ Kp w w' := by
  have c1 := rcheck_any s l k a r q x f
  by_cases h : dchk s l k a r q x f = 0
  · rw [dencN, if_pos h, h]
    rw [h] at c1
    by_cases hk : k = 0
    · subst hk
      rw [wrd, if_pos rfl]
      clear h
      go_enter Try.func23, Try.ntmps23
      go_wp2_with fail
      with_reducible refine (c1 _).mono ?_
      rintro e w1 ⟨rfl, K⟩
      have B := (BX.made w 0 a r q x f).kp K
      have HK : Hid (Kp w w1) := ((Kp.refl _).alloc _).trans K
      have x0 := B.c0
      clear K B
      go_wp2
      go_ret2
      exact ⟨rfl, HK.out⟩
    · rw [wrd, if_neg hk]
      obtain ⟨c, ha, hc⟩ := chk_addr h
      obtain ⟨_, _, ⟨hf0, hf1⟩, _⟩ := chk_ok h
      obtain ⟨g, rfl⟩ : ∃ g : Nat, f = g := ⟨f.toNat, by omega⟩
      obtain ⟨bb, hbb⟩ : ∃ bb, (k != 2) = bb := ⟨_, rfl⟩
      rw [hbb, Int.toNat_natCast]
      have o1 := one_lt bb
      have o2 := one_lt r
      have o3 := one_lt q
      have o4 := one_lt x
      have s1 := rbit_1 bb
      have s2 := rbit_6 r
      have s3 := rbit_7 q
      have s4 := rbit_8 x
      obtain ⟨m1, e1⟩ : ∃ n, n = 2 * oneN bb := ⟨_, rfl⟩
      obtain ⟨m2, e2⟩ : ∃ n, n = 64 * oneN r := ⟨_, rfl⟩
      obtain ⟨m3, e3⟩ : ∃ n, n = 128 * oneN q := ⟨_, rfl⟩
      obtain ⟨m4, e4⟩ : ∃ n, n = 256 * oneN x := ⟨_, rfl⟩
      rw [← e1, ← e2, ← e3, ← e4]
      rw [← e1] at s1
      have t1 : Aside _ := s1
      clear s1
      rw [← e2] at s2
      have t2 : Aside _ := s2
      clear s2
      rw [← e3] at s3
      have t3 : Aside _ := s3
      clear s3
      rw [← e4] at s4
      have t4 : Aside _ := s4
      clear s4
      have i1 : Hid ((m1 : Int) ≤ 2) := by show (m1 : Int) ≤ 2; omega
      have i2 : Hid ((m2 : Int) ≤ 64) := by show (m2 : Int) ≤ 64; omega
      have i3 : Hid ((m3 : Int) ≤ 128) := by show (m3 : Int) ≤ 128; omega
      have i4 : Hid ((m4 : Int) ≤ 256) := by show (m4 : Int) ≤ 256; omega
      have i5 : Hid (a < topS 1) := by show a < 1099511627776; omega
      have g1 : (g : Int) ≤ 15 := by omega
      clear e1 e2 e3 e4 o1 o2 o3 o4 h ha hc hf0 hf1
      go_enter Try.func23, Try.ntmps23
      go_wp2_with fail
      with_reducible refine (c1 _).mono ?_
      rintro e w1 ⟨rfl, K⟩
      have B := (BX.made w k a r q x g).kp K
      have HK : Hid (Kp w w1) := ((Kp.refl _).alloc _).trans K
      have x0 := B.c0
      have x1 := B.c1
      have x2 := B.c2
      have x3 := B.c3
      have x4 := B.c4
      have x5 := B.c5
      clear K B c1
      go_wp2_with fail
      go_quiet (first | (go_at_call 36; go_must (first | (with_reducible refine Calls.quiet_of_same (t1.out _)) | (with_reducible refine Calls.quiet_of_same (t2.out _)) | (with_reducible refine Calls.quiet_of_same (t3.out _)) | (with_reducible refine Calls.quiet_of_same (t4.out _)))))
      go_wp2_with fail
      go_ret2
      exact ⟨congrArg (fun z : Int => Ending.returned (.tuple #[.int .u64 z, .int .i64 0])) (sum_wrap i1.out i2.out i3.out i4.out i5.out g1), HK.out.drewN _⟩
  · rw [dencN, if_neg h]
    generalize dchk s l k a r q x f = e at *
    have h1 : (e != 0) = true := by rw [bne_iff_ne]; exact h
    go_enter Try.func23, Try.ntmps23
    go_wp2_with fail
    with_reducible refine (c1 _).mono ?_
    rintro e w1 ⟨rfl, K⟩
    have HK : Hid (Kp w w1) := ((Kp.refl _).alloc _).trans K
    clear K
    go_wp2
    go_ret2
    exact ⟨rfl, HK.out⟩

end Go.Proofs.Ytcbciehffgaapaa
