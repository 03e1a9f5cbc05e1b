/- BitsWhole: the walk. -/
import Derived.Test.YtddklpbddpjklaaB11
namespace Go.Proofs.Ytddklpbddpjklaa
open Go.RowKit

theorem mask6 (n : Int) : bits .and .i64 n 63 = n % 64 := i64_mask 6 63 n (by decide) (by decide)
theorem mask12 (u : Nat) (hu : u < 18446744073709551616) : bits .and .u64 (u : Int) 4095 = ((u % 4096 : Nat) : Int) := by
  have h := u64_and_nat u 4095 hu (by decide)
  rw [nat_mask12] at h
  exact h
theorem eq_of_bits {x y : Nat} (h : ∀ i, x.testBit i = y.testBit i) : x = y := Nat.eq_of_testBit_eq h
theorem back_field (u low n v : Nat) (hu : u < 18446744073709551616) (hl : low + n ≤ 64) : fieldN (setN u low n v) low n = v % 2 ^ n := by
  apply eq_of_bits
  intro i
  unfold fieldN
  rw [Nat.testBit_mod_two_pow, Nat.testBit_div_two_pow, set_bit u low n v _ hu hl, Nat.testBit_mod_two_pow]
  by_cases c : i < n
  · rw [if_pos (by omega), show i + low - low = i by omega]
  · simp [c]
theorem back_set (u low n v : Nat) (hu : u < 18446744073709551616) (hl : low + n ≤ 64) : setN (setN u low n v) low n (fieldN u low n) = u := by
  apply eq_of_bits
  intro i
  rw [set_bit _ low n _ i (set_lt u low n v hu hl) hl]
  split
  · rename_i c
    unfold fieldN
    rw [Nat.testBit_mod_two_pow, Nat.testBit_div_two_pow, decide_eq_true (by omega : i - low < n), Bool.true_and, show i - low + low = i by omega]
  · rename_i c
    rw [set_bit u low n v i hu hl, if_neg c]
theorem not_bit (u low n i : Nat) (hl : low + n ≤ 64) : (u &&& (18446744073709551615 - on n * 2 ^ low)).testBit i = (u.testBit i && decide (i < 64) && !(decide (low ≤ i ∧ i < low + n))) := by
  have l1 := shl_lt (on_pow n) hl
  have e1 : 18446744073709551615 - on n * 2 ^ low = 2 ^ 64 - (on n * 2 ^ low + 1) := by
    have : (2 : Nat) ^ 64 = 18446744073709551616 := rfl
    omega
  rw [Nat.testBit_and, e1, Nat.testBit_two_pow_sub_succ (by exact l1), Nat.testBit_mul_two_pow]
  unfold on
  rw [Nat.testBit_two_pow_sub_one, Bool.and_assoc]
  congr 3
  by_cases h1 : low ≤ i
  · have : (i - low < n) ↔ (i < low + n) := by omega
    simp [h1, this]
  · simp [h1]
theorem back_not (u low n v : Nat) (hu : u < 18446744073709551616) (hl : low + n ≤ 64) : setN u low n v &&& (18446744073709551615 - on n * 2 ^ low) = u &&& (18446744073709551615 - on n * 2 ^ low) := by
  apply eq_of_bits
  intro i
  rw [not_bit _ low n i hl, not_bit u low n i hl, set_bit u low n v i hu hl]
  by_cases c : low ≤ i ∧ i < low + n
  · simp [c]
  · rw [if_neg c]

set_option maxHeartbeats 8000000 in
set_option maxRecDepth 100000 in
theorem whole_lt (u v x : Nat) (low n : Int) (L M r N : Nat) (w : World) (hu : u < 18446744073709551616) (hx : x < 18446744073709551616) (hv : v < 18446744073709551616) (hL : low % 64 = L) (hM : n % 64 = M) (hr : r = M % (64 - L)) (hNr : N = 1 + r) (hN : N < 64) (hLN : L + N ≤ 64) :
    Calls Try.prog 7 #[.int .u64 (u : Int), .int .u64 (x : Int), .int .i64 low, .int .i64 n, .int .u64 (v : Int)] w fun e w' => e = .returned (.bool true) ∧ Kp w w' := by
  have m1 := mask6 low
  rw [hL] at m1
  have m2 := mask6 n
  rw [hM] at m2
  have m48 := mask48 u hu
  have m12 := mask12 u hu
  obtain ⟨a, ha⟩ : ∃ a, a = u % 281474976710656 := ⟨_, rfl⟩
  rw [← ha] at m48
  obtain ⟨b, hb⟩ : ∃ a, a = u % 4096 := ⟨_, rfl⟩
  rw [← hb] at m12
  obtain ⟨x0, h0⟩ : ∃ x, x = u / 549755813888 % 512 := ⟨_, rfl⟩
  have c0 := fun w => index_0 u x0 w hu h0
  have y0 : (x0 : Int) < 512 := by omega
  obtain ⟨x1, h1⟩ : ∃ x, x = u / 1073741824 % 512 := ⟨_, rfl⟩
  have c1 := fun w => index_1 u x1 w hu h1
  have y1 : (x1 : Int) < 512 := by omega
  obtain ⟨x2, h2⟩ : ∃ x, x = u / 2097152 % 512 := ⟨_, rfl⟩
  have c2 := fun w => index_2 u x2 w hu h2
  have y2 : (x2 : Int) < 512 := by omega
  obtain ⟨x3, h3⟩ : ∃ x, x = u / 4096 % 512 := ⟨_, rfl⟩
  have c3 := fun w => index_3 u x3 w hu h3
  have y3 : (x3 : Int) < 512 := by omega
  have y4 : (b : Int) < 4096 := by omega
  have t1 : (b : Int) + (x0 : Int) * 549755813888 + (x1 : Int) * 1073741824 + (x2 : Int) * 2097152 + (x3 : Int) * 4096 = a := by omega
  have l1 : (L : Int) < 64 := by omega
  have r1 : (M : Int).tmod (64 - (L : Int)) = r := by
    rw [Int.tmod_eq_emod_of_nonneg (by omega), hr, Int.natCast_emod]
    congr 1; omega
  have r2 : (M : Int) % (64 - (L : Int)) = r := by
    rw [hr, Int.natCast_emod]
    congr 1; omega
  have n1 : (1 : Int) + r = N := by omega
  have n2 : (r : Int) < 64 := by omega
  have f1 := fun w => set_any x L N v w hx hv (by omega) hLN
  have f2 := fun w => field_any (setN x L N v) L N w (set_lt x L N v hx hLN) (by omega) hLN
  have f3 := fun w => field_any x L N w hx (by omega) hLN
  have f4 := fun w => set_any (setN x L N v) L N (fieldN x L N) w (set_lt x L N v hx hLN) (Nat.lt_of_lt_of_le (field_lt x L N) (Nat.pow_le_pow_right (n := 2) (by decide) (show N ≤ 64 by omega))) (by omega) hLN
  rw [back_field x L N v hx hLN] at f2
  rw [back_set x L N v hx hLN] at f4
  have g1 := u64_and_nat v (on N) hv (on_lt (by omega))
  rw [on, Nat.and_two_pow_sub_one_eq_mod, ← on] at g1
  have s1 := shl_lt (on_pow N) hLN
  have g2 := shl_mod s1
  have g3 := u64_andNot_nat (setN x L N v) (on N * 2 ^ L) (set_lt x L N v hx hLN) s1
  rw [back_not x L N v hx hLN] at g3
  have g4 := u64_andNot_nat x (on N * 2 ^ L) hx s1
  have p0 : (2 : Nat) ^ N < 18446744073709551616 := Nat.pow_lt_pow_right (a := 2) (by decide) (show N < 64 by omega)
  have p1 : IntKind.u64.wrap (2 ^ N) = ((2 ^ N : Nat) : Int) := by
    have q := shl_mod (c := 1) (low := N) (by rw [Nat.one_mul]; exact p0)
    rw [Nat.one_mul] at q
    rw [← q]; congr 1; simp
  have p2 : (2 : Int) ^ N % 18446744073709551616 = ((2 ^ N : Nat) : Int) := by
    have e : (2 : Int) ^ N = ((2 ^ N : Nat) : Int) := by simp
    rw [e]; omega
  have p3 : ((2 ^ N : Nat) : Int) - 1 = (on N : Nat) := by have := Nat.two_pow_pos N; unfold on; omega
  have p4 : (1 : Int) ≤ ((2 ^ N : Nat) : Int) := by have := Nat.two_pow_pos N; omega
  have p5 : ((2 ^ N : Nat) : Int) < 18446744073709551616 := by omega
  have n3 : (N : Int) < 64 := by omega
  clear hu hx hv hL hM hr hNr hLN s1 ha hb h0 h1 h2 h3 hN
  generalize x &&& (18446744073709551615 - on N * 2 ^ L) = k1 at *
  generalize on N * 2 ^ L = k2 at *
  generalize setN x L N v = k3 at *
  generalize fieldN x L N = k4 at *
  generalize v % 2 ^ N = k5 at *
  generalize on N = k6 at *
  generalize ((2 ^ N : Nat) : Int) = k7 at *
  clear p0
  go_enter Try.func7, Try.ntmps7
  go_wp2_with fail
  refine wp_loop_rounds 5 ?_
  rw [rounds_succ]; go_wp2_with fail
  with_reducible refine (c0 _).mono ?_
  rintro e w1 ⟨rfl, D⟩
  have H1 : Hid (Kp _ w1) := D.kp
  clear D
  go_wp2_with (go_at_call 21; with_reducible refine (span_0 _).mono ?_; rintro e w' ⟨rfl, rfl⟩)
  rw [rounds_succ]; go_wp2_with fail
  with_reducible refine (c1 _).mono ?_
  rintro e w2 ⟨rfl, D⟩
  have H2 : Hid (Kp _ w2) := H1.out.trans D.kp
  clear D H1
  go_wp2_with (go_at_call 21; with_reducible refine (span_1 _).mono ?_; rintro e w' ⟨rfl, rfl⟩)
  rw [rounds_succ]; go_wp2_with fail
  with_reducible refine (c2 _).mono ?_
  rintro e w3 ⟨rfl, D⟩
  have H3 : Hid (Kp _ w3) := H2.out.trans D.kp
  clear D H2
  go_wp2_with (go_at_call 21; with_reducible refine (span_2 _).mono ?_; rintro e w' ⟨rfl, rfl⟩)
  rw [rounds_succ]; go_wp2_with fail
  with_reducible refine (c3 _).mono ?_
  rintro e w4 ⟨rfl, D⟩
  have H4 : Hid (Kp _ w4) := H3.out.trans D.kp
  clear D H3
  go_wp2_with (go_at_call 21; with_reducible refine (span_3 _).mono ?_; rintro e w' ⟨rfl, rfl⟩)
  rw [rounds_succ]; go_wp2_with fail
  with_reducible refine (f1 _).mono ?_
  rintro e w5 ⟨rfl, D⟩
  have H5 : Hid (Kp _ w5) := H4.out.trans D.kp
  clear D H4
  go_wp2_with fail
  with_reducible refine (told_any _).mono ?_
  rintro e w6 ⟨rfl, D⟩
  have H6 : Hid (Kp _ w6) := H5.out.trans D
  clear D H5
  go_wp2_with fail
  with_reducible refine (f2 _).mono ?_
  rintro e w7 ⟨rfl, D⟩
  have H7 : Hid (Kp _ w7) := H6.out.trans D.kp
  clear D H6
  go_wp2_with fail
  with_reducible refine (f3 _).mono ?_
  rintro e w8 ⟨rfl, D⟩
  have H8 : Hid (Kp _ w8) := H7.out.trans D.kp
  clear D H7
  go_wp2_with fail
  with_reducible refine (f4 _).mono ?_
  rintro e w9 ⟨rfl, D⟩
  have H9 : Hid (Kp _ w9) := H8.out.trans D.kp
  clear D H8
  go_wp2_with fail
  go_ret
  exact ⟨rfl, H9.out⟩

set_option maxHeartbeats 8000000 in
set_option maxRecDepth 100000 in
theorem whole_eq (u v x : Nat) (low n : Int) (L M r N : Nat) (w : World) (hu : u < 18446744073709551616) (hx : x < 18446744073709551616) (hv : v < 18446744073709551616) (hL : low % 64 = L) (hM : n % 64 = M) (hr : r = M % (64 - L)) (hNr : N = 1 + r) (hN : N = 64) (hLN : L + N ≤ 64) :
    Calls Try.prog 7 #[.int .u64 (u : Int), .int .u64 (x : Int), .int .i64 low, .int .i64 n, .int .u64 (v : Int)] w fun e w' => e = .returned (.bool true) ∧ Kp w w' := by
  have m1 := mask6 low
  rw [hL] at m1
  have m2 := mask6 n
  rw [hM] at m2
  have m48 := mask48 u hu
  have m12 := mask12 u hu
  obtain ⟨a, ha⟩ : ∃ a, a = u % 281474976710656 := ⟨_, rfl⟩
  rw [← ha] at m48
  obtain ⟨b, hb⟩ : ∃ a, a = u % 4096 := ⟨_, rfl⟩
  rw [← hb] at m12
  obtain ⟨x0, h0⟩ : ∃ x, x = u / 549755813888 % 512 := ⟨_, rfl⟩
  have c0 := fun w => index_0 u x0 w hu h0
  have y0 : (x0 : Int) < 512 := by omega
  obtain ⟨x1, h1⟩ : ∃ x, x = u / 1073741824 % 512 := ⟨_, rfl⟩
  have c1 := fun w => index_1 u x1 w hu h1
  have y1 : (x1 : Int) < 512 := by omega
  obtain ⟨x2, h2⟩ : ∃ x, x = u / 2097152 % 512 := ⟨_, rfl⟩
  have c2 := fun w => index_2 u x2 w hu h2
  have y2 : (x2 : Int) < 512 := by omega
  obtain ⟨x3, h3⟩ : ∃ x, x = u / 4096 % 512 := ⟨_, rfl⟩
  have c3 := fun w => index_3 u x3 w hu h3
  have y3 : (x3 : Int) < 512 := by omega
  have y4 : (b : Int) < 4096 := by omega
  have t1 : (b : Int) + (x0 : Int) * 549755813888 + (x1 : Int) * 1073741824 + (x2 : Int) * 2097152 + (x3 : Int) * 4096 = a := by omega
  have l1 : (L : Int) < 64 := by omega
  have r1 : (M : Int).tmod (64 - (L : Int)) = r := by
    rw [Int.tmod_eq_emod_of_nonneg (by omega), hr, Int.natCast_emod]
    congr 1; omega
  have r2 : (M : Int) % (64 - (L : Int)) = r := by
    rw [hr, Int.natCast_emod]
    congr 1; omega
  have n1 : (1 : Int) + r = N := by omega
  have n2 : (r : Int) < 64 := by omega
  have f1 := fun w => set_any x L N v w hx hv (by omega) hLN
  have f2 := fun w => field_any (setN x L N v) L N w (set_lt x L N v hx hLN) (by omega) hLN
  have f3 := fun w => field_any x L N w hx (by omega) hLN
  have f4 := fun w => set_any (setN x L N v) L N (fieldN x L N) w (set_lt x L N v hx hLN) (Nat.lt_of_lt_of_le (field_lt x L N) (Nat.pow_le_pow_right (n := 2) (by decide) (show N ≤ 64 by omega))) (by omega) hLN
  rw [back_field x L N v hx hLN] at f2
  rw [back_set x L N v hx hLN] at f4
  have g1 := u64_and_nat v (on N) hv (on_lt (by omega))
  rw [on, Nat.and_two_pow_sub_one_eq_mod, ← on] at g1
  have s1 := shl_lt (on_pow N) hLN
  have g2 := shl_mod s1
  have g3 := u64_andNot_nat (setN x L N v) (on N * 2 ^ L) (set_lt x L N v hx hLN) s1
  rw [back_not x L N v hx hLN] at g3
  have g4 := u64_andNot_nat x (on N * 2 ^ L) hx s1
  have p0 : on N = 18446744073709551615 := by rw [hN]; rfl
  have n3 : ¬ (N : Int) < 64 := by omega
  clear hu hx hv hL hM hr hNr hLN s1 ha hb h0 h1 h2 h3
  generalize x &&& (18446744073709551615 - on N * 2 ^ L) = k1 at *
  generalize on N * 2 ^ L = k2 at *
  generalize setN x L N v = k3 at *
  generalize fieldN x L N = k4 at *
  generalize v % 2 ^ N = k5 at *
  rw [p0] at g1 g2
  have g1' : bits .and .u64 (v : Int) 18446744073709551615 = k5 := g1
  have g2' : IntKind.u64.wrap (18446744073709551615 * 2 ^ L) = k2 := g2
  clear g1 g2
  clear p0 hN
  go_enter Try.func7, Try.ntmps7
  go_wp2_with fail
  refine wp_loop_rounds 5 ?_
  rw [rounds_succ]; go_wp2_with fail
  with_reducible refine (c0 _).mono ?_
  rintro e w1 ⟨rfl, D⟩
  have H1 : Hid (Kp _ w1) := D.kp
  clear D
  go_wp2_with (go_at_call 21; with_reducible refine (span_0 _).mono ?_; rintro e w' ⟨rfl, rfl⟩)
  rw [rounds_succ]; go_wp2_with fail
  with_reducible refine (c1 _).mono ?_
  rintro e w2 ⟨rfl, D⟩
  have H2 : Hid (Kp _ w2) := H1.out.trans D.kp
  clear D H1
  go_wp2_with (go_at_call 21; with_reducible refine (span_1 _).mono ?_; rintro e w' ⟨rfl, rfl⟩)
  rw [rounds_succ]; go_wp2_with fail
  with_reducible refine (c2 _).mono ?_
  rintro e w3 ⟨rfl, D⟩
  have H3 : Hid (Kp _ w3) := H2.out.trans D.kp
  clear D H2
  go_wp2_with (go_at_call 21; with_reducible refine (span_2 _).mono ?_; rintro e w' ⟨rfl, rfl⟩)
  rw [rounds_succ]; go_wp2_with fail
  with_reducible refine (c3 _).mono ?_
  rintro e w4 ⟨rfl, D⟩
  have H4 : Hid (Kp _ w4) := H3.out.trans D.kp
  clear D H3
  go_wp2_with (go_at_call 21; with_reducible refine (span_3 _).mono ?_; rintro e w' ⟨rfl, rfl⟩)
  rw [rounds_succ]; go_wp2_with fail
  with_reducible refine (f1 _).mono ?_
  rintro e w5 ⟨rfl, D⟩
  have H5 : Hid (Kp _ w5) := H4.out.trans D.kp
  clear D H4
  go_wp2_with fail
  with_reducible refine (told_any _).mono ?_
  rintro e w6 ⟨rfl, D⟩
  have H6 : Hid (Kp _ w6) := H5.out.trans D
  clear D H5
  go_wp2_with fail
  with_reducible refine (f2 _).mono ?_
  rintro e w7 ⟨rfl, D⟩
  have H7 : Hid (Kp _ w7) := H6.out.trans D.kp
  clear D H6
  go_wp2_with fail
  with_reducible refine (f3 _).mono ?_
  rintro e w8 ⟨rfl, D⟩
  have H8 : Hid (Kp _ w8) := H7.out.trans D.kp
  clear D H7
  go_wp2_with fail
  with_reducible refine (f4 _).mono ?_
  rintro e w9 ⟨rfl, D⟩
  have H9 : Hid (Kp _ w9) := H8.out.trans D.kp
  clear D H8
  go_wp2_with fail
  go_ret
  exact ⟨rfl, H9.out⟩

theorem whole_law (u x low n v : Int) (w : World) (hu : (Lit.int .u64 u).wf = true) (hx : (Lit.int .u64 x).wf = true) (hv : (Lit.int .u64 v).wf = true) :
    Calls Try.prog 7 #[.int .u64 u, .int .u64 x, .int .i64 low, .int .i64 n, .int .u64 v] w fun e w' => e = .returned (.bool true) ∧ Kp w w' := by
  have h1 := wf_word hu
  have h2 := wf_word hx
  have h3 := wf_word hv
  obtain ⟨u, rfl⟩ : ∃ n : Nat, u = n := ⟨u.toNat, by omega⟩
  obtain ⟨x, rfl⟩ : ∃ n : Nat, x = n := ⟨x.toNat, by omega⟩
  obtain ⟨v, rfl⟩ : ∃ n : Nat, v = n := ⟨v.toNat, by omega⟩
  obtain ⟨L, hL⟩ : ∃ L : Nat, low % 64 = L := ⟨(low % 64).toNat, by omega⟩
  obtain ⟨M, hM⟩ : ∃ M : Nat, n % 64 = M := ⟨(n % 64).toNat, by omega⟩
  have hr : M % (64 - L) < 64 - L := Nat.mod_lt _ (by omega)
  by_cases c : 1 + M % (64 - L) < 64
  · exact whole_lt u v x low n L M _ _ w (by omega) (by omega) (by omega) hL hM rfl rfl c (by omega)
  · exact whole_eq u v x low n L M _ _ w (by omega) (by omega) (by omega) hL hM rfl rfl (by omega) (by omega)

end Go.Proofs.Ytddklpbddpjklaa
